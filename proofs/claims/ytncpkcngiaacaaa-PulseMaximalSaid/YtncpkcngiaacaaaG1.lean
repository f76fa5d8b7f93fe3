/- Proofs that the program's functions do what these plain functions say. -/
import Derived.Test.YtncpkcngiaacaaaGB
import Derived.Test.YtncpkcngiaacaaaS
set_option linter.unusedSimpArgs false
set_option linter.unusedVariables false
set_option linter.defProp false
namespace Go.Rex
open Go.Proofs
open Go Go.Rex Go.RowKit
set_option maxRecDepth 100000
def y1 := an @by3 <| an @cs3 <| an @ni22 <| an @so22 <| @zc3
theorem base_CopyInts_spec {v1 : (List Int)} {v2 : (List Int)} (hr : base_CopyInts v1 = some (v2)) : Spec (lim Try.prog) 28 [.list 1 (v1.map e_i)] ⟨[.lsl 0 0 v2.length], [.rows 1 (v2.map e_i)]⟩ := by
  unfold base_CopyInts at hr
  apply Spec.fn Try.func28 rfl
  focus (simp [Try.f28] <;> exact rfl)
  focus
    repeat (first | (with_reducible first | refine mv ?_ | refine m12 rfl ?_ | refine TO.nil ?_) | ((with_reducible first | apply TO.asg); (repeat (focus (show _ = _; first | exact k1 rfl | exact k2 rfl | (simp only [zz, y1, e_i, Nat.reduceAdd, Nat.reduceMul, Nat.reduceLeDiff, Nat.reduceEqDiff] <;> exact rfl) | exact rfl))); (with_reducible refine TO.here ?_)) | ((with_reducible apply TX.region); (focus (simp only [zl] <;> exact rfl)); (focus rfl); (try dsimp only)) | fail)
    apply TO.bl e_i ([] : List Int) (by first | rfl | (simp only [twant, z1, zp, zs]; done)) rfl (by simp only [zz, y1, e_i, Nat.reduceAdd, Nat.reduceMul, Nat.reduceLeDiff, Nat.reduceEqDiff, tslice, tparts]; exact rfl) rfl rfl
    (repeat (focus (show _ = _; first | exact k1 rfl | exact k2 rfl | (simp only [zz, y1, e_i, Nat.reduceAdd, Nat.reduceMul, Nat.reduceLeDiff, Nat.reduceEqDiff, tslice, tparts] <;> exact rfl) | exact rfl)))
    with_reducible apply TO.here
    repeat (first | (with_reducible first | refine mv ?_ | refine m12 rfl ?_ | refine TO.nil ?_) | ((with_reducible first | apply TO.mv); (repeat (focus (show _ = _; first | exact k1 rfl | exact k2 rfl | (simp only [zz, y1, e_i, Nat.reduceAdd, Nat.reduceMul, Nat.reduceLeDiff, Nat.reduceEqDiff] <;> exact rfl) | exact rfl))); (with_reducible refine TO.here ?_)) | ((with_reducible apply TX.region); (focus (simp only [zl] <;> exact rfl)); (focus rfl); (try dsimp only)) | fail)
    obtain ⟨v3, h1, hr⟩ := Option.bind_eq_some_iff.1 hr
    try dsimp only at hr
    apply TO.ap (f := e_i) (xs := ([] : List Int)) (ys := v1) (by first | rfl | (simp only [twant, z1, zp, zs]; done)) rfl rfl (by first | rfl | simp only [List.length_set]) rfl rfl so22 ni22 zc3 rfl (by rw [by3]; exact h1) (fun _ => ⟨rfl, rfl, rfl⟩)
    (repeat (focus (show _ = _; first | exact k1 rfl | exact k2 rfl | (simp only [zz, y1, e_i, Nat.reduceAdd, Nat.reduceMul, Nat.reduceLeDiff, Nat.reduceEqDiff, shift, kill, killB, frz, frzB, view, tml, tmlc, List.length_set] <;> exact rfl) | exact rfl)))
    with_reducible apply TO.here
    repeat (first | (with_reducible first | refine mv ?_ | refine m12 rfl ?_ | refine TO.nil ?_) | ((with_reducible first | apply TO.asg); (repeat (focus (show _ = _; first | exact k1 rfl | exact k2 rfl | (simp only [zz, y1, e_i, Nat.reduceAdd, Nat.reduceMul, Nat.reduceLeDiff, Nat.reduceEqDiff] <;> exact rfl) | exact rfl))); (with_reducible refine TO.here ?_)) | ((with_reducible apply TX.region); (focus (simp only [zl] <;> exact rfl)); (focus rfl); (try dsimp only)) | fail)
    cases hr
    refine ⟨.inr rfl, _, (by simp only [zy, y1, e_i, tresAll, tres, tload, rowOf, partT]; exact rfl), ?_⟩
    exact wr [some 0] rfl (.rows .nil rfl rfl)
  rfl

end Go.Rex

namespace Go.Rex
open Go.Proofs
open Go Go.Rex Go.RowKit
set_option maxRecDepth 100000
def y2 := an @ag22 <| an @ag24 <| an @ag3 <| an @cs24 <| an @fd24_0 <| an @fd24_1 <| an @ok24 <| an @st24 <| @zc24
theorem ref04_Copy_spec {v1 : Int} {v2 : (List Int)} {v3 : Int} {v4 : (List Int)} (hr : ref04_Copy v1 v2 = some (v3, v4)) : Spec (lim Try.prog) 13 [.agg [.v (.int .i64 v1), .list 1 (v2.map e_i)]] ⟨[.agg [.v (.int .i64 v3), .lsl 0 0 v4.length]], [.rows 1 (v4.map e_i)]⟩ := by
  unfold ref04_Copy at hr
  apply Spec.fn Try.func13 rfl
  focus (simp [Try.f13] <;> exact rfl)
  focus
    repeat (first | (with_reducible first | refine mv ?_ | refine m12 rfl ?_ | refine TO.nil ?_) | ((with_reducible first | apply TO.bf | apply TO.al); (repeat (focus (show _ = _; first | exact k1 rfl | exact k2 rfl | (simp only [zz, y2, e_i, Nat.reduceAdd, Nat.reduceMul, Nat.reduceLeDiff, Nat.reduceEqDiff] <;> exact rfl) | exact rfl))); (with_reducible refine TO.here ?_)) | ((with_reducible apply TX.region); (focus (simp only [zl] <;> exact rfl)); (focus rfl); (try dsimp only)) | with_reducible refine TD.nil ?_ | ((with_reducible first | apply TD.fa | apply TD.ld | apply TD.ldw); (repeat (focus (show _ = _; first | exact k1 rfl | exact k2 rfl | (simp only [zz, y2, e_i, Nat.reduceAdd, Nat.reduceMul, Nat.reduceLeDiff, Nat.reduceEqDiff, tfieldAddr, tload, rowOf, partT, List.getElem?_map] <;> exact rfl) | exact rfl))); (with_reducible refine TD.here ?_)) | ((with_reducible apply TX.drawn); (focus decide +kernel); (focus (simp only [zl] <;> exact rfl)); (focus exact rfl); (try dsimp only)) | fail)
    obtain ⟨v5, h1, hr⟩ := Option.bind_eq_some_iff.1 hr
    try dsimp only at hr
    first | apply TD.cal (by first | rfl | (simp only [twant, z1, zp, zs]; done)) rfl goFn28 (base_CopyInts_spec h1) rfl rfl rfl | apply TD.calw (by first | rfl | (simp only [twant, z1, zp, zs]; done)) rfl goFn28 (base_CopyInts_spec h1) rfl rfl rfl rfl
    (repeat (focus (show _ = _; first | exact k1 rfl | exact k2 rfl | (simp only [zz, y2, e_i, Nat.reduceAdd, Nat.reduceMul, Nat.reduceLeDiff, Nat.reduceEqDiff, shift, kill, killB, frz, frzB, view, tml, tmlc, List.length_set] <;> exact rfl) | exact rfl)))
    with_reducible apply TD.here
    repeat (first | (with_reducible first | refine mv ?_ | refine m12 rfl ?_ | refine TD.nil ?_) | ((with_reducible first | apply TD.bld | apply TD.sv); (repeat (focus (show _ = _; first | exact k1 rfl | exact k2 rfl | (simp only [zz, y2, e_i, Nat.reduceAdd, Nat.reduceMul, Nat.reduceLeDiff, Nat.reduceEqDiff, tbuild, tfill] <;> exact rfl) | exact rfl))); (with_reducible refine TD.here ?_)) | ((with_reducible apply TX.drawn); (focus decide +kernel); (focus (simp only [zl] <;> exact rfl)); (focus exact rfl); (try dsimp only)) | fail)
    cases hr
    refine ⟨.inr rfl, _, (by simp only [zy, y2, e_i, tresAll, tres, tload, rowOf, partT]; exact rfl), ?_⟩
    exact wr [some 1] rfl (.rows .nil rfl rfl)
  rfl

end Go.Rex

namespace Go.Rex
open Go.Proofs
open Go Go.Rex Go.RowKit
set_option maxRecDepth 100000
theorem pulse_refuse_spec {v1 : Bool} {v2 : Int} {v3 : Bool} {v4 : Int} (hr : pulse_refuse v1 v2 = some (v3, v4)) : Spec (lim Try.prog) 64 [.v (.bool v1), .v (.int .i64 v2)] ⟨[.func 117 [] [.fptr true [.v (.bool v3)] 0, .fptr true [.v (.int .i64 v4)] 0]], []⟩ := by
  unfold pulse_refuse at hr
  apply Spec.fn Try.func64 rfl
  focus (simp [Try.f64] <;> exact rfl)
  focus
    repeat (first | (with_reducible first | refine mv ?_ | refine m12 rfl ?_ | refine TO.nil ?_) | ((with_reducible first | apply TO.bf | apply TO.asg | apply TO.mf); (repeat (focus (show _ = _; first | exact k1 rfl | exact k2 rfl | (simp only [zz, Nat.reduceAdd, Nat.reduceMul, Nat.reduceLeDiff, Nat.reduceEqDiff] <;> exact rfl) | exact rfl))); (with_reducible refine TO.here ?_)) | ((with_reducible apply TX.region); (focus (simp only [zl] <;> exact rfl)); (focus rfl); (try dsimp only)) | fail)
    cases hr
    refine ⟨.inr rfl, _, (by simp only [zy, tresAll, tres, tload, rowOf, partT]; exact rfl), ?_⟩
    exact wr [] rfl .nil
  rfl

end Go.Rex

namespace Go.Rex
open Go.Proofs
open Go Go.Rex Go.RowKit
set_option maxRecDepth 100000
theorem pulse_within_spec {v1 : Int} {v2 : Int} {v3 : Int} {v4 : Bool} {v5 : Int} (hr : pulse_within v1 v2 v3 = some (v4, v5)) : Spec (lim Try.prog) 61 [.v (.int .i64 v1), .v (.int .i64 v2), .v (.int .i64 v3)] ⟨[.func 117 [] [.fptr true [.v (.bool v4)] 0, .fptr true [.v (.int .i64 v5)] 0]], []⟩ := by
  unfold pulse_within at hr
  apply Spec.fn Try.func61 rfl
  focus (simp [Try.f61] <;> exact rfl)
  focus
    repeat (first | (with_reducible first | refine mv ?_ | refine m12 rfl ?_ | refine TO.nil ?_) | ((with_reducible first | apply TO.asg | apply TO.mv | apply TO.bin); (repeat (focus (show _ = _; first | exact k1 rfl | exact k2 rfl | (simp only [zz, Nat.reduceAdd, Nat.reduceMul, Nat.reduceLeDiff, Nat.reduceEqDiff] <;> exact rfl) | exact rfl))); (with_reducible refine TO.here ?_)) | ((with_reducible apply TX.region); (focus (simp only [zl] <;> exact rfl)); (focus rfl); (try dsimp only)) | fail)
    rcases Bool.eq_false_or_eq_true ((decide (v1 < v2))) with h1 | h1
    · rw [if_pos h1] at hr
      repeat (first | (with_reducible first | refine mv ?_ | refine m12 rfl ?_ | refine TO.nil ?_) | ((with_reducible first | apply TO.pk); (repeat (focus (show _ = _; first | exact k1 rfl | exact k2 rfl | (simp only [zz, Nat.reduceAdd, Nat.reduceMul, Nat.reduceLeDiff, Nat.reduceEqDiff, h1] <;> exact rfl) | exact rfl))); (with_reducible refine TO.here ?_)) | ((with_reducible apply TO.skip1); (repeat (focus (show _ = _; first | exact k1 rfl | exact k2 rfl | (simp only [zz, Nat.reduceAdd, Nat.reduceMul, Nat.reduceLeDiff, Nat.reduceEqDiff, twant, zp, zs, h1] <;> exact rfl) | exact rfl))); (with_reducible refine TO.here ?_)) | ((with_reducible apply TX.region); (focus (simp only [zl] <;> exact rfl)); (focus rfl); (try dsimp only)) | fail)
      obtain ⟨⟨v6, v7⟩, h2, hr⟩ := Option.bind_eq_some_iff.1 hr
      try dsimp only at hr
      apply TO.cal (by first | rfl | (simp only [twant, z1, zp, zs, h1]; done)) rfl goFn64 (pulse_refuse_spec h2) rfl rfl rfl
      (repeat (focus (show _ = _; first | exact k1 rfl | exact k2 rfl | (simp only [zz, Nat.reduceAdd, Nat.reduceMul, Nat.reduceLeDiff, Nat.reduceEqDiff, shift, kill, killB, frz, frzB, view, tml, tmlc, List.length_set, h1] <;> exact rfl) | exact rfl)))
      with_reducible apply TO.here
      repeat (first | (with_reducible first | refine mv ?_ | refine m12 rfl ?_ | refine TO.nil ?_) | ((with_reducible first | apply TO.asg); (repeat (focus (show _ = _; first | exact k1 rfl | exact k2 rfl | (simp only [zz, Nat.reduceAdd, Nat.reduceMul, Nat.reduceLeDiff, Nat.reduceEqDiff, h1] <;> exact rfl) | exact rfl))); (with_reducible refine TO.here ?_)) | ((with_reducible apply TX.region); (focus (simp only [zl] <;> exact rfl)); (focus rfl); (try dsimp only)) | fail)
      cases hr
      refine ⟨.inr rfl, _, (by simp only [zy, tresAll, tres, tload, rowOf, partT, h1]; exact rfl), ?_⟩
      exact Wk.ren [] rfl .nil (by (repeat (first | exact RNs.nil | refine RNs.cons .junk ?_ | refine RNs.cons (.keep rfl rfl) ?_ | refine RNs.cons (.lsl rfl rfl) ?_ | refine RNs.cons (.lsl rfl (by simp only [List.length_set])) ?_ | refine RNs.cons (.lptr rfl) ?_ | refine RNs.cons (.nil rfl) ?_ | refine RNs.cons .nl ?_ | refine RNs.cons (.keep (by simp only [h1]) rfl) ?_ | refine RNs.cons (.tuple' ?_) ?_ | refine RNs.cons (.agg' ?_) ?_)))
    · rw [if_neg (by rw [h1]; exact Bool.false_ne_true)] at hr
      repeat (first | (with_reducible first | refine mv ?_ | refine m12 rfl ?_ | refine TO.nil ?_) | ((with_reducible first | apply TO.mv | apply TO.bin | apply TO.pk); (repeat (focus (show _ = _; first | exact k1 rfl | exact k2 rfl | (simp only [zz, Nat.reduceAdd, Nat.reduceMul, Nat.reduceLeDiff, Nat.reduceEqDiff, h1] <;> exact rfl) | exact rfl))); (with_reducible refine TO.here ?_)) | ((with_reducible apply TX.region); (focus (simp only [zl] <;> exact rfl)); (focus rfl); (try dsimp only)) | fail)
      obtain ⟨⟨v8, v9⟩, h3, hr⟩ := Option.bind_eq_some_iff.1 hr
      try dsimp only at hr
      apply TO.cal (by first | rfl | (simp only [twant, z1, zp, zs, h1]; done)) rfl goFn64 (pulse_refuse_spec h3) rfl rfl rfl
      (repeat (focus (show _ = _; first | exact k1 rfl | exact k2 rfl | (simp only [zz, Nat.reduceAdd, Nat.reduceMul, Nat.reduceLeDiff, Nat.reduceEqDiff, shift, kill, killB, frz, frzB, view, tml, tmlc, List.length_set, h1] <;> exact rfl) | exact rfl)))
      with_reducible apply TO.here
      repeat (first | (with_reducible first | refine mv ?_ | refine m12 rfl ?_ | refine TO.nil ?_) | ((with_reducible first | apply TO.asg); (repeat (focus (show _ = _; first | exact k1 rfl | exact k2 rfl | (simp only [zz, Nat.reduceAdd, Nat.reduceMul, Nat.reduceLeDiff, Nat.reduceEqDiff, h1] <;> exact rfl) | exact rfl))); (with_reducible refine TO.here ?_)) | ((with_reducible apply TX.region); (focus (simp only [zl] <;> exact rfl)); (focus rfl); (try dsimp only)) | fail)
      cases hr
      refine ⟨.inr rfl, _, (by simp only [zy, tresAll, tres, tload, rowOf, partT, h1]; exact rfl), ?_⟩
      exact Wk.ren [] rfl .nil (by (repeat (first | exact RNs.nil | refine RNs.cons .junk ?_ | refine RNs.cons (.keep rfl rfl) ?_ | refine RNs.cons (.lsl rfl rfl) ?_ | refine RNs.cons (.lsl rfl (by simp only [List.length_set])) ?_ | refine RNs.cons (.lptr rfl) ?_ | refine RNs.cons (.nil rfl) ?_ | refine RNs.cons .nl ?_ | refine RNs.cons (.keep (by simp only [h1]) rfl) ?_ | refine RNs.cons (.tuple' ?_) ?_ | refine RNs.cons (.agg' ?_) ?_)))
  rfl

end Go.Rex

namespace Go.Rex
open Go.Proofs
open Go Go.Rex Go.RowKit
set_option maxRecDepth 100000
theorem pulse_each_e53c_spec {v1 : Int} {v2 : (List Int)} {v3 : Int} {v4 : Int} {v5 : Int} {v6 : (List Int)} {v7 : Int} {v8 : Int} (hr : pulse_each_e53c v1 v2 v3 v4 = some (v5, v6, v7, v8)) : Spec (lim Try.prog) 101 [.v (.int .i64 v1), .func 118 [] [.fptr true [.list 1 (v2.map e_i)] 0, .fptr true [.v (.int .i64 v3)] 0, .fptr true [.v (.int .i64 v4)] 0]] ⟨[.func 133 [] [.fptr true [.v (.int .i64 v5)] 0, .fptr true [.func 118 [] [.fptr true [.list 1 (v6.map e_i)] 0, .fptr true [.v (.int .i64 v7)] 0, .fptr true [.v (.int .i64 v8)] 0]] 0]], []⟩ := by
  unfold pulse_each_e53c at hr
  apply Spec.fn Try.func101 rfl
  focus (simp [Try.f101] <;> exact rfl)
  focus
    repeat (first | (with_reducible first | refine mv ?_ | refine m12 rfl ?_ | refine TO.nil ?_) | ((with_reducible first | apply TO.bf | apply TO.asg | apply TO.mf); (repeat (focus (show _ = _; first | exact k1 rfl | exact k2 rfl | (simp only [zz, e_i, Nat.reduceAdd, Nat.reduceMul, Nat.reduceLeDiff, Nat.reduceEqDiff] <;> exact rfl) | exact rfl))); (with_reducible refine TO.here ?_)) | ((with_reducible apply TX.region); (focus (simp only [zl] <;> exact rfl)); (focus rfl); (try dsimp only)) | fail)
    cases hr
    refine ⟨.inr rfl, _, (by simp only [zy, e_i, tresAll, tres, tload, rowOf, partT]; exact rfl), ?_⟩
    exact wr [] rfl .nil
  rfl

end Go.Rex

namespace Go.Rex
open Go.Proofs
open Go Go.Rex Go.RowKit
set_option maxRecDepth 100000
def y3 := an @ag22 <| @so22
theorem pulse_ascending_spec {v1 : (List Int)} {v2 : Int} {v3 : Int} {v4 : Int} {v5 : (List Int)} {v6 : Int} {v7 : Int} (hr : pulse_ascending v1 v2 v3 = some (v4, v5, v6, v7)) : Spec (lim Try.prog) 65 [.list 1 (v1.map e_i), .v (.int .i64 v2), .v (.int .i64 v3)] ⟨[.func 133 [] [.fptr true [.v (.int .i64 v4)] 0, .fptr true [.func 118 [] [.fptr true [.list 1 (v5.map e_i)] 0, .fptr true [.v (.int .i64 v6)] 0, .fptr true [.v (.int .i64 v7)] 0]] 0]], []⟩ := by
  unfold pulse_ascending at hr
  apply Spec.fn Try.func65 rfl
  focus (simp [Try.f65] <;> exact rfl)
  focus
    repeat (first | (with_reducible first | refine mv ?_ | refine m12 rfl ?_ | refine TO.nil ?_) | ((with_reducible first | apply TO.bf | apply TO.asg | apply TO.ld | apply TO.len | apply TO.mf); (repeat (focus (show _ = _; first | exact k1 rfl | exact k2 rfl | (simp only [zz, y3, e_i, Nat.reduceAdd, Nat.reduceMul, Nat.reduceLeDiff, Nat.reduceEqDiff, tload, rowOf, partT, List.getElem?_map, tlen] <;> exact rfl) | exact rfl))); (with_reducible refine TO.here ?_)) | ((with_reducible apply TX.region); (focus (simp only [zl] <;> exact rfl)); (focus rfl); (try dsimp only)) | fail)
    obtain ⟨⟨v8, v9, v10, v11⟩, h1, hr⟩ := Option.bind_eq_some_iff.1 hr
    try dsimp only at hr
    apply TO.cal (by first | rfl | (simp only [twant, z1, zp, zs]; done)) rfl goFn101 (pulse_each_e53c_spec h1) rfl rfl rfl
    (repeat (focus (show _ = _; first | exact k1 rfl | exact k2 rfl | (simp only [zz, y3, e_i, Nat.reduceAdd, Nat.reduceMul, Nat.reduceLeDiff, Nat.reduceEqDiff, shift, kill, killB, frz, frzB, view, tml, tmlc, List.length_set] <;> exact rfl) | exact rfl)))
    with_reducible apply TO.here
    repeat (first | (with_reducible first | refine mv ?_ | refine m12 rfl ?_ | refine TO.nil ?_) | ((with_reducible first | apply TO.asg); (repeat (focus (show _ = _; first | exact k1 rfl | exact k2 rfl | (simp only [zz, y3, e_i, Nat.reduceAdd, Nat.reduceMul, Nat.reduceLeDiff, Nat.reduceEqDiff] <;> exact rfl) | exact rfl))); (with_reducible refine TO.here ?_)) | ((with_reducible apply TX.region); (focus (simp only [zl] <;> exact rfl)); (focus rfl); (try dsimp only)) | fail)
    cases hr
    refine ⟨.inr rfl, _, (by simp only [zy, y3, e_i, tresAll, tres, tload, rowOf, partT]; exact rfl), ?_⟩
    exact wr [] rfl .nil
  rfl

end Go.Rex

namespace Go.Rex
open Go.Proofs
open Go Go.Rex Go.RowKit
set_option maxRecDepth 100000
def y4 := an @ag3 <| an @cs3 <| an @ok3 <| an @so22 <| @wi64_0a1
theorem slices_Index_int_int_spec {v1 : (List Int)} {v2 : Int} {v3 : Int} (hr : slices_Index_int_int v1 v2 = some (v3)) : Spec (lim Try.prog) 119 [.list 1 (v1.map e_i), .v (.int .i64 v2)] ⟨[.v (.int .i64 v3)], []⟩ := by
  unfold slices_Index_int_int at hr
  apply Spec.fn Try.func119 rfl
  focus (simp [Try.f119] <;> exact rfl)
  focus
    repeat (first | (with_reducible first | refine mv ?_ | refine m12 rfl ?_ | refine TO.nil ?_) | ((with_reducible first | apply TO.asg | apply TO.mv | apply TO.len); (repeat (focus (show _ = _; first | exact k1 rfl | exact k2 rfl | (simp only [zz, y4, e_i, Nat.reduceAdd, Nat.reduceMul, Nat.reduceLeDiff, Nat.reduceEqDiff, tlen] <;> exact rfl) | exact rfl))); (with_reducible refine TO.here ?_)) | ((with_reducible apply TX.region); (focus (simp only [zl] <;> exact rfl)); (focus rfl); (try dsimp only)) | fail)
    obtain ⟨v8, h7, hr⟩ := Option.bind_eq_some_iff.1 hr
    refine TX.loopE (step := slices_Index_int_int_l1 v1 v2) (x := 0) h7 (fun v4 => ⟨.list 1 (v1.map e_i) :: .v (.int .i64 v2) :: .junk :: .junk :: .junk :: .junk :: .junk :: .v (.int .i64 (v1.length : Int)) :: .v (.int .i64 v4) :: .junk :: .junk :: .junk :: .junk :: .junk :: .junk :: .junk :: .junk :: .junk :: .junk :: [], []⟩) (fun e => match e with | (.inl v6) => (.ret, ⟨.junk :: .junk :: .junk :: .junk :: .v (.int .i64 v6) :: .junk :: .junk :: .junk :: .junk :: .junk :: .junk :: .junk :: .junk :: .junk :: .junk :: .junk :: .junk :: .junk :: .junk :: [], []⟩) | (.inr _) => (.exit 0, ⟨.junk :: .junk :: .junk :: .junk :: .junk :: .junk :: .junk :: .junk :: .junk :: .junk :: .junk :: .junk :: .junk :: .junk :: .junk :: .junk :: .junk :: .junk :: .junk :: [], []⟩)) ?_ ?_ ?_ ?_
    · rintro v4 v0 hr
      dsimp only [slices_Index_int_int_l1] at hr
      try dsimp only
      repeat (first | (with_reducible first | refine mv ?_ | refine m12 rfl ?_ | refine TO.nil ?_) | ((with_reducible first | apply TO.bin); (repeat (focus (show _ = _; first | exact k1 rfl | exact k2 rfl | (simp only [zz, y4, e_i, Nat.reduceAdd, Nat.reduceMul, Nat.reduceLeDiff, Nat.reduceEqDiff] <;> exact rfl) | exact rfl))); (with_reducible refine TO.here ?_)) | ((with_reducible apply TX.region); (focus (simp only [zl] <;> exact rfl)); (focus rfl); (try dsimp only)) | ((with_reducible apply TX.cond_true); (focus rfl); (focus (first | rfl | (simp only [z1, zn]; done)))) | ((with_reducible apply TX.cond_false); (focus rfl); (focus (first | rfl | (simp only [z1, zn]; done)))) | fail)
      rcases Bool.eq_false_or_eq_true ((decide (v4 < (v1.length : Int)))) with h4 | h4
      · rw [if_pos h4] at hr
        repeat (first | (with_reducible first | refine mv ?_ | refine m12 rfl ?_ | refine TO.nil ?_) | ((with_reducible first | apply TO.mv | apply TO.asg); (repeat (focus (show _ = _; first | exact k1 rfl | exact k2 rfl | (simp only [zz, y4, e_i, Nat.reduceAdd, Nat.reduceMul, Nat.reduceLeDiff, Nat.reduceEqDiff, h4] <;> exact rfl) | exact rfl))); (with_reducible refine TO.here ?_)) | ((with_reducible apply TX.region); (focus (simp only [zl] <;> exact rfl)); (focus rfl); (try dsimp only)) | ((with_reducible apply TX.cond_true); (focus rfl); (focus (first | rfl | (simp only [z1, zn, h4]; done)))) | ((with_reducible apply TX.cond_false); (focus rfl); (focus (first | rfl | (simp only [z1, zn, h4]; done)))) | fail)
        obtain ⟨v7, h5, hr⟩ := Option.bind_eq_some_iff.1 hr
        try dsimp only at hr
        have h5m := tidx_map (f := e_i) h5
        have h5l := getI_lt h5
        try simp only [List.length_set] at h5l
        have h5a := getI_at h5
        repeat (first | (with_reducible first | refine mv ?_ | refine m12 rfl ?_ | refine TO.nil ?_) | ((with_reducible first | apply TO.ia | apply TO.ld | apply TO.bin); (repeat (focus (show _ = _; first | exact k1 rfl | exact k2 rfl | (simp only [zz, y4, e_i, Nat.reduceAdd, Nat.reduceMul, Nat.reduceLeDiff, Nat.reduceEqDiff, tindexAddr, Nat.zero_add, tload, rowOf, partT, List.getElem?_map, h4, h5m, h5l, h5a] <;> exact rfl) | exact rfl))); (with_reducible refine TO.here ?_)) | ((with_reducible apply TX.region); (focus (simp only [zl] <;> exact rfl)); (focus rfl); (try dsimp only)) | ((with_reducible apply TX.cond_true); (focus rfl); (focus (first | rfl | (simp only [z1, zn, h4, h5m, h5l, h5a]; done)))) | ((with_reducible apply TX.cond_false); (focus rfl); (focus (first | rfl | (simp only [z1, zn, h4, h5m, h5l, h5a]; done)))) | fail)
        rcases Bool.eq_false_or_eq_true ((decide (v2 = v7))) with h6 | h6
        · rw [if_pos h6] at hr
          repeat (first | (with_reducible first | refine mv ?_ | refine m12 rfl ?_ | refine TO.nil ?_) | ((with_reducible first | apply TO.mv | apply TO.asg); (repeat (focus (show _ = _; first | exact k1 rfl | exact k2 rfl | (simp only [zz, y4, e_i, Nat.reduceAdd, Nat.reduceMul, Nat.reduceLeDiff, Nat.reduceEqDiff, h4, h5m, h5l, h5a, h6] <;> exact rfl) | exact rfl))); (with_reducible refine TO.here ?_)) | ((with_reducible apply TX.region); (focus (simp only [zl] <;> exact rfl)); (focus rfl); (try dsimp only)) | ((with_reducible apply TX.cond_true); (focus rfl); (focus (first | rfl | (simp only [z1, zn, h4, h5m, h5l, h5a, h6]; done)))) | ((with_reducible apply TX.cond_false); (focus rfl); (focus (first | rfl | (simp only [z1, zn, h4, h5m, h5l, h5a, h6]; done)))) | fail)
          cases hr
          refine ⟨rfl, ?_⟩
          exact Wk.ren [] rfl .nil (by (repeat (first | exact RNs.nil | refine RNs.cons .junk ?_ | refine RNs.cons (.keep rfl rfl) ?_ | refine RNs.cons (.lsl rfl rfl) ?_ | refine RNs.cons (.lsl rfl (by simp only [List.length_set])) ?_ | refine RNs.cons (.lptr rfl) ?_ | refine RNs.cons (.nil rfl) ?_ | refine RNs.cons .nl ?_ | refine RNs.cons (.keep (by simp only [h4, h6]) rfl) ?_ | refine RNs.cons (.tuple' ?_) ?_ | refine RNs.cons (.agg' ?_) ?_)))
        · rw [if_neg (by rw [h6]; exact Bool.false_ne_true)] at hr
          repeat (first | (with_reducible first | refine mv ?_ | refine m12 rfl ?_ | refine TO.nil ?_) | ((with_reducible first | apply TO.bin | apply TO.mv); (repeat (focus (show _ = _; first | exact k1 rfl | exact k2 rfl | (simp only [zz, y4, e_i, Nat.reduceAdd, Nat.reduceMul, Nat.reduceLeDiff, Nat.reduceEqDiff, h4, h5m, h5l, h5a, h6] <;> exact rfl) | exact rfl))); (with_reducible refine TO.here ?_)) | ((with_reducible apply TX.region); (focus (simp only [zl] <;> exact rfl)); (focus rfl); (try dsimp only)) | ((with_reducible apply TX.cond_true); (focus rfl); (focus (first | rfl | (simp only [z1, zn, h4, h5m, h5l, h5a, h6]; done)))) | ((with_reducible apply TX.cond_false); (focus rfl); (focus (first | rfl | (simp only [z1, zn, h4, h5m, h5l, h5a, h6]; done)))) | fail)
          cases hr
          refine ⟨rfl, ?_⟩
          exact Wk.ren [] rfl .nil (by (repeat (first | exact RNs.nil | refine RNs.cons .junk ?_ | refine RNs.cons (.keep rfl rfl) ?_ | refine RNs.cons (.lsl rfl rfl) ?_ | refine RNs.cons (.lsl rfl (by simp only [List.length_set])) ?_ | refine RNs.cons (.lptr rfl) ?_ | refine RNs.cons (.nil rfl) ?_ | refine RNs.cons .nl ?_ | refine RNs.cons (.keep (by simp only [h4, h6]) rfl) ?_ | refine RNs.cons (.tuple' ?_) ?_ | refine RNs.cons (.agg' ?_) ?_)))
      · rw [if_neg (by rw [h4]; exact Bool.false_ne_true)] at hr
        repeat (first | (with_reducible first | refine mv ?_ | refine m12 rfl ?_) | ((with_reducible apply TX.cond_true); (focus rfl); (focus (first | rfl | (simp only [z1, zn, h4]; done)))) | ((with_reducible apply TX.cond_false); (focus rfl); (focus (first | rfl | (simp only [z1, zn, h4]; done)))) | fail)
        cases hr
        refine ⟨rfl, ?_⟩
        exact Wk.ren [] rfl .nil (by (repeat (first | exact RNs.nil | refine RNs.cons .junk ?_ | refine RNs.cons (.keep rfl rfl) ?_ | refine RNs.cons (.lsl rfl rfl) ?_ | refine RNs.cons (.lsl rfl (by simp only [List.length_set])) ?_ | refine RNs.cons (.lptr rfl) ?_ | refine RNs.cons (.nil rfl) ?_ | refine RNs.cons .nl ?_ | refine RNs.cons (.keep (by simp only [h4]) rfl) ?_ | refine RNs.cons (.tuple' ?_) ?_ | refine RNs.cons (.agg' ?_) ?_)))
    · intro e h; rcases e with _ | e <;> cases h
    · try dsimp only
      rcases v8 with v9 | _
      · try dsimp only at hr
        try dsimp only
        repeat (first | (with_reducible first | refine mv ?_ | refine m12 rfl ?_) | fail)
        cases hr
        refine ⟨.inr rfl, _, (by simp only [zy, y4, e_i, tresAll, tres, tload, rowOf, partT]; exact rfl), ?_⟩
        exact wr [] rfl .nil
      · try dsimp only at hr
        try dsimp only
        repeat (first | (with_reducible first | refine mv ?_ | refine m12 rfl ?_ | refine TO.nil ?_) | ((with_reducible first | apply TO.asg); (repeat (focus (show _ = _; first | exact k1 rfl | exact k2 rfl | (simp only [zz, y4, e_i, Nat.reduceAdd, Nat.reduceMul, Nat.reduceLeDiff, Nat.reduceEqDiff] <;> exact rfl) | exact rfl))); (with_reducible refine TO.here ?_)) | ((with_reducible apply TX.region); (focus (simp only [zl] <;> exact rfl)); (focus rfl); (try dsimp only)) | fail)
        cases hr
        refine ⟨.inr rfl, _, (by simp only [zy, y4, e_i, tresAll, tres, tload, rowOf, partT]; exact rfl), ?_⟩
        exact wr [] rfl .nil
    · try dsimp only
      exact wr [] rfl .nil
  rfl

end Go.Rex

namespace Go.Rex
open Go.Proofs
open Go Go.Rex Go.RowKit
set_option maxRecDepth 100000
theorem slices_Contains_int_int_spec {v1 : (List Int)} {v2 : Int} {v3 : Bool} (hr : slices_Contains_int_int v1 v2 = some (v3)) : Spec (lim Try.prog) 66 [.list 1 (v1.map e_i), .v (.int .i64 v2)] ⟨[.v (.bool v3)], []⟩ := by
  unfold slices_Contains_int_int at hr
  apply Spec.fn Try.func66 rfl
  focus (simp [Try.f66] <;> exact rfl)
  focus
    repeat (first | (with_reducible first | refine mv ?_ | refine m12 rfl ?_ | refine TO.nil ?_) | ((with_reducible first | apply TO.asg | apply TO.mv); (repeat (focus (show _ = _; first | exact k1 rfl | exact k2 rfl | (simp only [zz, e_i, Nat.reduceAdd, Nat.reduceMul, Nat.reduceLeDiff, Nat.reduceEqDiff] <;> exact rfl) | exact rfl))); (with_reducible refine TO.here ?_)) | ((with_reducible apply TX.region); (focus (simp only [zl] <;> exact rfl)); (focus rfl); (try dsimp only)) | fail)
    obtain ⟨v4, h1, hr⟩ := Option.bind_eq_some_iff.1 hr
    try dsimp only at hr
    apply TO.cal (by first | rfl | (simp only [twant, z1, zp, zs]; done)) rfl goFn119 (slices_Index_int_int_spec h1) rfl rfl rfl
    (repeat (focus (show _ = _; first | exact k1 rfl | exact k2 rfl | (simp only [zz, e_i, Nat.reduceAdd, Nat.reduceMul, Nat.reduceLeDiff, Nat.reduceEqDiff, shift, kill, killB, frz, frzB, view, tml, tmlc, List.length_set] <;> exact rfl) | exact rfl)))
    with_reducible apply TO.here
    repeat (first | (with_reducible first | refine mv ?_ | refine m12 rfl ?_ | refine TO.nil ?_) | ((with_reducible first | apply TO.bin | apply TO.asg); (repeat (focus (show _ = _; first | exact k1 rfl | exact k2 rfl | (simp only [zz, e_i, Nat.reduceAdd, Nat.reduceMul, Nat.reduceLeDiff, Nat.reduceEqDiff] <;> exact rfl) | exact rfl))); (with_reducible refine TO.here ?_)) | ((with_reducible apply TX.region); (focus (simp only [zl] <;> exact rfl)); (focus rfl); (try dsimp only)) | fail)
    cases hr
    refine ⟨.inr rfl, _, (by simp only [zy, e_i, tresAll, tres, tload, rowOf, partT]; exact rfl), ?_⟩
    exact wr [] rfl .nil
  rfl

end Go.Rex

namespace Go.Rex
open Go.Proofs
open Go Go.Rex Go.RowKit
set_option maxRecDepth 100000
def y5 := an @ag26 <| @ag4
theorem pulse_refuse_c1_11f9_spec {v1 : Bool} {v2 : Int} {v3 : Int} (hr : pulse_refuse_c1_11f9 v1 v2 = some (v3)) : Spec (lim Try.prog) 117 [.fptr true [.v (.bool v1)] 0, .fptr true [.v (.int .i64 v2)] 0] ⟨[.v (.int .i64 v3)], []⟩ := by
  unfold pulse_refuse_c1_11f9 at hr
  apply Spec.fn Try.func117 rfl
  focus (simp [Try.f117] <;> exact rfl)
  focus
    repeat (first | (with_reducible first | refine mv ?_ | refine m12 rfl ?_ | refine TO.nil ?_) | ((with_reducible first | apply TO.asg | apply TO.ld); (repeat (focus (show _ = _; first | exact k1 rfl | exact k2 rfl | (simp only [zz, y5, Nat.reduceAdd, Nat.reduceMul, Nat.reduceLeDiff, Nat.reduceEqDiff, tload, rowOf, partT, List.getElem?_map] <;> exact rfl) | exact rfl))); (with_reducible refine TO.here ?_)) | ((with_reducible apply TX.region); (focus (simp only [zl] <;> exact rfl)); (focus rfl); (try dsimp only)) | ((with_reducible apply TX.cond_true); (focus rfl); (focus (first | rfl | (simp only [z1, zn]; done)))) | ((with_reducible apply TX.cond_false); (focus rfl); (focus (first | rfl | (simp only [z1, zn]; done)))) | fail)
    rcases Bool.eq_false_or_eq_true (v1) with h1 | h1
    · rw [if_pos h1] at hr
      repeat (first | (with_reducible first | refine mv ?_ | refine m12 rfl ?_ | refine TO.nil ?_) | ((with_reducible first | apply TO.ld | apply TO.asg); (repeat (focus (show _ = _; first | exact k1 rfl | exact k2 rfl | (simp only [zz, y5, Nat.reduceAdd, Nat.reduceMul, Nat.reduceLeDiff, Nat.reduceEqDiff, tload, rowOf, partT, List.getElem?_map, h1] <;> exact rfl) | exact rfl))); (with_reducible refine TO.here ?_)) | ((with_reducible apply TX.region); (focus (simp only [zl] <;> exact rfl)); (focus rfl); (try dsimp only)) | ((with_reducible apply TX.cond_true); (focus rfl); (focus (first | rfl | (simp only [z1, zn, h1]; done)))) | ((with_reducible apply TX.cond_false); (focus rfl); (focus (first | rfl | (simp only [z1, zn, h1]; done)))) | fail)
      cases hr
      refine ⟨.inr rfl, _, (by simp only [zy, y5, tresAll, tres, tload, rowOf, partT, h1]; exact rfl), ?_⟩
      exact Wk.ren [] rfl .nil (by (repeat (first | exact RNs.nil | refine RNs.cons .junk ?_ | refine RNs.cons (.keep rfl rfl) ?_ | refine RNs.cons (.lsl rfl rfl) ?_ | refine RNs.cons (.lsl rfl (by simp only [List.length_set])) ?_ | refine RNs.cons (.lptr rfl) ?_ | refine RNs.cons (.nil rfl) ?_ | refine RNs.cons .nl ?_ | refine RNs.cons (.keep (by simp only [h1]) rfl) ?_ | refine RNs.cons (.tuple' ?_) ?_ | refine RNs.cons (.agg' ?_) ?_)))
    · rw [if_neg (by rw [h1]; exact Bool.false_ne_true)] at hr
      repeat (first | (with_reducible first | refine mv ?_ | refine m12 rfl ?_ | refine TO.nil ?_) | ((with_reducible first | apply TO.asg); (repeat (focus (show _ = _; first | exact k1 rfl | exact k2 rfl | (simp only [zz, y5, Nat.reduceAdd, Nat.reduceMul, Nat.reduceLeDiff, Nat.reduceEqDiff, h1] <;> exact rfl) | exact rfl))); (with_reducible refine TO.here ?_)) | ((with_reducible apply TX.region); (focus (simp only [zl] <;> exact rfl)); (focus rfl); (try dsimp only)) | ((with_reducible apply TX.cond_true); (focus rfl); (focus (first | rfl | (simp only [z1, zn, h1]; done)))) | ((with_reducible apply TX.cond_false); (focus rfl); (focus (first | rfl | (simp only [z1, zn, h1]; done)))) | fail)
      cases hr
      refine ⟨.inr rfl, _, (by simp only [zy, y5, tresAll, tres, tload, rowOf, partT, h1]; exact rfl), ?_⟩
      exact Wk.ren [] rfl .nil (by (repeat (first | exact RNs.nil | refine RNs.cons .junk ?_ | refine RNs.cons (.keep rfl rfl) ?_ | refine RNs.cons (.lsl rfl rfl) ?_ | refine RNs.cons (.lsl rfl (by simp only [List.length_set])) ?_ | refine RNs.cons (.lptr rfl) ?_ | refine RNs.cons (.nil rfl) ?_ | refine RNs.cons .nl ?_ | refine RNs.cons (.keep (by simp only [h1]) rfl) ?_ | refine RNs.cons (.tuple' ?_) ?_ | refine RNs.cons (.agg' ?_) ?_)))
  rfl

end Go.Rex

namespace Go.Rex
open Go.Proofs
open Go Go.Rex Go.RowKit
set_option maxRecDepth 100000
def y6 := an @ag105 <| an @cs105 <| an @ok105 <| an @so149 <| an @wi64_0a1 <| @wi64_1a1
theorem pulse_firstError_9abe_spec {v1 : Bool} {v2 : Int} {v3 : Bool} {v4 : Int} {v5 : Int} (hr : pulse_firstError_9abe v1 v2 v3 v4 = some (v5)) : Spec (lim Try.prog) 58 [.list 1 [[.func 117 [] [.fptr true [.v (.bool v1)] 0, .fptr true [.v (.int .i64 v2)] 0]], [.func 117 [] [.fptr true [.v (.bool v3)] 0, .fptr true [.v (.int .i64 v4)] 0]]]] ⟨[.v (.int .i64 v5)], []⟩ := by
  unfold pulse_firstError_9abe at hr
  apply Spec.fn Try.func58 rfl
  focus (simp [Try.f58] <;> exact rfl)
  focus
    repeat (first | (with_reducible first | refine mv ?_ | refine m12 rfl ?_ | refine TO.nil ?_) | ((with_reducible first | apply TO.asg | apply TO.mv | apply TO.len); (repeat (focus (show _ = _; first | exact k1 rfl | exact k2 rfl | (simp only [zz, y6, Nat.reduceAdd, Nat.reduceMul, Nat.reduceLeDiff, Nat.reduceEqDiff, tlen] <;> exact rfl) | exact rfl))); (with_reducible refine TO.here ?_)) | ((with_reducible apply TX.region); (focus (simp only [zl] <;> exact rfl)); (focus rfl); (try dsimp only)) | fail)
    refine TX.unroll ?_
    repeat (first | (with_reducible first | refine mv ?_ | refine m12 rfl ?_ | refine TO.nil ?_) | ((with_reducible first | apply TO.bin | apply TO.ia | apply TO.ld | apply TO.asg | apply TO.mv); (repeat (focus (show _ = _; first | exact k1 rfl | exact k2 rfl | (simp only [zz, y6, Nat.reduceAdd, Nat.reduceMul, Nat.reduceLeDiff, Nat.reduceEqDiff, tindexAddr, z5, Int.reduceToNat, Int.reduceLE, Int.reduceLT, Int.cast_ofNat_Int, tload, rowOf, partT, List.getElem?_map] <;> exact rfl) | exact rfl))); (with_reducible refine TO.here ?_)) | ((with_reducible apply TX.region); (focus (simp only [zl] <;> exact rfl)); (focus rfl); (try dsimp only)) | ((with_reducible apply TX.cond_true); (focus rfl); (focus (first | rfl | (simp only [z1, zn]; done)))) | ((with_reducible apply TX.cond_false); (focus rfl); (focus (first | rfl | (simp only [z1, zn]; done)))) | fail)
    obtain ⟨v6, h1, hr⟩ := Option.bind_eq_some_iff.1 hr
    try dsimp only at hr
    apply TO.cal (by first | rfl | (simp only [twant, z1, zp, zs]; done)) rfl goFn117 (pulse_refuse_c1_11f9_spec h1) rfl rfl rfl
    (repeat (focus (show _ = _; first | exact k1 rfl | exact k2 rfl | (simp only [zz, y6, Nat.reduceAdd, Nat.reduceMul, Nat.reduceLeDiff, Nat.reduceEqDiff, shift, kill, killB, frz, frzB, view, tml, tmlc, List.length_set] <;> exact rfl) | exact rfl)))
    with_reducible apply TO.here
    repeat (first | (with_reducible first | refine mv ?_ | refine m12 rfl ?_ | refine TO.nil ?_) | ((with_reducible first | apply TO.asg | apply TO.mv | apply TO.bin); (repeat (focus (show _ = _; first | exact k1 rfl | exact k2 rfl | (simp only [zz, y6, Nat.reduceAdd, Nat.reduceMul, Nat.reduceLeDiff, Nat.reduceEqDiff] <;> exact rfl) | exact rfl))); (with_reducible refine TO.here ?_)) | ((with_reducible apply TX.region); (focus (simp only [zl] <;> exact rfl)); (focus rfl); (try dsimp only)) | ((with_reducible apply TX.cond_true); (focus rfl); (focus (first | rfl | (simp only [z1, zn]; done)))) | ((with_reducible apply TX.cond_false); (focus rfl); (focus (first | rfl | (simp only [z1, zn]; done)))) | fail)
    rcases Bool.eq_false_or_eq_true ((decide (v6 ≠ 0))) with h2 | h2
    · rw [if_pos h2] at hr
      repeat (first | (with_reducible first | refine mv ?_ | refine m12 rfl ?_ | refine TO.nil ?_) | ((with_reducible first | apply TO.mv | apply TO.asg); (repeat (focus (show _ = _; first | exact k1 rfl | exact k2 rfl | (simp only [zz, y6, Nat.reduceAdd, Nat.reduceMul, Nat.reduceLeDiff, Nat.reduceEqDiff, h2] <;> exact rfl) | exact rfl))); (with_reducible refine TO.here ?_)) | ((with_reducible apply TX.region); (focus (simp only [zl] <;> exact rfl)); (focus rfl); (try dsimp only)) | ((with_reducible apply TX.cond_true); (focus rfl); (focus (first | rfl | (simp only [z1, zn, h2]; done)))) | ((with_reducible apply TX.cond_false); (focus rfl); (focus (first | rfl | (simp only [z1, zn, h2]; done)))) | fail)
      cases hr
      refine ⟨.inr rfl, _, (by simp only [zy, y6, tresAll, tres, tload, rowOf, partT, h2]; exact rfl), ?_⟩
      exact Wk.ren [] rfl .nil (by (repeat (first | exact RNs.nil | refine RNs.cons .junk ?_ | refine RNs.cons (.keep rfl rfl) ?_ | refine RNs.cons (.lsl rfl rfl) ?_ | refine RNs.cons (.lsl rfl (by simp only [List.length_set])) ?_ | refine RNs.cons (.lptr rfl) ?_ | refine RNs.cons (.nil rfl) ?_ | refine RNs.cons .nl ?_ | refine RNs.cons (.keep (by simp only [h2]) rfl) ?_ | refine RNs.cons (.tuple' ?_) ?_ | refine RNs.cons (.agg' ?_) ?_)))
    · rw [if_neg (by rw [h2]; exact Bool.false_ne_true)] at hr
      repeat (first | (with_reducible first | refine mv ?_ | refine m12 rfl ?_ | refine TO.nil ?_) | ((with_reducible first | apply TO.bin | apply TO.mv); (repeat (focus (show _ = _; first | exact k1 rfl | exact k2 rfl | (simp only [zz, y6, Nat.reduceAdd, Nat.reduceMul, Nat.reduceLeDiff, Nat.reduceEqDiff, h2] <;> exact rfl) | exact rfl))); (with_reducible refine TO.here ?_)) | ((with_reducible apply TX.region); (focus (simp only [zl] <;> exact rfl)); (focus rfl); (try dsimp only)) | ((with_reducible apply TX.cond_true); (focus rfl); (focus (first | rfl | (simp only [z1, zn, h2]; done)))) | ((with_reducible apply TX.cond_false); (focus rfl); (focus (first | rfl | (simp only [z1, zn, h2]; done)))) | fail)
      refine TX.unroll ?_
      repeat (first | (with_reducible first | refine mv ?_ | refine m12 rfl ?_ | refine TO.nil ?_) | ((with_reducible first | apply TO.bin | apply TO.ia | apply TO.ld | apply TO.asg | apply TO.mv); (repeat (focus (show _ = _; first | exact k1 rfl | exact k2 rfl | (simp only [zz, y6, Nat.reduceAdd, Nat.reduceMul, Nat.reduceLeDiff, Nat.reduceEqDiff, tindexAddr, z5, Int.reduceToNat, Int.reduceLE, Int.reduceLT, Int.cast_ofNat_Int, tload, rowOf, partT, List.getElem?_map, h2] <;> exact rfl) | exact rfl))); (with_reducible refine TO.here ?_)) | ((with_reducible apply TX.region); (focus (simp only [zl] <;> exact rfl)); (focus rfl); (try dsimp only)) | ((with_reducible apply TX.cond_true); (focus rfl); (focus (first | rfl | (simp only [z1, zn, h2]; done)))) | ((with_reducible apply TX.cond_false); (focus rfl); (focus (first | rfl | (simp only [z1, zn, h2]; done)))) | fail)
      obtain ⟨v7, h3, hr⟩ := Option.bind_eq_some_iff.1 hr
      try dsimp only at hr
      apply TO.cal (by first | rfl | (simp only [twant, z1, zp, zs, h2]; done)) rfl goFn117 (pulse_refuse_c1_11f9_spec h3) rfl rfl rfl
      (repeat (focus (show _ = _; first | exact k1 rfl | exact k2 rfl | (simp only [zz, y6, Nat.reduceAdd, Nat.reduceMul, Nat.reduceLeDiff, Nat.reduceEqDiff, shift, kill, killB, frz, frzB, view, tml, tmlc, List.length_set, h2] <;> exact rfl) | exact rfl)))
      with_reducible apply TO.here
      repeat (first | (with_reducible first | refine mv ?_ | refine m12 rfl ?_ | refine TO.nil ?_) | ((with_reducible first | apply TO.asg | apply TO.mv | apply TO.bin); (repeat (focus (show _ = _; first | exact k1 rfl | exact k2 rfl | (simp only [zz, y6, Nat.reduceAdd, Nat.reduceMul, Nat.reduceLeDiff, Nat.reduceEqDiff, h2] <;> exact rfl) | exact rfl))); (with_reducible refine TO.here ?_)) | ((with_reducible apply TX.region); (focus (simp only [zl] <;> exact rfl)); (focus rfl); (try dsimp only)) | ((with_reducible apply TX.cond_true); (focus rfl); (focus (first | rfl | (simp only [z1, zn, h2]; done)))) | ((with_reducible apply TX.cond_false); (focus rfl); (focus (first | rfl | (simp only [z1, zn, h2]; done)))) | fail)
      rcases Bool.eq_false_or_eq_true ((decide (v7 ≠ 0))) with h4 | h4
      · rw [if_pos h4] at hr
        repeat (first | (with_reducible first | refine mv ?_ | refine m12 rfl ?_ | refine TO.nil ?_) | ((with_reducible first | apply TO.mv | apply TO.asg); (repeat (focus (show _ = _; first | exact k1 rfl | exact k2 rfl | (simp only [zz, y6, Nat.reduceAdd, Nat.reduceMul, Nat.reduceLeDiff, Nat.reduceEqDiff, h2, h4] <;> exact rfl) | exact rfl))); (with_reducible refine TO.here ?_)) | ((with_reducible apply TX.region); (focus (simp only [zl] <;> exact rfl)); (focus rfl); (try dsimp only)) | ((with_reducible apply TX.cond_true); (focus rfl); (focus (first | rfl | (simp only [z1, zn, h2, h4]; done)))) | ((with_reducible apply TX.cond_false); (focus rfl); (focus (first | rfl | (simp only [z1, zn, h2, h4]; done)))) | fail)
        cases hr
        refine ⟨.inr rfl, _, (by simp only [zy, y6, tresAll, tres, tload, rowOf, partT, h2, h4]; exact rfl), ?_⟩
        exact Wk.ren [] rfl .nil (by (repeat (first | exact RNs.nil | refine RNs.cons .junk ?_ | refine RNs.cons (.keep rfl rfl) ?_ | refine RNs.cons (.lsl rfl rfl) ?_ | refine RNs.cons (.lsl rfl (by simp only [List.length_set])) ?_ | refine RNs.cons (.lptr rfl) ?_ | refine RNs.cons (.nil rfl) ?_ | refine RNs.cons .nl ?_ | refine RNs.cons (.keep (by simp only [h2, h4]) rfl) ?_ | refine RNs.cons (.tuple' ?_) ?_ | refine RNs.cons (.agg' ?_) ?_)))
      · rw [if_neg (by rw [h4]; exact Bool.false_ne_true)] at hr
        repeat (first | (with_reducible first | refine mv ?_ | refine m12 rfl ?_ | refine TO.nil ?_) | ((with_reducible first | apply TO.bin | apply TO.mv); (repeat (focus (show _ = _; first | exact k1 rfl | exact k2 rfl | (simp only [zz, y6, Nat.reduceAdd, Nat.reduceMul, Nat.reduceLeDiff, Nat.reduceEqDiff, h2, h4] <;> exact rfl) | exact rfl))); (with_reducible refine TO.here ?_)) | ((with_reducible apply TX.region); (focus (simp only [zl] <;> exact rfl)); (focus rfl); (try dsimp only)) | ((with_reducible apply TX.cond_true); (focus rfl); (focus (first | rfl | (simp only [z1, zn, h2, h4]; done)))) | ((with_reducible apply TX.cond_false); (focus rfl); (focus (first | rfl | (simp only [z1, zn, h2, h4]; done)))) | fail)
        refine TX.unroll ?_
        repeat (first | (with_reducible first | refine mv ?_ | refine m12 rfl ?_ | refine TO.nil ?_) | ((with_reducible first | apply TO.bin | apply TO.asg); (repeat (focus (show _ = _; first | exact k1 rfl | exact k2 rfl | (simp only [zz, y6, Nat.reduceAdd, Nat.reduceMul, Nat.reduceLeDiff, Nat.reduceEqDiff, h2, h4] <;> exact rfl) | exact rfl))); (with_reducible refine TO.here ?_)) | ((with_reducible apply TX.region); (focus (simp only [zl] <;> exact rfl)); (focus rfl); (try dsimp only)) | ((with_reducible apply TX.cond_true); (focus rfl); (focus (first | rfl | (simp only [z1, zn, h2, h4]; done)))) | ((with_reducible apply TX.cond_false); (focus rfl); (focus (first | rfl | (simp only [z1, zn, h2, h4]; done)))) | fail)
        cases hr
        refine ⟨.inr rfl, _, (by simp only [zy, y6, tresAll, tres, tload, rowOf, partT, h2, h4]; exact rfl), ?_⟩
        exact Wk.ren [] rfl .nil (by (repeat (first | exact RNs.nil | refine RNs.cons .junk ?_ | refine RNs.cons (.keep rfl rfl) ?_ | refine RNs.cons (.lsl rfl rfl) ?_ | refine RNs.cons (.lsl rfl (by simp only [List.length_set])) ?_ | refine RNs.cons (.lptr rfl) ?_ | refine RNs.cons (.nil rfl) ?_ | refine RNs.cons .nl ?_ | refine RNs.cons (.keep (by simp only [h2, h4]) rfl) ?_ | refine RNs.cons (.tuple' ?_) ?_ | refine RNs.cons (.agg' ?_) ?_)))
  rfl

end Go.Rex

namespace Go.Rex
open Go.Proofs
open Go Go.Rex Go.RowKit
set_option maxRecDepth 100000
def y7 := an @ag22 <| an @ag3 <| an @cs105 <| an @cs3 <| an @ok3 <| an @so149 <| an @so22 <| @zc105
theorem pulse_ascending_c1_ea58_spec {v1 : Int} {v2 : (List Int)} {v3 : Int} {v4 : Int} {v5 : Int} (hr : pulse_ascending_c1_ea58 v1 v2 v3 v4 = some (v5)) : Spec (lim Try.prog) 118 [.v (.int .i64 v1), .fptr true [.list 1 (v2.map e_i)] 0, .fptr true [.v (.int .i64 v3)] 0, .fptr true [.v (.int .i64 v4)] 0] ⟨[.v (.int .i64 v5)], []⟩ := by
  unfold pulse_ascending_c1_ea58 at hr
  apply Spec.fn Try.func118 rfl
  focus (simp [Try.f118] <;> exact rfl)
  focus
    repeat (first | (with_reducible first | refine mv ?_ | refine m12 rfl ?_ | refine TO.nil ?_) | ((with_reducible first | apply TO.asg); (repeat (focus (show _ = _; first | exact k1 rfl | exact k2 rfl | (simp only [zz, y7, e_i, Nat.reduceAdd, Nat.reduceMul, Nat.reduceLeDiff, Nat.reduceEqDiff] <;> exact rfl) | exact rfl))); (with_reducible refine TO.here ?_)) | ((with_reducible apply TX.region); (focus (simp only [zl] <;> exact rfl)); (focus rfl); (try dsimp only)) | with_reducible refine TD.nil ?_ | ((with_reducible first | apply TD.ld | apply TD.ldw | apply TD.mv); (repeat (focus (show _ = _; first | exact k1 rfl | exact k2 rfl | (simp only [zz, y7, e_i, Nat.reduceAdd, Nat.reduceMul, Nat.reduceLeDiff, Nat.reduceEqDiff, tload, rowOf, partT, List.getElem?_map] <;> exact rfl) | exact rfl))); (with_reducible refine TD.here ?_)) | ((with_reducible apply TX.drawn); (focus decide +kernel); (focus (simp only [zl] <;> exact rfl)); (focus exact rfl); (try dsimp only)) | fail)
    obtain ⟨v6, h1, hr⟩ := Option.bind_eq_some_iff.1 hr
    try dsimp only at hr
    have h1m := tidx_map (f := e_i) h1
    have h1l := getI_lt h1
    try simp only [List.length_set] at h1l
    have h1a := getI_at h1
    repeat (first | (with_reducible first | refine mv ?_ | refine m12 rfl ?_ | refine TD.nil ?_) | ((with_reducible first | apply TD.ia | apply TD.ld | apply TD.ldw); (repeat (focus (show _ = _; first | exact k1 rfl | exact k2 rfl | (simp only [zz, y7, e_i, Nat.reduceAdd, Nat.reduceMul, Nat.reduceLeDiff, Nat.reduceEqDiff, tindexAddr, Nat.zero_add, tload, rowOf, partT, List.getElem?_map, h1m, h1l, h1a] <;> exact rfl) | exact rfl))); (with_reducible refine TD.here ?_)) | ((with_reducible apply TX.drawn); (focus decide +kernel); (focus (simp only [zl] <;> exact rfl)); (focus exact rfl); (try dsimp only)) | fail)
    obtain ⟨⟨v7, v8⟩, h2, hr⟩ := Option.bind_eq_some_iff.1 hr
    try dsimp only at hr
    first | apply TD.cal (by first | rfl | (simp only [twant, z1, zp, zs, h1m, h1l, h1a]; done)) rfl goFn61 (pulse_within_spec h2) rfl rfl rfl | apply TD.calw (by first | rfl | (simp only [twant, z1, zp, zs, h1m, h1l, h1a]; done)) rfl goFn61 (pulse_within_spec h2) rfl rfl rfl rfl
    (repeat (focus (show _ = _; first | exact k1 rfl | exact k2 rfl | (simp only [zz, y7, e_i, Nat.reduceAdd, Nat.reduceMul, Nat.reduceLeDiff, Nat.reduceEqDiff, shift, kill, killB, frz, frzB, view, tml, tmlc, List.length_set, h1m, h1l, h1a] <;> exact rfl) | exact rfl)))
    with_reducible apply TD.here
    repeat (first | (with_reducible first | refine mv ?_ | refine m12 rfl ?_ | refine TD.nil ?_) | ((with_reducible first | apply TD.mv | apply TD.bin); (repeat (focus (show _ = _; first | exact k1 rfl | exact k2 rfl | (simp only [zz, y7, e_i, Nat.reduceAdd, Nat.reduceMul, Nat.reduceLeDiff, Nat.reduceEqDiff, h1m, h1l, h1a] <;> exact rfl) | exact rfl))); (with_reducible refine TD.here ?_)) | ((with_reducible apply TX.drawn); (focus decide +kernel); (focus (simp only [zl] <;> exact rfl)); (focus exact rfl); (try dsimp only)) | fail)
    rcases Bool.eq_false_or_eq_true ((decide (v1 > 0))) with h3 | h3
    · rw [if_pos h3] at hr
      repeat (first | (with_reducible first | refine mv ?_ | refine m12 rfl ?_ | refine TD.nil ?_) | ((with_reducible first | apply TD.ld | apply TD.ldw | apply TD.mv | apply TD.ia | apply TD.bin); (repeat (focus (show _ = _; first | exact k1 rfl | exact k2 rfl | (simp only [zz, y7, e_i, Nat.reduceAdd, Nat.reduceMul, Nat.reduceLeDiff, Nat.reduceEqDiff, tload, rowOf, partT, List.getElem?_map, tindexAddr, Nat.zero_add, h1m, h1l, h1a, h3] <;> exact rfl) | exact rfl))); (with_reducible refine TD.here ?_)) | ((with_reducible apply TX.drawn); (focus decide +kernel); (focus (simp only [zl] <;> exact rfl)); (focus exact rfl); (try dsimp only)) | fail)
      obtain ⟨v9, h4, hr⟩ := Option.bind_eq_some_iff.1 hr
      try dsimp only at hr
      have h4m := tidx_map (f := e_i) h4
      have h4l := getI_lt h4
      try simp only [List.length_set] at h4l
      have h4a := getI_at h4
      repeat (first | (with_reducible first | refine mv ?_ | refine m12 rfl ?_ | refine TD.nil ?_) | ((with_reducible first | apply TD.ia | apply TD.ld | apply TD.ldw | apply TD.bin | apply TD.pk); (repeat (focus (show _ = _; first | exact k1 rfl | exact k2 rfl | (simp only [zz, y7, e_i, Nat.reduceAdd, Nat.reduceMul, Nat.reduceLeDiff, Nat.reduceEqDiff, tindexAddr, Nat.zero_add, tload, rowOf, partT, List.getElem?_map, h1m, h1l, h1a, h3, h4m, h4l, h4a] <;> exact rfl) | exact rfl))); (with_reducible refine TD.here ?_)) | ((with_reducible apply TX.drawn); (focus decide +kernel); (focus (simp only [zl] <;> exact rfl)); (focus exact rfl); (try dsimp only)) | fail)
      obtain ⟨⟨v10, v11⟩, h5, hr⟩ := Option.bind_eq_some_iff.1 hr
      try dsimp only at hr
      first | apply TD.cal (by first | rfl | (simp only [twant, z1, zp, zs, h1m, h1l, h1a, h3, h4m, h4l, h4a]; done)) rfl goFn64 (pulse_refuse_spec h5) rfl rfl rfl | apply TD.calw (by first | rfl | (simp only [twant, z1, zp, zs, h1m, h1l, h1a, h3, h4m, h4l, h4a]; done)) rfl goFn64 (pulse_refuse_spec h5) rfl rfl rfl rfl
      (repeat (focus (show _ = _; first | exact k1 rfl | exact k2 rfl | (simp only [zz, y7, e_i, Nat.reduceAdd, Nat.reduceMul, Nat.reduceLeDiff, Nat.reduceEqDiff, shift, kill, killB, frz, frzB, view, tml, tmlc, List.length_set, h1m, h1l, h1a, h3, h4m, h4l, h4a] <;> exact rfl) | exact rfl)))
      with_reducible apply TD.here
      repeat (first | (with_reducible first | refine mv ?_ | refine m12 rfl ?_ | refine TD.nil ?_) | ((with_reducible first | apply TD.bs); (repeat (focus (show _ = _; first | exact k1 rfl | exact k2 rfl | (simp only [zz, y7, e_i, Nat.reduceAdd, Nat.reduceMul, Nat.reduceLeDiff, Nat.reduceEqDiff, tslice, tparts, h1m, h1l, h1a, h3, h4m, h4l, h4a] <;> exact rfl) | exact rfl))); (with_reducible refine TD.here ?_)) | ((with_reducible apply TX.drawn); (focus decide +kernel); (focus (simp only [zl] <;> exact rfl)); (focus exact rfl); (try dsimp only)) | fail)
      obtain ⟨v12, h6, hr⟩ := Option.bind_eq_some_iff.1 hr
      try dsimp only at hr
      first | apply TD.cal (by first | rfl | (simp only [twant, z1, zp, zs, h1m, h1l, h1a, h3, h4m, h4l, h4a]; done)) rfl goFn58 (pulse_firstError_9abe_spec h6) rfl rfl rfl | apply TD.calw (by first | rfl | (simp only [twant, z1, zp, zs, h1m, h1l, h1a, h3, h4m, h4l, h4a]; done)) rfl goFn58 (pulse_firstError_9abe_spec h6) rfl rfl rfl rfl
      (repeat (focus (show _ = _; first | exact k1 rfl | exact k2 rfl | (simp only [zz, y7, e_i, Nat.reduceAdd, Nat.reduceMul, Nat.reduceLeDiff, Nat.reduceEqDiff, shift, kill, killB, frz, frzB, view, tml, tmlc, List.length_set, h1m, h1l, h1a, h3, h4m, h4l, h4a] <;> exact rfl) | exact rfl)))
      with_reducible apply TD.here
      repeat (first | (with_reducible first | refine mv ?_ | refine m12 rfl ?_ | refine TD.nil ?_) | ((with_reducible first | apply TD.asg); (repeat (focus (show _ = _; first | exact k1 rfl | exact k2 rfl | (simp only [zz, y7, e_i, Nat.reduceAdd, Nat.reduceMul, Nat.reduceLeDiff, Nat.reduceEqDiff, h1m, h1l, h1a, h3, h4m, h4l, h4a] <;> exact rfl) | exact rfl))); (with_reducible refine TD.here ?_)) | ((with_reducible apply TX.drawn); (focus decide +kernel); (focus (simp only [zl] <;> exact rfl)); (focus exact rfl); (try dsimp only)) | fail)
      cases hr
      refine ⟨.inr rfl, _, (by simp only [zy, y7, e_i, tresAll, tres, tload, rowOf, partT, h1m, h1l, h1a, h3, h4m, h4l, h4a]; exact rfl), ?_⟩
      exact Wk.ren [] rfl .nil (by (repeat (first | exact RNs.nil | refine RNs.cons .junk ?_ | refine RNs.cons (.keep rfl rfl) ?_ | refine RNs.cons (.lsl rfl rfl) ?_ | refine RNs.cons (.lsl rfl (by simp only [List.length_set])) ?_ | refine RNs.cons (.lptr rfl) ?_ | refine RNs.cons (.nil rfl) ?_ | refine RNs.cons .nl ?_ | refine RNs.cons (.keep (by simp only [h3]) rfl) ?_ | refine RNs.cons (.tuple' ?_) ?_ | refine RNs.cons (.agg' ?_) ?_)))
    · rw [if_neg (by rw [h3]; exact Bool.false_ne_true)] at hr
      repeat (first | (with_reducible first | refine mv ?_ | refine m12 rfl ?_ | refine TD.nil ?_) | ((with_reducible first | apply TD.pk); (repeat (focus (show _ = _; first | exact k1 rfl | exact k2 rfl | (simp only [zz, y7, e_i, Nat.reduceAdd, Nat.reduceMul, Nat.reduceLeDiff, Nat.reduceEqDiff, h1m, h1l, h1a, h3] <;> exact rfl) | exact rfl))); (with_reducible refine TD.here ?_)) | ((with_reducible apply TD.skip1); (repeat (focus (show _ = _; first | exact k1 rfl | exact k2 rfl | (simp only [zz, y7, e_i, Nat.reduceAdd, Nat.reduceMul, Nat.reduceLeDiff, Nat.reduceEqDiff, twant, zp, zs, h1m, h1l, h1a, h3] <;> exact rfl) | exact rfl))); (with_reducible refine TD.here ?_)) | ((with_reducible apply TX.drawn); (focus decide +kernel); (focus (simp only [zl] <;> exact rfl)); (focus exact rfl); (try dsimp only)) | fail)
      obtain ⟨⟨v13, v14⟩, h7, hr⟩ := Option.bind_eq_some_iff.1 hr
      try dsimp only at hr
      first | apply TD.cal (by first | rfl | (simp only [twant, z1, zp, zs, h1m, h1l, h1a, h3]; done)) rfl goFn64 (pulse_refuse_spec h7) rfl rfl rfl | apply TD.calw (by first | rfl | (simp only [twant, z1, zp, zs, h1m, h1l, h1a, h3]; done)) rfl goFn64 (pulse_refuse_spec h7) rfl rfl rfl rfl
      (repeat (focus (show _ = _; first | exact k1 rfl | exact k2 rfl | (simp only [zz, y7, e_i, Nat.reduceAdd, Nat.reduceMul, Nat.reduceLeDiff, Nat.reduceEqDiff, shift, kill, killB, frz, frzB, view, tml, tmlc, List.length_set, h1m, h1l, h1a, h3] <;> exact rfl) | exact rfl)))
      with_reducible apply TD.here
      repeat (first | (with_reducible first | refine mv ?_ | refine m12 rfl ?_ | refine TD.nil ?_) | ((with_reducible first | apply TD.bs); (repeat (focus (show _ = _; first | exact k1 rfl | exact k2 rfl | (simp only [zz, y7, e_i, Nat.reduceAdd, Nat.reduceMul, Nat.reduceLeDiff, Nat.reduceEqDiff, tslice, tparts, h1m, h1l, h1a, h3] <;> exact rfl) | exact rfl))); (with_reducible refine TD.here ?_)) | ((with_reducible apply TX.drawn); (focus decide +kernel); (focus (simp only [zl] <;> exact rfl)); (focus exact rfl); (try dsimp only)) | fail)
      obtain ⟨v15, h8, hr⟩ := Option.bind_eq_some_iff.1 hr
      try dsimp only at hr
      first | apply TD.cal (by first | rfl | (simp only [twant, z1, zp, zs, h1m, h1l, h1a, h3]; done)) rfl goFn58 (pulse_firstError_9abe_spec h8) rfl rfl rfl | apply TD.calw (by first | rfl | (simp only [twant, z1, zp, zs, h1m, h1l, h1a, h3]; done)) rfl goFn58 (pulse_firstError_9abe_spec h8) rfl rfl rfl rfl
      (repeat (focus (show _ = _; first | exact k1 rfl | exact k2 rfl | (simp only [zz, y7, e_i, Nat.reduceAdd, Nat.reduceMul, Nat.reduceLeDiff, Nat.reduceEqDiff, shift, kill, killB, frz, frzB, view, tml, tmlc, List.length_set, h1m, h1l, h1a, h3] <;> exact rfl) | exact rfl)))
      with_reducible apply TD.here
      repeat (first | (with_reducible first | refine mv ?_ | refine m12 rfl ?_ | refine TD.nil ?_) | ((with_reducible first | apply TD.asg); (repeat (focus (show _ = _; first | exact k1 rfl | exact k2 rfl | (simp only [zz, y7, e_i, Nat.reduceAdd, Nat.reduceMul, Nat.reduceLeDiff, Nat.reduceEqDiff, h1m, h1l, h1a, h3] <;> exact rfl) | exact rfl))); (with_reducible refine TD.here ?_)) | ((with_reducible apply TX.drawn); (focus decide +kernel); (focus (simp only [zl] <;> exact rfl)); (focus exact rfl); (try dsimp only)) | fail)
      cases hr
      refine ⟨.inr rfl, _, (by simp only [zy, y7, e_i, tresAll, tres, tload, rowOf, partT, h1m, h1l, h1a, h3]; exact rfl), ?_⟩
      exact Wk.ren [] rfl .nil (by (repeat (first | exact RNs.nil | refine RNs.cons .junk ?_ | refine RNs.cons (.keep rfl rfl) ?_ | refine RNs.cons (.lsl rfl rfl) ?_ | refine RNs.cons (.lsl rfl (by simp only [List.length_set])) ?_ | refine RNs.cons (.lptr rfl) ?_ | refine RNs.cons (.nil rfl) ?_ | refine RNs.cons .nl ?_ | refine RNs.cons (.keep (by simp only [h3]) rfl) ?_ | refine RNs.cons (.tuple' ?_) ?_ | refine RNs.cons (.agg' ?_) ?_)))
  rfl

end Go.Rex

namespace Go.Rex
open Go.Proofs
open Go Go.Rex Go.RowKit
set_option maxRecDepth 100000
def y8 := an @ag142 <| an @ag3 <| @wi64_0a1
theorem pulse_each_c1_4fde_spec {v1 : Int} {v2 : (List Int)} {v3 : Int} {v4 : Int} {v5 : Int} (hr : pulse_each_c1_4fde v1 v2 v3 v4 = some (v5)) : Spec (lim Try.prog) 133 [.fptr true [.v (.int .i64 v1)] 0, .fptr true [.func 118 [] [.fptr true [.list 1 (v2.map e_i)] 0, .fptr true [.v (.int .i64 v3)] 0, .fptr true [.v (.int .i64 v4)] 0]] 0] ⟨[.v (.int .i64 v5)], []⟩ := by
  unfold pulse_each_c1_4fde at hr
  apply Spec.fn Try.func133 rfl
  focus (simp [Try.f133] <;> exact rfl)
  focus
    repeat (first | (with_reducible first | refine mv ?_ | refine m12 rfl ?_ | refine TO.nil ?_) | ((with_reducible first | apply TO.asg | apply TO.ld | apply TO.mv); (repeat (focus (show _ = _; first | exact k1 rfl | exact k2 rfl | (simp only [zz, y8, e_i, Nat.reduceAdd, Nat.reduceMul, Nat.reduceLeDiff, Nat.reduceEqDiff, tload, rowOf, partT, List.getElem?_map] <;> exact rfl) | exact rfl))); (with_reducible refine TO.here ?_)) | ((with_reducible apply TX.region); (focus (simp only [zl] <;> exact rfl)); (focus rfl); (try dsimp only)) | fail)
    obtain ⟨v10, h7, hr⟩ := Option.bind_eq_some_iff.1 hr
    refine TX.loopE (step := pulse_each_c1_4fde_l1 v1 v2 v3 v4) (x := 0) h7 (fun v6 => ⟨.junk :: .fptr true [.func 118 [] [.fptr true [.list 1 (v2.map e_i)] 0, .fptr true [.v (.int .i64 v3)] 0, .fptr true [.v (.int .i64 v4)] 0]] 0 :: .junk :: .junk :: .junk :: .v (.int .i64 v1) :: .v (.int .i64 v6) :: .junk :: .junk :: .junk :: .junk :: .junk :: .junk :: .junk :: .junk :: .junk :: [], []⟩) (fun e => match e with | (.inl v8) => (.ret, ⟨.junk :: .junk :: .v (.int .i64 v8) :: .junk :: .junk :: .junk :: .junk :: .junk :: .junk :: .junk :: .junk :: .junk :: .junk :: .junk :: .junk :: .junk :: [], []⟩) | (.inr _) => (.exit 0, ⟨.junk :: .junk :: .junk :: .junk :: .junk :: .junk :: .junk :: .junk :: .junk :: .junk :: .junk :: .junk :: .junk :: .junk :: .junk :: .junk :: [], []⟩)) ?_ ?_ ?_ ?_
    · rintro v6 v0 hr
      dsimp only [pulse_each_c1_4fde_l1] at hr
      try dsimp only
      repeat (first | (with_reducible first | refine mv ?_ | refine m12 rfl ?_ | refine TO.nil ?_) | ((with_reducible first | apply TO.bin); (repeat (focus (show _ = _; first | exact k1 rfl | exact k2 rfl | (simp only [zz, y8, e_i, Nat.reduceAdd, Nat.reduceMul, Nat.reduceLeDiff, Nat.reduceEqDiff] <;> exact rfl) | exact rfl))); (with_reducible refine TO.here ?_)) | ((with_reducible apply TX.region); (focus (simp only [zl] <;> exact rfl)); (focus rfl); (try dsimp only)) | ((with_reducible apply TX.cond_true); (focus rfl); (focus (first | rfl | (simp only [z1, zn]; done)))) | ((with_reducible apply TX.cond_false); (focus rfl); (focus (first | rfl | (simp only [z1, zn]; done)))) | fail)
      rcases Bool.eq_false_or_eq_true ((decide (v6 < v1))) with h4 | h4
      · rw [if_pos h4] at hr
        repeat (first | (with_reducible first | refine mv ?_ | refine m12 rfl ?_ | refine TO.nil ?_) | ((with_reducible first | apply TO.mv | apply TO.asg | apply TO.ld); (repeat (focus (show _ = _; first | exact k1 rfl | exact k2 rfl | (simp only [zz, y8, e_i, Nat.reduceAdd, Nat.reduceMul, Nat.reduceLeDiff, Nat.reduceEqDiff, tload, rowOf, partT, List.getElem?_map, h4] <;> exact rfl) | exact rfl))); (with_reducible refine TO.here ?_)) | ((with_reducible apply TX.region); (focus (simp only [zl] <;> exact rfl)); (focus rfl); (try dsimp only)) | ((with_reducible apply TX.cond_true); (focus rfl); (focus (first | rfl | (simp only [z1, zn, h4]; done)))) | ((with_reducible apply TX.cond_false); (focus rfl); (focus (first | rfl | (simp only [z1, zn, h4]; done)))) | fail)
        obtain ⟨v9, h5, hr⟩ := Option.bind_eq_some_iff.1 hr
        try dsimp only at hr
        apply TO.cal (by first | rfl | (simp only [twant, z1, zp, zs, h4]; done)) rfl goFn118 (pulse_ascending_c1_ea58_spec h5) rfl rfl rfl
        (repeat (focus (show _ = _; first | exact k1 rfl | exact k2 rfl | (simp only [zz, y8, e_i, Nat.reduceAdd, Nat.reduceMul, Nat.reduceLeDiff, Nat.reduceEqDiff, shift, kill, killB, frz, frzB, view, tml, tmlc, List.length_set, h4] <;> exact rfl) | exact rfl)))
        with_reducible apply TO.here
        repeat (first | (with_reducible first | refine mv ?_ | refine m12 rfl ?_ | refine TO.nil ?_) | ((with_reducible first | apply TO.asg | apply TO.mv | apply TO.bin); (repeat (focus (show _ = _; first | exact k1 rfl | exact k2 rfl | (simp only [zz, y8, e_i, Nat.reduceAdd, Nat.reduceMul, Nat.reduceLeDiff, Nat.reduceEqDiff, h4] <;> exact rfl) | exact rfl))); (with_reducible refine TO.here ?_)) | ((with_reducible apply TX.region); (focus (simp only [zl] <;> exact rfl)); (focus rfl); (try dsimp only)) | ((with_reducible apply TX.cond_true); (focus rfl); (focus (first | rfl | (simp only [z1, zn, h4]; done)))) | ((with_reducible apply TX.cond_false); (focus rfl); (focus (first | rfl | (simp only [z1, zn, h4]; done)))) | fail)
        rcases Bool.eq_false_or_eq_true ((decide (v9 ≠ 0))) with h6 | h6
        · rw [if_pos h6] at hr
          repeat (first | (with_reducible first | refine mv ?_ | refine m12 rfl ?_ | refine TO.nil ?_) | ((with_reducible first | apply TO.mv | apply TO.asg); (repeat (focus (show _ = _; first | exact k1 rfl | exact k2 rfl | (simp only [zz, y8, e_i, Nat.reduceAdd, Nat.reduceMul, Nat.reduceLeDiff, Nat.reduceEqDiff, h4, h6] <;> exact rfl) | exact rfl))); (with_reducible refine TO.here ?_)) | ((with_reducible apply TX.region); (focus (simp only [zl] <;> exact rfl)); (focus rfl); (try dsimp only)) | ((with_reducible apply TX.cond_true); (focus rfl); (focus (first | rfl | (simp only [z1, zn, h4, h6]; done)))) | ((with_reducible apply TX.cond_false); (focus rfl); (focus (first | rfl | (simp only [z1, zn, h4, h6]; done)))) | fail)
          cases hr
          refine ⟨rfl, ?_⟩
          exact Wk.ren [] rfl .nil (by (repeat (first | exact RNs.nil | refine RNs.cons .junk ?_ | refine RNs.cons (.keep rfl rfl) ?_ | refine RNs.cons (.lsl rfl rfl) ?_ | refine RNs.cons (.lsl rfl (by simp only [List.length_set])) ?_ | refine RNs.cons (.lptr rfl) ?_ | refine RNs.cons (.nil rfl) ?_ | refine RNs.cons .nl ?_ | refine RNs.cons (.keep (by simp only [h4, h6]) rfl) ?_ | refine RNs.cons (.tuple' ?_) ?_ | refine RNs.cons (.agg' ?_) ?_)))
        · rw [if_neg (by rw [h6]; exact Bool.false_ne_true)] at hr
          repeat (first | (with_reducible first | refine mv ?_ | refine m12 rfl ?_ | refine TO.nil ?_) | ((with_reducible first | apply TO.bin | apply TO.mv); (repeat (focus (show _ = _; first | exact k1 rfl | exact k2 rfl | (simp only [zz, y8, e_i, Nat.reduceAdd, Nat.reduceMul, Nat.reduceLeDiff, Nat.reduceEqDiff, h4, h6] <;> exact rfl) | exact rfl))); (with_reducible refine TO.here ?_)) | ((with_reducible apply TX.region); (focus (simp only [zl] <;> exact rfl)); (focus rfl); (try dsimp only)) | ((with_reducible apply TX.cond_true); (focus rfl); (focus (first | rfl | (simp only [z1, zn, h4, h6]; done)))) | ((with_reducible apply TX.cond_false); (focus rfl); (focus (first | rfl | (simp only [z1, zn, h4, h6]; done)))) | fail)
          cases hr
          refine ⟨rfl, ?_⟩
          exact Wk.ren [] rfl .nil (by (repeat (first | exact RNs.nil | refine RNs.cons .junk ?_ | refine RNs.cons (.keep rfl rfl) ?_ | refine RNs.cons (.lsl rfl rfl) ?_ | refine RNs.cons (.lsl rfl (by simp only [List.length_set])) ?_ | refine RNs.cons (.lptr rfl) ?_ | refine RNs.cons (.nil rfl) ?_ | refine RNs.cons .nl ?_ | refine RNs.cons (.keep (by simp only [h4, h6]) rfl) ?_ | refine RNs.cons (.tuple' ?_) ?_ | refine RNs.cons (.agg' ?_) ?_)))
      · rw [if_neg (by rw [h4]; exact Bool.false_ne_true)] at hr
        repeat (first | (with_reducible first | refine mv ?_ | refine m12 rfl ?_) | ((with_reducible apply TX.cond_true); (focus rfl); (focus (first | rfl | (simp only [z1, zn, h4]; done)))) | ((with_reducible apply TX.cond_false); (focus rfl); (focus (first | rfl | (simp only [z1, zn, h4]; done)))) | fail)
        cases hr
        refine ⟨rfl, ?_⟩
        exact Wk.ren [] rfl .nil (by (repeat (first | exact RNs.nil | refine RNs.cons .junk ?_ | refine RNs.cons (.keep rfl rfl) ?_ | refine RNs.cons (.lsl rfl rfl) ?_ | refine RNs.cons (.lsl rfl (by simp only [List.length_set])) ?_ | refine RNs.cons (.lptr rfl) ?_ | refine RNs.cons (.nil rfl) ?_ | refine RNs.cons .nl ?_ | refine RNs.cons (.keep (by simp only [h4]) rfl) ?_ | refine RNs.cons (.tuple' ?_) ?_ | refine RNs.cons (.agg' ?_) ?_)))
    · intro e h; rcases e with _ | e <;> cases h
    · try dsimp only
      rcases v10 with v11 | _
      · try dsimp only at hr
        try dsimp only
        repeat (first | (with_reducible first | refine mv ?_ | refine m12 rfl ?_) | fail)
        cases hr
        refine ⟨.inr rfl, _, (by simp only [zy, y8, e_i, tresAll, tres, tload, rowOf, partT]; exact rfl), ?_⟩
        exact wr [] rfl .nil
      · try dsimp only at hr
        try dsimp only
        repeat (first | (with_reducible first | refine mv ?_ | refine m12 rfl ?_ | refine TO.nil ?_) | ((with_reducible first | apply TO.asg); (repeat (focus (show _ = _; first | exact k1 rfl | exact k2 rfl | (simp only [zz, y8, e_i, Nat.reduceAdd, Nat.reduceMul, Nat.reduceLeDiff, Nat.reduceEqDiff] <;> exact rfl) | exact rfl))); (with_reducible refine TO.here ?_)) | ((with_reducible apply TX.region); (focus (simp only [zl] <;> exact rfl)); (focus rfl); (try dsimp only)) | fail)
        cases hr
        refine ⟨.inr rfl, _, (by simp only [zy, y8, e_i, tresAll, tres, tload, rowOf, partT]; exact rfl), ?_⟩
        exact wr [] rfl .nil
    · try dsimp only
      exact wr [] rfl .nil
  rfl

end Go.Rex

namespace Go.Rex
open Go.Proofs
open Go Go.Rex Go.RowKit
set_option maxRecDepth 100000
def y9 := an @ag105 <| an @cs105 <| an @ok105 <| an @so149 <| an @wi64_0a1 <| an @wi64_1a1 <| an @wi64_2a1 <| @wi64_3a1
theorem pulse_firstError_6869_spec {v1 : Bool} {v2 : Int} {v3 : Bool} {v4 : Int} {v5 : Int} {v6 : (List Int)} {v7 : Int} {v8 : Int} {v9 : Bool} {v10 : Int} {v11 : Int} (hr : pulse_firstError_6869 v1 v2 v3 v4 v5 v6 v7 v8 v9 v10 = some (v11)) : Spec (lim Try.prog) 58 [.list 1 [[.func 117 [] [.fptr true [.v (.bool v1)] 0, .fptr true [.v (.int .i64 v2)] 0]], [.func 117 [] [.fptr true [.v (.bool v3)] 0, .fptr true [.v (.int .i64 v4)] 0]], [.func 133 [] [.fptr true [.v (.int .i64 v5)] 0, .fptr true [.func 118 [] [.fptr true [.list 1 (v6.map e_i)] 0, .fptr true [.v (.int .i64 v7)] 0, .fptr true [.v (.int .i64 v8)] 0]] 0]], [.func 117 [] [.fptr true [.v (.bool v9)] 0, .fptr true [.v (.int .i64 v10)] 0]]]] ⟨[.v (.int .i64 v11)], []⟩ := by
  unfold pulse_firstError_6869 at hr
  apply Spec.fn Try.func58 rfl
  focus (simp [Try.f58] <;> exact rfl)
  focus
    repeat (first | (with_reducible first | refine mv ?_ | refine m12 rfl ?_ | refine TO.nil ?_) | ((with_reducible first | apply TO.asg | apply TO.mv | apply TO.len); (repeat (focus (show _ = _; first | exact k1 rfl | exact k2 rfl | (simp only [zz, y9, e_i, Nat.reduceAdd, Nat.reduceMul, Nat.reduceLeDiff, Nat.reduceEqDiff, tlen] <;> exact rfl) | exact rfl))); (with_reducible refine TO.here ?_)) | ((with_reducible apply TX.region); (focus (simp only [zl] <;> exact rfl)); (focus rfl); (try dsimp only)) | fail)
    refine TX.unroll ?_
    repeat (first | (with_reducible first | refine mv ?_ | refine m12 rfl ?_ | refine TO.nil ?_) | ((with_reducible first | apply TO.bin | apply TO.ia | apply TO.ld | apply TO.asg | apply TO.mv); (repeat (focus (show _ = _; first | exact k1 rfl | exact k2 rfl | (simp only [zz, y9, e_i, Nat.reduceAdd, Nat.reduceMul, Nat.reduceLeDiff, Nat.reduceEqDiff, tindexAddr, z5, Int.reduceToNat, Int.reduceLE, Int.reduceLT, Int.cast_ofNat_Int, tload, rowOf, partT, List.getElem?_map] <;> exact rfl) | exact rfl))); (with_reducible refine TO.here ?_)) | ((with_reducible apply TX.region); (focus (simp only [zl] <;> exact rfl)); (focus rfl); (try dsimp only)) | ((with_reducible apply TX.cond_true); (focus rfl); (focus (first | rfl | (simp only [z1, zn]; done)))) | ((with_reducible apply TX.cond_false); (focus rfl); (focus (first | rfl | (simp only [z1, zn]; done)))) | fail)
    obtain ⟨v12, h1, hr⟩ := Option.bind_eq_some_iff.1 hr
    try dsimp only at hr
    apply TO.cal (by first | rfl | (simp only [twant, z1, zp, zs]; done)) rfl goFn117 (pulse_refuse_c1_11f9_spec h1) rfl rfl rfl
    (repeat (focus (show _ = _; first | exact k1 rfl | exact k2 rfl | (simp only [zz, y9, e_i, Nat.reduceAdd, Nat.reduceMul, Nat.reduceLeDiff, Nat.reduceEqDiff, shift, kill, killB, frz, frzB, view, tml, tmlc, List.length_set] <;> exact rfl) | exact rfl)))
    with_reducible apply TO.here
    repeat (first | (with_reducible first | refine mv ?_ | refine m12 rfl ?_ | refine TO.nil ?_) | ((with_reducible first | apply TO.asg | apply TO.mv | apply TO.bin); (repeat (focus (show _ = _; first | exact k1 rfl | exact k2 rfl | (simp only [zz, y9, e_i, Nat.reduceAdd, Nat.reduceMul, Nat.reduceLeDiff, Nat.reduceEqDiff] <;> exact rfl) | exact rfl))); (with_reducible refine TO.here ?_)) | ((with_reducible apply TX.region); (focus (simp only [zl] <;> exact rfl)); (focus rfl); (try dsimp only)) | ((with_reducible apply TX.cond_true); (focus rfl); (focus (first | rfl | (simp only [z1, zn]; done)))) | ((with_reducible apply TX.cond_false); (focus rfl); (focus (first | rfl | (simp only [z1, zn]; done)))) | fail)
    rcases Bool.eq_false_or_eq_true ((decide (v12 ≠ 0))) with h2 | h2
    · rw [if_pos h2] at hr
      repeat (first | (with_reducible first | refine mv ?_ | refine m12 rfl ?_ | refine TO.nil ?_) | ((with_reducible first | apply TO.mv | apply TO.asg); (repeat (focus (show _ = _; first | exact k1 rfl | exact k2 rfl | (simp only [zz, y9, e_i, Nat.reduceAdd, Nat.reduceMul, Nat.reduceLeDiff, Nat.reduceEqDiff, h2] <;> exact rfl) | exact rfl))); (with_reducible refine TO.here ?_)) | ((with_reducible apply TX.region); (focus (simp only [zl] <;> exact rfl)); (focus rfl); (try dsimp only)) | ((with_reducible apply TX.cond_true); (focus rfl); (focus (first | rfl | (simp only [z1, zn, h2]; done)))) | ((with_reducible apply TX.cond_false); (focus rfl); (focus (first | rfl | (simp only [z1, zn, h2]; done)))) | fail)
      cases hr
      refine ⟨.inr rfl, _, (by simp only [zy, y9, e_i, tresAll, tres, tload, rowOf, partT, h2]; exact rfl), ?_⟩
      exact Wk.ren [] rfl .nil (by (repeat (first | exact RNs.nil | refine RNs.cons .junk ?_ | refine RNs.cons (.keep rfl rfl) ?_ | refine RNs.cons (.lsl rfl rfl) ?_ | refine RNs.cons (.lsl rfl (by simp only [List.length_set])) ?_ | refine RNs.cons (.lptr rfl) ?_ | refine RNs.cons (.nil rfl) ?_ | refine RNs.cons .nl ?_ | refine RNs.cons (.keep (by simp only [h2]) rfl) ?_ | refine RNs.cons (.tuple' ?_) ?_ | refine RNs.cons (.agg' ?_) ?_)))
    · rw [if_neg (by rw [h2]; exact Bool.false_ne_true)] at hr
      repeat (first | (with_reducible first | refine mv ?_ | refine m12 rfl ?_ | refine TO.nil ?_) | ((with_reducible first | apply TO.bin | apply TO.mv); (repeat (focus (show _ = _; first | exact k1 rfl | exact k2 rfl | (simp only [zz, y9, e_i, Nat.reduceAdd, Nat.reduceMul, Nat.reduceLeDiff, Nat.reduceEqDiff, h2] <;> exact rfl) | exact rfl))); (with_reducible refine TO.here ?_)) | ((with_reducible apply TX.region); (focus (simp only [zl] <;> exact rfl)); (focus rfl); (try dsimp only)) | ((with_reducible apply TX.cond_true); (focus rfl); (focus (first | rfl | (simp only [z1, zn, h2]; done)))) | ((with_reducible apply TX.cond_false); (focus rfl); (focus (first | rfl | (simp only [z1, zn, h2]; done)))) | fail)
      refine TX.unroll ?_
      repeat (first | (with_reducible first | refine mv ?_ | refine m12 rfl ?_ | refine TO.nil ?_) | ((with_reducible first | apply TO.bin | apply TO.ia | apply TO.ld | apply TO.asg | apply TO.mv); (repeat (focus (show _ = _; first | exact k1 rfl | exact k2 rfl | (simp only [zz, y9, e_i, Nat.reduceAdd, Nat.reduceMul, Nat.reduceLeDiff, Nat.reduceEqDiff, tindexAddr, z5, Int.reduceToNat, Int.reduceLE, Int.reduceLT, Int.cast_ofNat_Int, tload, rowOf, partT, List.getElem?_map, h2] <;> exact rfl) | exact rfl))); (with_reducible refine TO.here ?_)) | ((with_reducible apply TX.region); (focus (simp only [zl] <;> exact rfl)); (focus rfl); (try dsimp only)) | ((with_reducible apply TX.cond_true); (focus rfl); (focus (first | rfl | (simp only [z1, zn, h2]; done)))) | ((with_reducible apply TX.cond_false); (focus rfl); (focus (first | rfl | (simp only [z1, zn, h2]; done)))) | fail)
      obtain ⟨v13, h3, hr⟩ := Option.bind_eq_some_iff.1 hr
      try dsimp only at hr
      apply TO.cal (by first | rfl | (simp only [twant, z1, zp, zs, h2]; done)) rfl goFn117 (pulse_refuse_c1_11f9_spec h3) rfl rfl rfl
      (repeat (focus (show _ = _; first | exact k1 rfl | exact k2 rfl | (simp only [zz, y9, e_i, Nat.reduceAdd, Nat.reduceMul, Nat.reduceLeDiff, Nat.reduceEqDiff, shift, kill, killB, frz, frzB, view, tml, tmlc, List.length_set, h2] <;> exact rfl) | exact rfl)))
      with_reducible apply TO.here
      repeat (first | (with_reducible first | refine mv ?_ | refine m12 rfl ?_ | refine TO.nil ?_) | ((with_reducible first | apply TO.asg | apply TO.mv | apply TO.bin); (repeat (focus (show _ = _; first | exact k1 rfl | exact k2 rfl | (simp only [zz, y9, e_i, Nat.reduceAdd, Nat.reduceMul, Nat.reduceLeDiff, Nat.reduceEqDiff, h2] <;> exact rfl) | exact rfl))); (with_reducible refine TO.here ?_)) | ((with_reducible apply TX.region); (focus (simp only [zl] <;> exact rfl)); (focus rfl); (try dsimp only)) | ((with_reducible apply TX.cond_true); (focus rfl); (focus (first | rfl | (simp only [z1, zn, h2]; done)))) | ((with_reducible apply TX.cond_false); (focus rfl); (focus (first | rfl | (simp only [z1, zn, h2]; done)))) | fail)
      rcases Bool.eq_false_or_eq_true ((decide (v13 ≠ 0))) with h4 | h4
      · rw [if_pos h4] at hr
        repeat (first | (with_reducible first | refine mv ?_ | refine m12 rfl ?_ | refine TO.nil ?_) | ((with_reducible first | apply TO.mv | apply TO.asg); (repeat (focus (show _ = _; first | exact k1 rfl | exact k2 rfl | (simp only [zz, y9, e_i, Nat.reduceAdd, Nat.reduceMul, Nat.reduceLeDiff, Nat.reduceEqDiff, h2, h4] <;> exact rfl) | exact rfl))); (with_reducible refine TO.here ?_)) | ((with_reducible apply TX.region); (focus (simp only [zl] <;> exact rfl)); (focus rfl); (try dsimp only)) | ((with_reducible apply TX.cond_true); (focus rfl); (focus (first | rfl | (simp only [z1, zn, h2, h4]; done)))) | ((with_reducible apply TX.cond_false); (focus rfl); (focus (first | rfl | (simp only [z1, zn, h2, h4]; done)))) | fail)
        cases hr
        refine ⟨.inr rfl, _, (by simp only [zy, y9, e_i, tresAll, tres, tload, rowOf, partT, h2, h4]; exact rfl), ?_⟩
        exact Wk.ren [] rfl .nil (by (repeat (first | exact RNs.nil | refine RNs.cons .junk ?_ | refine RNs.cons (.keep rfl rfl) ?_ | refine RNs.cons (.lsl rfl rfl) ?_ | refine RNs.cons (.lsl rfl (by simp only [List.length_set])) ?_ | refine RNs.cons (.lptr rfl) ?_ | refine RNs.cons (.nil rfl) ?_ | refine RNs.cons .nl ?_ | refine RNs.cons (.keep (by simp only [h2, h4]) rfl) ?_ | refine RNs.cons (.tuple' ?_) ?_ | refine RNs.cons (.agg' ?_) ?_)))
      · rw [if_neg (by rw [h4]; exact Bool.false_ne_true)] at hr
        repeat (first | (with_reducible first | refine mv ?_ | refine m12 rfl ?_ | refine TO.nil ?_) | ((with_reducible first | apply TO.bin | apply TO.mv); (repeat (focus (show _ = _; first | exact k1 rfl | exact k2 rfl | (simp only [zz, y9, e_i, Nat.reduceAdd, Nat.reduceMul, Nat.reduceLeDiff, Nat.reduceEqDiff, h2, h4] <;> exact rfl) | exact rfl))); (with_reducible refine TO.here ?_)) | ((with_reducible apply TX.region); (focus (simp only [zl] <;> exact rfl)); (focus rfl); (try dsimp only)) | ((with_reducible apply TX.cond_true); (focus rfl); (focus (first | rfl | (simp only [z1, zn, h2, h4]; done)))) | ((with_reducible apply TX.cond_false); (focus rfl); (focus (first | rfl | (simp only [z1, zn, h2, h4]; done)))) | fail)
        refine TX.unroll ?_
        repeat (first | (with_reducible first | refine mv ?_ | refine m12 rfl ?_ | refine TO.nil ?_) | ((with_reducible first | apply TO.bin | apply TO.ia | apply TO.ld | apply TO.asg | apply TO.mv); (repeat (focus (show _ = _; first | exact k1 rfl | exact k2 rfl | (simp only [zz, y9, e_i, Nat.reduceAdd, Nat.reduceMul, Nat.reduceLeDiff, Nat.reduceEqDiff, tindexAddr, z5, Int.reduceToNat, Int.reduceLE, Int.reduceLT, Int.cast_ofNat_Int, tload, rowOf, partT, List.getElem?_map, h2, h4] <;> exact rfl) | exact rfl))); (with_reducible refine TO.here ?_)) | ((with_reducible apply TX.region); (focus (simp only [zl] <;> exact rfl)); (focus rfl); (try dsimp only)) | ((with_reducible apply TX.cond_true); (focus rfl); (focus (first | rfl | (simp only [z1, zn, h2, h4]; done)))) | ((with_reducible apply TX.cond_false); (focus rfl); (focus (first | rfl | (simp only [z1, zn, h2, h4]; done)))) | fail)
        obtain ⟨v14, h5, hr⟩ := Option.bind_eq_some_iff.1 hr
        try dsimp only at hr
        apply TO.cal (by first | rfl | (simp only [twant, z1, zp, zs, h2, h4]; done)) rfl goFn133 (pulse_each_c1_4fde_spec h5) rfl rfl rfl
        (repeat (focus (show _ = _; first | exact k1 rfl | exact k2 rfl | (simp only [zz, y9, e_i, Nat.reduceAdd, Nat.reduceMul, Nat.reduceLeDiff, Nat.reduceEqDiff, shift, kill, killB, frz, frzB, view, tml, tmlc, List.length_set, h2, h4] <;> exact rfl) | exact rfl)))
        with_reducible apply TO.here
        repeat (first | (with_reducible first | refine mv ?_ | refine m12 rfl ?_ | refine TO.nil ?_) | ((with_reducible first | apply TO.asg | apply TO.mv | apply TO.bin); (repeat (focus (show _ = _; first | exact k1 rfl | exact k2 rfl | (simp only [zz, y9, e_i, Nat.reduceAdd, Nat.reduceMul, Nat.reduceLeDiff, Nat.reduceEqDiff, h2, h4] <;> exact rfl) | exact rfl))); (with_reducible refine TO.here ?_)) | ((with_reducible apply TX.region); (focus (simp only [zl] <;> exact rfl)); (focus rfl); (try dsimp only)) | ((with_reducible apply TX.cond_true); (focus rfl); (focus (first | rfl | (simp only [z1, zn, h2, h4]; done)))) | ((with_reducible apply TX.cond_false); (focus rfl); (focus (first | rfl | (simp only [z1, zn, h2, h4]; done)))) | fail)
        rcases Bool.eq_false_or_eq_true ((decide (v14 ≠ 0))) with h6 | h6
        · rw [if_pos h6] at hr
          repeat (first | (with_reducible first | refine mv ?_ | refine m12 rfl ?_ | refine TO.nil ?_) | ((with_reducible first | apply TO.mv | apply TO.asg); (repeat (focus (show _ = _; first | exact k1 rfl | exact k2 rfl | (simp only [zz, y9, e_i, Nat.reduceAdd, Nat.reduceMul, Nat.reduceLeDiff, Nat.reduceEqDiff, h2, h4, h6] <;> exact rfl) | exact rfl))); (with_reducible refine TO.here ?_)) | ((with_reducible apply TX.region); (focus (simp only [zl] <;> exact rfl)); (focus rfl); (try dsimp only)) | ((with_reducible apply TX.cond_true); (focus rfl); (focus (first | rfl | (simp only [z1, zn, h2, h4, h6]; done)))) | ((with_reducible apply TX.cond_false); (focus rfl); (focus (first | rfl | (simp only [z1, zn, h2, h4, h6]; done)))) | fail)
          cases hr
          refine ⟨.inr rfl, _, (by simp only [zy, y9, e_i, tresAll, tres, tload, rowOf, partT, h2, h4, h6]; exact rfl), ?_⟩
          exact Wk.ren [] rfl .nil (by (repeat (first | exact RNs.nil | refine RNs.cons .junk ?_ | refine RNs.cons (.keep rfl rfl) ?_ | refine RNs.cons (.lsl rfl rfl) ?_ | refine RNs.cons (.lsl rfl (by simp only [List.length_set])) ?_ | refine RNs.cons (.lptr rfl) ?_ | refine RNs.cons (.nil rfl) ?_ | refine RNs.cons .nl ?_ | refine RNs.cons (.keep (by simp only [h2, h4, h6]) rfl) ?_ | refine RNs.cons (.tuple' ?_) ?_ | refine RNs.cons (.agg' ?_) ?_)))
        · rw [if_neg (by rw [h6]; exact Bool.false_ne_true)] at hr
          repeat (first | (with_reducible first | refine mv ?_ | refine m12 rfl ?_ | refine TO.nil ?_) | ((with_reducible first | apply TO.bin | apply TO.mv); (repeat (focus (show _ = _; first | exact k1 rfl | exact k2 rfl | (simp only [zz, y9, e_i, Nat.reduceAdd, Nat.reduceMul, Nat.reduceLeDiff, Nat.reduceEqDiff, h2, h4, h6] <;> exact rfl) | exact rfl))); (with_reducible refine TO.here ?_)) | ((with_reducible apply TX.region); (focus (simp only [zl] <;> exact rfl)); (focus rfl); (try dsimp only)) | ((with_reducible apply TX.cond_true); (focus rfl); (focus (first | rfl | (simp only [z1, zn, h2, h4, h6]; done)))) | ((with_reducible apply TX.cond_false); (focus rfl); (focus (first | rfl | (simp only [z1, zn, h2, h4, h6]; done)))) | fail)
          refine TX.unroll ?_
          repeat (first | (with_reducible first | refine mv ?_ | refine m12 rfl ?_ | refine TO.nil ?_) | ((with_reducible first | apply TO.bin | apply TO.ia | apply TO.ld | apply TO.asg | apply TO.mv); (repeat (focus (show _ = _; first | exact k1 rfl | exact k2 rfl | (simp only [zz, y9, e_i, Nat.reduceAdd, Nat.reduceMul, Nat.reduceLeDiff, Nat.reduceEqDiff, tindexAddr, z5, Int.reduceToNat, Int.reduceLE, Int.reduceLT, Int.cast_ofNat_Int, tload, rowOf, partT, List.getElem?_map, h2, h4, h6] <;> exact rfl) | exact rfl))); (with_reducible refine TO.here ?_)) | ((with_reducible apply TX.region); (focus (simp only [zl] <;> exact rfl)); (focus rfl); (try dsimp only)) | ((with_reducible apply TX.cond_true); (focus rfl); (focus (first | rfl | (simp only [z1, zn, h2, h4, h6]; done)))) | ((with_reducible apply TX.cond_false); (focus rfl); (focus (first | rfl | (simp only [z1, zn, h2, h4, h6]; done)))) | fail)
          obtain ⟨v15, h7, hr⟩ := Option.bind_eq_some_iff.1 hr
          try dsimp only at hr
          apply TO.cal (by first | rfl | (simp only [twant, z1, zp, zs, h2, h4, h6]; done)) rfl goFn117 (pulse_refuse_c1_11f9_spec h7) rfl rfl rfl
          (repeat (focus (show _ = _; first | exact k1 rfl | exact k2 rfl | (simp only [zz, y9, e_i, Nat.reduceAdd, Nat.reduceMul, Nat.reduceLeDiff, Nat.reduceEqDiff, shift, kill, killB, frz, frzB, view, tml, tmlc, List.length_set, h2, h4, h6] <;> exact rfl) | exact rfl)))
          with_reducible apply TO.here
          repeat (first | (with_reducible first | refine mv ?_ | refine m12 rfl ?_ | refine TO.nil ?_) | ((with_reducible first | apply TO.asg | apply TO.mv | apply TO.bin); (repeat (focus (show _ = _; first | exact k1 rfl | exact k2 rfl | (simp only [zz, y9, e_i, Nat.reduceAdd, Nat.reduceMul, Nat.reduceLeDiff, Nat.reduceEqDiff, h2, h4, h6] <;> exact rfl) | exact rfl))); (with_reducible refine TO.here ?_)) | ((with_reducible apply TX.region); (focus (simp only [zl] <;> exact rfl)); (focus rfl); (try dsimp only)) | ((with_reducible apply TX.cond_true); (focus rfl); (focus (first | rfl | (simp only [z1, zn, h2, h4, h6]; done)))) | ((with_reducible apply TX.cond_false); (focus rfl); (focus (first | rfl | (simp only [z1, zn, h2, h4, h6]; done)))) | fail)
          rcases Bool.eq_false_or_eq_true ((decide (v15 ≠ 0))) with h8 | h8
          · rw [if_pos h8] at hr
            repeat (first | (with_reducible first | refine mv ?_ | refine m12 rfl ?_ | refine TO.nil ?_) | ((with_reducible first | apply TO.mv | apply TO.asg); (repeat (focus (show _ = _; first | exact k1 rfl | exact k2 rfl | (simp only [zz, y9, e_i, Nat.reduceAdd, Nat.reduceMul, Nat.reduceLeDiff, Nat.reduceEqDiff, h2, h4, h6, h8] <;> exact rfl) | exact rfl))); (with_reducible refine TO.here ?_)) | ((with_reducible apply TX.region); (focus (simp only [zl] <;> exact rfl)); (focus rfl); (try dsimp only)) | ((with_reducible apply TX.cond_true); (focus rfl); (focus (first | rfl | (simp only [z1, zn, h2, h4, h6, h8]; done)))) | ((with_reducible apply TX.cond_false); (focus rfl); (focus (first | rfl | (simp only [z1, zn, h2, h4, h6, h8]; done)))) | fail)
            cases hr
            refine ⟨.inr rfl, _, (by simp only [zy, y9, e_i, tresAll, tres, tload, rowOf, partT, h2, h4, h6, h8]; exact rfl), ?_⟩
            exact Wk.ren [] rfl .nil (by (repeat (first | exact RNs.nil | refine RNs.cons .junk ?_ | refine RNs.cons (.keep rfl rfl) ?_ | refine RNs.cons (.lsl rfl rfl) ?_ | refine RNs.cons (.lsl rfl (by simp only [List.length_set])) ?_ | refine RNs.cons (.lptr rfl) ?_ | refine RNs.cons (.nil rfl) ?_ | refine RNs.cons .nl ?_ | refine RNs.cons (.keep (by simp only [h2, h4, h6, h8]) rfl) ?_ | refine RNs.cons (.tuple' ?_) ?_ | refine RNs.cons (.agg' ?_) ?_)))
          · rw [if_neg (by rw [h8]; exact Bool.false_ne_true)] at hr
            repeat (first | (with_reducible first | refine mv ?_ | refine m12 rfl ?_ | refine TO.nil ?_) | ((with_reducible first | apply TO.bin | apply TO.mv); (repeat (focus (show _ = _; first | exact k1 rfl | exact k2 rfl | (simp only [zz, y9, e_i, Nat.reduceAdd, Nat.reduceMul, Nat.reduceLeDiff, Nat.reduceEqDiff, h2, h4, h6, h8] <;> exact rfl) | exact rfl))); (with_reducible refine TO.here ?_)) | ((with_reducible apply TX.region); (focus (simp only [zl] <;> exact rfl)); (focus rfl); (try dsimp only)) | ((with_reducible apply TX.cond_true); (focus rfl); (focus (first | rfl | (simp only [z1, zn, h2, h4, h6, h8]; done)))) | ((with_reducible apply TX.cond_false); (focus rfl); (focus (first | rfl | (simp only [z1, zn, h2, h4, h6, h8]; done)))) | fail)
            refine TX.unroll ?_
            repeat (first | (with_reducible first | refine mv ?_ | refine m12 rfl ?_ | refine TO.nil ?_) | ((with_reducible first | apply TO.bin | apply TO.asg); (repeat (focus (show _ = _; first | exact k1 rfl | exact k2 rfl | (simp only [zz, y9, e_i, Nat.reduceAdd, Nat.reduceMul, Nat.reduceLeDiff, Nat.reduceEqDiff, h2, h4, h6, h8] <;> exact rfl) | exact rfl))); (with_reducible refine TO.here ?_)) | ((with_reducible apply TX.region); (focus (simp only [zl] <;> exact rfl)); (focus rfl); (try dsimp only)) | ((with_reducible apply TX.cond_true); (focus rfl); (focus (first | rfl | (simp only [z1, zn, h2, h4, h6, h8]; done)))) | ((with_reducible apply TX.cond_false); (focus rfl); (focus (first | rfl | (simp only [z1, zn, h2, h4, h6, h8]; done)))) | fail)
            cases hr
            refine ⟨.inr rfl, _, (by simp only [zy, y9, e_i, tresAll, tres, tload, rowOf, partT, h2, h4, h6, h8]; exact rfl), ?_⟩
            exact Wk.ren [] rfl .nil (by (repeat (first | exact RNs.nil | refine RNs.cons .junk ?_ | refine RNs.cons (.keep rfl rfl) ?_ | refine RNs.cons (.lsl rfl rfl) ?_ | refine RNs.cons (.lsl rfl (by simp only [List.length_set])) ?_ | refine RNs.cons (.lptr rfl) ?_ | refine RNs.cons (.nil rfl) ?_ | refine RNs.cons .nl ?_ | refine RNs.cons (.keep (by simp only [h2, h4, h6, h8]) rfl) ?_ | refine RNs.cons (.tuple' ?_) ?_ | refine RNs.cons (.agg' ?_) ?_)))
  rfl

end Go.Rex

namespace Go.Rex
open Go.Proofs
open Go Go.Rex Go.RowKit
set_option maxRecDepth 100000
def y10 := an @ag22 <| an @ag3 <| an @cs105 <| an @fd24_0 <| an @fd24_1 <| an @so149 <| an @so22 <| @zc105
theorem pulse_CheckRegister_spec {v1 : Int} {v2 : (List Int)} {v3 : Int} (hr : pulse_CheckRegister v1 v2 = some (v3)) : Spec (lim Try.prog) 15 [.agg [.v (.int .i64 v1), .list 1 (v2.map e_i)]] ⟨[.v (.int .i64 v3)], []⟩ := by
  unfold pulse_CheckRegister at hr
  apply Spec.fn Try.func15 rfl
  focus (simp [Try.f15] <;> exact rfl)
  focus
    repeat (first | (with_reducible first | refine mv ?_ | refine m12 rfl ?_ | refine TO.nil ?_) | ((with_reducible first | apply TO.bf | apply TO.asg); (repeat (focus (show _ = _; first | exact k1 rfl | exact k2 rfl | (simp only [zz, y10, e_i, Nat.reduceAdd, Nat.reduceMul, Nat.reduceLeDiff, Nat.reduceEqDiff] <;> exact rfl) | exact rfl))); (with_reducible refine TO.here ?_)) | ((with_reducible apply TX.region); (focus (simp only [zl] <;> exact rfl)); (focus rfl); (try dsimp only)) | with_reducible refine TD.nil ?_ | ((with_reducible first | apply TD.fa | apply TD.ld | apply TD.ldw); (repeat (focus (show _ = _; first | exact k1 rfl | exact k2 rfl | (simp only [zz, y10, e_i, Nat.reduceAdd, Nat.reduceMul, Nat.reduceLeDiff, Nat.reduceEqDiff, tfieldAddr, tload, rowOf, partT, List.getElem?_map] <;> exact rfl) | exact rfl))); (with_reducible refine TD.here ?_)) | ((with_reducible apply TX.drawn); (focus decide +kernel); (focus (simp only [zl] <;> exact rfl)); (focus exact rfl); (try dsimp only)) | fail)
    obtain ⟨⟨v4, v5⟩, h1, hr⟩ := Option.bind_eq_some_iff.1 hr
    try dsimp only at hr
    first | apply TD.cal (by first | rfl | (simp only [twant, z1, zp, zs]; done)) rfl goFn61 (pulse_within_spec h1) rfl rfl rfl | apply TD.calw (by first | rfl | (simp only [twant, z1, zp, zs]; done)) rfl goFn61 (pulse_within_spec h1) rfl rfl rfl rfl
    (repeat (focus (show _ = _; first | exact k1 rfl | exact k2 rfl | (simp only [zz, y10, e_i, Nat.reduceAdd, Nat.reduceMul, Nat.reduceLeDiff, Nat.reduceEqDiff, shift, kill, killB, frz, frzB, view, tml, tmlc, List.length_set] <;> exact rfl) | exact rfl)))
    with_reducible apply TD.here
    repeat (first | (with_reducible first | refine mv ?_ | refine m12 rfl ?_ | refine TD.nil ?_) | ((with_reducible first | apply TD.fa | apply TD.ld | apply TD.ldw | apply TD.len | apply TD.bin); (repeat (focus (show _ = _; first | exact k1 rfl | exact k2 rfl | (simp only [zz, y10, e_i, Nat.reduceAdd, Nat.reduceMul, Nat.reduceLeDiff, Nat.reduceEqDiff, tfieldAddr, tload, rowOf, partT, List.getElem?_map, tlen] <;> exact rfl) | exact rfl))); (with_reducible refine TD.here ?_)) | ((with_reducible apply TX.drawn); (focus decide +kernel); (focus (simp only [zl] <;> exact rfl)); (focus exact rfl); (try dsimp only)) | fail)
    obtain ⟨⟨v6, v7⟩, h2, hr⟩ := Option.bind_eq_some_iff.1 hr
    try dsimp only at hr
    first | apply TD.cal (by first | rfl | (simp only [twant, z1, zp, zs]; done)) rfl goFn64 (pulse_refuse_spec h2) rfl rfl rfl | apply TD.calw (by first | rfl | (simp only [twant, z1, zp, zs]; done)) rfl goFn64 (pulse_refuse_spec h2) rfl rfl rfl rfl
    (repeat (focus (show _ = _; first | exact k1 rfl | exact k2 rfl | (simp only [zz, y10, e_i, Nat.reduceAdd, Nat.reduceMul, Nat.reduceLeDiff, Nat.reduceEqDiff, shift, kill, killB, frz, frzB, view, tml, tmlc, List.length_set] <;> exact rfl) | exact rfl)))
    with_reducible apply TD.here
    repeat (first | (with_reducible first | refine mv ?_ | refine m12 rfl ?_ | refine TD.nil ?_) | ((with_reducible first | apply TD.fa | apply TD.ld | apply TD.ldw); (repeat (focus (show _ = _; first | exact k1 rfl | exact k2 rfl | (simp only [zz, y10, e_i, Nat.reduceAdd, Nat.reduceMul, Nat.reduceLeDiff, Nat.reduceEqDiff, tfieldAddr, tload, rowOf, partT, List.getElem?_map] <;> exact rfl) | exact rfl))); (with_reducible refine TD.here ?_)) | ((with_reducible apply TX.drawn); (focus decide +kernel); (focus (simp only [zl] <;> exact rfl)); (focus exact rfl); (try dsimp only)) | fail)
    obtain ⟨⟨v8, v9, v10, v11⟩, h3, hr⟩ := Option.bind_eq_some_iff.1 hr
    try dsimp only at hr
    first | apply TD.cal (by first | rfl | (simp only [twant, z1, zp, zs]; done)) rfl goFn65 (pulse_ascending_spec h3) rfl rfl rfl | apply TD.calw (by first | rfl | (simp only [twant, z1, zp, zs]; done)) rfl goFn65 (pulse_ascending_spec h3) rfl rfl rfl rfl
    (repeat (focus (show _ = _; first | exact k1 rfl | exact k2 rfl | (simp only [zz, y10, e_i, Nat.reduceAdd, Nat.reduceMul, Nat.reduceLeDiff, Nat.reduceEqDiff, shift, kill, killB, frz, frzB, view, tml, tmlc, List.length_set] <;> exact rfl) | exact rfl)))
    with_reducible apply TD.here
    repeat (first | (with_reducible first | refine mv ?_ | refine m12 rfl ?_ | refine TD.nil ?_) | ((with_reducible first | apply TD.fa | apply TD.ld | apply TD.ldw); (repeat (focus (show _ = _; first | exact k1 rfl | exact k2 rfl | (simp only [zz, y10, e_i, Nat.reduceAdd, Nat.reduceMul, Nat.reduceLeDiff, Nat.reduceEqDiff, tfieldAddr, tload, rowOf, partT, List.getElem?_map] <;> exact rfl) | exact rfl))); (with_reducible refine TD.here ?_)) | ((with_reducible apply TX.drawn); (focus decide +kernel); (focus (simp only [zl] <;> exact rfl)); (focus exact rfl); (try dsimp only)) | fail)
    obtain ⟨v12, h4, hr⟩ := Option.bind_eq_some_iff.1 hr
    try dsimp only at hr
    first | apply TD.cal (by first | rfl | (simp only [twant, z1, zp, zs]; done)) rfl goFn66 (slices_Contains_int_int_spec h4) rfl rfl rfl | apply TD.calw (by first | rfl | (simp only [twant, z1, zp, zs]; done)) rfl goFn66 (slices_Contains_int_int_spec h4) rfl rfl rfl rfl
    (repeat (focus (show _ = _; first | exact k1 rfl | exact k2 rfl | (simp only [zz, y10, e_i, Nat.reduceAdd, Nat.reduceMul, Nat.reduceLeDiff, Nat.reduceEqDiff, shift, kill, killB, frz, frzB, view, tml, tmlc, List.length_set] <;> exact rfl) | exact rfl)))
    with_reducible apply TD.here
    repeat (first | (with_reducible first | refine mv ?_ | refine m12 rfl ?_ | refine TD.nil ?_) | ((with_reducible apply TX.drawn); (focus decide +kernel); (focus (simp only [zl] <;> exact rfl)); (focus exact rfl); (try dsimp only)) | fail)
    apply TD.pop1 (by first | rfl | (simp only [twant, z1, zp, zs]; done)) (pop_not rfl)
    (repeat (focus (show _ = _; first | exact k1 rfl | exact k2 rfl | (simp only [zz, y10, e_i, Nat.reduceAdd, Nat.reduceMul, Nat.reduceLeDiff, Nat.reduceEqDiff] <;> exact rfl) | exact rfl)))
    with_reducible apply TD.here
    repeat (first | (with_reducible first | refine mv ?_ | refine m12 rfl ?_ | refine TD.nil ?_) | ((with_reducible apply TX.drawn); (focus decide +kernel); (focus (simp only [zl] <;> exact rfl)); (focus exact rfl); (try dsimp only)) | fail)
    obtain ⟨⟨v13, v14⟩, h5, hr⟩ := Option.bind_eq_some_iff.1 hr
    try dsimp only at hr
    first | apply TD.cal (by first | rfl | (simp only [twant, z1, zp, zs]; done)) rfl goFn64 (pulse_refuse_spec h5) rfl rfl rfl | apply TD.calw (by first | rfl | (simp only [twant, z1, zp, zs]; done)) rfl goFn64 (pulse_refuse_spec h5) rfl rfl rfl rfl
    (repeat (focus (show _ = _; first | exact k1 rfl | exact k2 rfl | (simp only [zz, y10, e_i, Nat.reduceAdd, Nat.reduceMul, Nat.reduceLeDiff, Nat.reduceEqDiff, shift, kill, killB, frz, frzB, view, tml, tmlc, List.length_set] <;> exact rfl) | exact rfl)))
    with_reducible apply TD.here
    repeat (first | (with_reducible first | refine mv ?_ | refine m12 rfl ?_ | refine TD.nil ?_) | ((with_reducible first | apply TD.bs); (repeat (focus (show _ = _; first | exact k1 rfl | exact k2 rfl | (simp only [zz, y10, e_i, Nat.reduceAdd, Nat.reduceMul, Nat.reduceLeDiff, Nat.reduceEqDiff, tslice, tparts] <;> exact rfl) | exact rfl))); (with_reducible refine TD.here ?_)) | ((with_reducible apply TX.drawn); (focus decide +kernel); (focus (simp only [zl] <;> exact rfl)); (focus exact rfl); (try dsimp only)) | fail)
    obtain ⟨v15, h6, hr⟩ := Option.bind_eq_some_iff.1 hr
    try dsimp only at hr
    first | apply TD.cal (by first | rfl | (simp only [twant, z1, zp, zs]; done)) rfl goFn58 (pulse_firstError_6869_spec h6) rfl rfl rfl | apply TD.calw (by first | rfl | (simp only [twant, z1, zp, zs]; done)) rfl goFn58 (pulse_firstError_6869_spec h6) rfl rfl rfl rfl
    (repeat (focus (show _ = _; first | exact k1 rfl | exact k2 rfl | (simp only [zz, y10, e_i, Nat.reduceAdd, Nat.reduceMul, Nat.reduceLeDiff, Nat.reduceEqDiff, shift, kill, killB, frz, frzB, view, tml, tmlc, List.length_set] <;> exact rfl) | exact rfl)))
    with_reducible apply TD.here
    repeat (first | (with_reducible first | refine mv ?_ | refine m12 rfl ?_ | refine TD.nil ?_) | ((with_reducible first | apply TD.asg); (repeat (focus (show _ = _; first | exact k1 rfl | exact k2 rfl | (simp only [zz, y10, e_i, Nat.reduceAdd, Nat.reduceMul, Nat.reduceLeDiff, Nat.reduceEqDiff] <;> exact rfl) | exact rfl))); (with_reducible refine TD.here ?_)) | ((with_reducible apply TX.drawn); (focus decide +kernel); (focus (simp only [zl] <;> exact rfl)); (focus exact rfl); (try dsimp only)) | fail)
    cases hr
    refine ⟨.inr rfl, _, (by simp only [zy, y10, e_i, tresAll, tres, tload, rowOf, partT]; exact rfl), ?_⟩
    exact wr [] rfl .nil
  rfl

end Go.Rex

namespace Go.Rex
open Go.Proofs
open Go Go.Rex Go.RowKit
set_option maxRecDepth 100000
def y11 := an @ag24 <| an @cs24 <| an @fd102_0 <| @ok24
theorem pulse_generator_check_spec {v1 : Int} {v2 : (List Int)} {v3 : Int} (hr : pulse_generator_check v1 v2 = some (v3)) : Spec (lim Try.prog) 59 [.agg [.v (.int .i64 v1), .list 1 (v2.map e_i)]] ⟨[.v (.int .i64 v3)], []⟩ := by
  unfold pulse_generator_check at hr
  apply Spec.fn Try.func59 rfl
  focus (simp [Try.f59] <;> exact rfl)
  focus
    repeat (first | (with_reducible first | refine mv ?_ | refine m12 rfl ?_ | refine TO.nil ?_) | ((with_reducible first | apply TO.bf | apply TO.asg | apply TO.fa | apply TO.ld); (repeat (focus (show _ = _; first | exact k1 rfl | exact k2 rfl | (simp only [zz, y11, e_i, Nat.reduceAdd, Nat.reduceMul, Nat.reduceLeDiff, Nat.reduceEqDiff, tfieldAddr, tload, rowOf, partT, List.getElem?_map] <;> exact rfl) | exact rfl))); (with_reducible refine TO.here ?_)) | ((with_reducible apply TX.region); (focus (simp only [zl] <;> exact rfl)); (focus rfl); (try dsimp only)) | fail)
    obtain ⟨v4, h1, hr⟩ := Option.bind_eq_some_iff.1 hr
    try dsimp only at hr
    apply TO.cal (by first | rfl | (simp only [twant, z1, zp, zs]; done)) rfl goFn15 (pulse_CheckRegister_spec h1) rfl rfl rfl
    (repeat (focus (show _ = _; first | exact k1 rfl | exact k2 rfl | (simp only [zz, y11, e_i, Nat.reduceAdd, Nat.reduceMul, Nat.reduceLeDiff, Nat.reduceEqDiff, shift, kill, killB, frz, frzB, view, tml, tmlc, List.length_set] <;> exact rfl) | exact rfl)))
    with_reducible apply TO.here
    repeat (first | (with_reducible first | refine mv ?_ | refine m12 rfl ?_ | refine TO.nil ?_) | ((with_reducible first | apply TO.asg); (repeat (focus (show _ = _; first | exact k1 rfl | exact k2 rfl | (simp only [zz, y11, e_i, Nat.reduceAdd, Nat.reduceMul, Nat.reduceLeDiff, Nat.reduceEqDiff] <;> exact rfl) | exact rfl))); (with_reducible refine TO.here ?_)) | ((with_reducible apply TX.region); (focus (simp only [zl] <;> exact rfl)); (focus rfl); (try dsimp only)) | fail)
    cases hr
    refine ⟨.inr rfl, _, (by simp only [zy, y11, e_i, tresAll, tres, tload, rowOf, partT]; exact rfl), ?_⟩
    exact wr [] rfl .nil
  rfl

end Go.Rex

namespace Go.Rex
open Go.Proofs
open Go Go.Rex Go.RowKit
set_option maxRecDepth 100000
def y12 := an @ag22 <| an @ag3 <| an @cs3 <| an @fd102_0 <| an @fd24_0 <| an @fd24_1 <| an @ok3 <| an @so22 <| @wi64_0a1
theorem pulse_generator_next_spec {v1 : Int} {v2 : (List Int)} {v3 : Int} {v4 : Int} (hr : pulse_generator_next v1 v2 v3 = some (v4)) : Spec (lim Try.prog) 116 [.agg [.v (.int .i64 v1), .list 1 (v2.map e_i)], .v (.int .i64 v3)] ⟨[.v (.int .i64 v4)], []⟩ := by
  unfold pulse_generator_next at hr
  apply Spec.fn Try.func116 rfl
  focus (simp [Try.f116] <;> exact rfl)
  focus
    repeat (first | (with_reducible first | refine mv ?_ | refine m12 rfl ?_ | refine TO.nil ?_) | ((with_reducible first | apply TO.bf | apply TO.asg | apply TO.fa | apply TO.ld | apply TO.len | apply TO.mv); (repeat (focus (show _ = _; first | exact k1 rfl | exact k2 rfl | (simp only [zz, y12, e_i, Nat.reduceAdd, Nat.reduceMul, Nat.reduceLeDiff, Nat.reduceEqDiff, tfieldAddr, tload, rowOf, partT, List.getElem?_map, tlen] <;> exact rfl) | exact rfl))); (with_reducible refine TO.here ?_)) | ((with_reducible apply TX.region); (focus (simp only [zl] <;> exact rfl)); (focus rfl); (try dsimp only)) | fail)
    obtain ⟨v12, h7, hr⟩ := Option.bind_eq_some_iff.1 hr
    try dsimp only at hr
    refine TX.loopE (step := pulse_generator_next_l1 v1 v2 v3) (x := (0, 0)) h7 (fun (v5, v6) => ⟨.junk :: .v (.int .i64 v3) :: .fptr true [.v (.int .i64 v1), .list 1 (v2.map e_i)] 0 :: .junk :: .junk :: .v (.int .i64 v5) :: .junk :: .junk :: .junk :: .junk :: .list 1 (v2.map e_i) :: .v (.int .i64 (v2.length : Int)) :: .v (.int .i64 v6) :: .junk :: .junk :: .junk :: .junk :: .junk :: .junk :: .junk :: .junk :: .junk :: .junk :: .junk :: .junk :: .junk :: .junk :: .junk :: .junk :: .junk :: .junk :: .junk :: .junk :: .junk :: .junk :: .junk :: [], []⟩) (fun v9 => (.exit 0, ⟨.junk :: .v (.int .i64 v3) :: .fptr true [.v (.int .i64 v1), .list 1 (v2.map e_i)] 0 :: .junk :: .junk :: .v (.int .i64 v9) :: .junk :: .junk :: .junk :: .junk :: .junk :: .junk :: .junk :: .junk :: .junk :: .junk :: .junk :: .junk :: .junk :: .junk :: .junk :: .junk :: .junk :: .junk :: .junk :: .junk :: .junk :: .junk :: .junk :: .junk :: .junk :: .junk :: .junk :: .junk :: .junk :: .junk :: [], []⟩)) ?_ ?_ ?_ ?_
    · rintro ⟨v5, v6⟩ v0 hr
      dsimp only [pulse_generator_next_l1] at hr
      try dsimp only
      repeat (first | (with_reducible first | refine mv ?_ | refine m12 rfl ?_ | refine TO.nil ?_) | ((with_reducible first | apply TO.bin); (repeat (focus (show _ = _; first | exact k1 rfl | exact k2 rfl | (simp only [zz, y12, e_i, Nat.reduceAdd, Nat.reduceMul, Nat.reduceLeDiff, Nat.reduceEqDiff] <;> exact rfl) | exact rfl))); (with_reducible refine TO.here ?_)) | ((with_reducible apply TX.region); (focus (simp only [zl] <;> exact rfl)); (focus rfl); (try dsimp only)) | ((with_reducible apply TX.cond_true); (focus rfl); (focus (first | rfl | (simp only [z1, zn]; done)))) | ((with_reducible apply TX.cond_false); (focus rfl); (focus (first | rfl | (simp only [z1, zn]; done)))) | fail)
      rcases Bool.eq_false_or_eq_true ((decide (v6 < (v2.length : Int)))) with h4 | h4
      · rw [if_pos h4] at hr
        repeat (first | (with_reducible first | refine mv ?_ | refine m12 rfl ?_ | refine TO.nil ?_) | ((with_reducible apply TX.region); (focus (simp only [zl] <;> exact rfl)); (focus rfl); (try dsimp only)) | ((with_reducible apply TX.cond_true); (focus rfl); (focus (first | rfl | (simp only [z1, zn, h4]; done)))) | ((with_reducible apply TX.cond_false); (focus rfl); (focus (first | rfl | (simp only [z1, zn, h4]; done)))) | fail)
        obtain ⟨v10, h5, hr⟩ := Option.bind_eq_some_iff.1 hr
        try dsimp only at hr
        have h5m := tidx_map (f := e_i) h5
        have h5l := getI_lt h5
        try simp only [List.length_set] at h5l
        have h5a := getI_at h5
        repeat (first | (with_reducible first | refine mv ?_ | refine m12 rfl ?_ | refine TO.nil ?_) | ((with_reducible first | apply TO.ia | apply TO.ld | apply TO.asg | apply TO.mv | apply TO.fa | apply TO.bin); (repeat (focus (show _ = _; first | exact k1 rfl | exact k2 rfl | (simp only [zz, y12, e_i, Nat.reduceAdd, Nat.reduceMul, Nat.reduceLeDiff, Nat.reduceEqDiff, tindexAddr, Nat.zero_add, tload, rowOf, partT, List.getElem?_map, tfieldAddr, h4, h5m, h5l, h5a] <;> exact rfl) | exact rfl))); (with_reducible refine TO.here ?_)) | ((with_reducible apply TX.region); (focus (simp only [zl] <;> exact rfl)); (focus rfl); (try dsimp only)) | fail)
        obtain ⟨v11, h6, hr⟩ := Option.bind_eq_some_iff.1 hr
        try dsimp only at hr
        apply TO.pop1 (by first | rfl | (simp only [twant, z1, zp, zs, h4, h5m, h5l, h5a]; done)) (pop_shift rfl rfl (by decide) (h6))
        (repeat (focus (show _ = _; first | exact k1 rfl | exact k2 rfl | (simp only [zz, y12, e_i, Nat.reduceAdd, Nat.reduceMul, Nat.reduceLeDiff, Nat.reduceEqDiff, h4, h5m, h5l, h5a] <;> exact rfl) | exact rfl)))
        with_reducible apply TO.here
        repeat (first | (with_reducible first | refine mv ?_ | refine m12 rfl ?_ | refine TO.nil ?_) | ((with_reducible apply TX.region); (focus (simp only [zl] <;> exact rfl)); (focus rfl); (try dsimp only)) | fail)
        apply TO.pop1 (by first | rfl | (simp only [twant, z1, zp, zs, h4, h5m, h5l, h5a]; done)) (pop_bits rfl rfl (by decide))
        (repeat (focus (show _ = _; first | exact k1 rfl | exact k2 rfl | (simp only [zz, y12, e_i, Nat.reduceAdd, Nat.reduceMul, Nat.reduceLeDiff, Nat.reduceEqDiff, h4, h5m, h5l, h5a] <;> exact rfl) | exact rfl)))
        with_reducible apply TO.here
        repeat (first | (with_reducible first | refine mv ?_ | refine m12 rfl ?_ | refine TO.nil ?_) | ((with_reducible apply TX.region); (focus (simp only [zl] <;> exact rfl)); (focus rfl); (try dsimp only)) | fail)
        apply TO.pop1 (by first | rfl | (simp only [twant, z1, zp, zs, h4, h5m, h5l, h5a]; done)) (pop_bits rfl rfl (by decide))
        (repeat (focus (show _ = _; first | exact k1 rfl | exact k2 rfl | (simp only [zz, y12, e_i, Nat.reduceAdd, Nat.reduceMul, Nat.reduceLeDiff, Nat.reduceEqDiff, h4, h5m, h5l, h5a] <;> exact rfl) | exact rfl)))
        with_reducible apply TO.here
        repeat (first | (with_reducible first | refine mv ?_ | refine m12 rfl ?_ | refine TO.nil ?_) | ((with_reducible first | apply TO.asg | apply TO.bin | apply TO.mv); (repeat (focus (show _ = _; first | exact k1 rfl | exact k2 rfl | (simp only [zz, y12, e_i, Nat.reduceAdd, Nat.reduceMul, Nat.reduceLeDiff, Nat.reduceEqDiff, h4, h5m, h5l, h5a] <;> exact rfl) | exact rfl))); (with_reducible refine TO.here ?_)) | ((with_reducible apply TX.region); (focus (simp only [zl] <;> exact rfl)); (focus rfl); (try dsimp only)) | fail)
        cases hr
        refine ⟨rfl, ?_⟩
        exact Wk.ren [] rfl .nil (by (repeat (first | exact RNs.nil | refine RNs.cons .junk ?_ | refine RNs.cons (.keep rfl rfl) ?_ | refine RNs.cons (.lsl rfl rfl) ?_ | refine RNs.cons (.lsl rfl (by simp only [List.length_set])) ?_ | refine RNs.cons (.lptr rfl) ?_ | refine RNs.cons (.nil rfl) ?_ | refine RNs.cons .nl ?_ | refine RNs.cons (.keep (by simp only [h4]) rfl) ?_ | refine RNs.cons (.tuple' ?_) ?_ | refine RNs.cons (.agg' ?_) ?_)))
      · rw [if_neg (by rw [h4]; exact Bool.false_ne_true)] at hr
        repeat (first | (with_reducible first | refine mv ?_ | refine m12 rfl ?_) | ((with_reducible apply TX.cond_true); (focus rfl); (focus (first | rfl | (simp only [z1, zn, h4]; done)))) | ((with_reducible apply TX.cond_false); (focus rfl); (focus (first | rfl | (simp only [z1, zn, h4]; done)))) | fail)
        cases hr
        refine ⟨rfl, ?_⟩
        exact Wk.ren [] rfl .nil (by (repeat (first | exact RNs.nil | refine RNs.cons .junk ?_ | refine RNs.cons (.keep rfl rfl) ?_ | refine RNs.cons (.lsl rfl rfl) ?_ | refine RNs.cons (.lsl rfl (by simp only [List.length_set])) ?_ | refine RNs.cons (.lptr rfl) ?_ | refine RNs.cons (.nil rfl) ?_ | refine RNs.cons .nl ?_ | refine RNs.cons (.keep (by simp only [h4]) rfl) ?_ | refine RNs.cons (.tuple' ?_) ?_ | refine RNs.cons (.agg' ?_) ?_)))
    · intro e h; cases h
    · try dsimp only
      repeat (first | (with_reducible first | refine mv ?_ | refine m12 rfl ?_ | refine TO.nil ?_) | ((with_reducible first | apply TO.mv); (repeat (focus (show _ = _; first | exact k1 rfl | exact k2 rfl | (simp only [zz, y12, e_i, Nat.reduceAdd, Nat.reduceMul, Nat.reduceLeDiff, Nat.reduceEqDiff] <;> exact rfl) | exact rfl))); (with_reducible refine TO.here ?_)) | ((with_reducible apply TX.region); (focus (simp only [zl] <;> exact rfl)); (focus rfl); (try dsimp only)) | fail)
      obtain ⟨v13, h8, hr⟩ := Option.bind_eq_some_iff.1 hr
      try dsimp only at hr
      apply TO.pop1 (by first | rfl | (simp only [twant, z1, zp, zs]; done)) (pop_shift rfl rfl (by decide) (h8))
      (repeat (focus (show _ = _; first | exact k1 rfl | exact k2 rfl | (simp only [zz, y12, e_i, Nat.reduceAdd, Nat.reduceMul, Nat.reduceLeDiff, Nat.reduceEqDiff] <;> exact rfl) | exact rfl)))
      with_reducible apply TO.here
      repeat (first | (with_reducible first | refine mv ?_ | refine m12 rfl ?_ | refine TO.nil ?_) | ((with_reducible first | apply TO.mv | apply TO.fa | apply TO.ld | apply TO.bin); (repeat (focus (show _ = _; first | exact k1 rfl | exact k2 rfl | (simp only [zz, y12, e_i, Nat.reduceAdd, Nat.reduceMul, Nat.reduceLeDiff, Nat.reduceEqDiff, tfieldAddr, tload, rowOf, partT, List.getElem?_map] <;> exact rfl) | exact rfl))); (with_reducible refine TO.here ?_)) | ((with_reducible apply TX.region); (focus (simp only [zl] <;> exact rfl)); (focus rfl); (try dsimp only)) | fail)
      obtain ⟨v14, h9, hr⟩ := Option.bind_eq_some_iff.1 hr
      try dsimp only at hr
      apply TO.pop1 (by first | rfl | (simp only [twant, z1, zp, zs]; done)) (pop_shift rfl rfl (by decide) (h9))
      (repeat (focus (show _ = _; first | exact k1 rfl | exact k2 rfl | (simp only [zz, y12, e_i, Nat.reduceAdd, Nat.reduceMul, Nat.reduceLeDiff, Nat.reduceEqDiff] <;> exact rfl) | exact rfl)))
      with_reducible apply TO.here
      repeat (first | (with_reducible first | refine mv ?_ | refine m12 rfl ?_ | refine TO.nil ?_) | ((with_reducible apply TX.region); (focus (simp only [zl] <;> exact rfl)); (focus rfl); (try dsimp only)) | fail)
      apply TO.pop1 (by first | rfl | (simp only [twant, z1, zp, zs]; done)) (pop_bits rfl rfl (by decide))
      (repeat (focus (show _ = _; first | exact k1 rfl | exact k2 rfl | (simp only [zz, y12, e_i, Nat.reduceAdd, Nat.reduceMul, Nat.reduceLeDiff, Nat.reduceEqDiff] <;> exact rfl) | exact rfl)))
      with_reducible apply TO.here
      repeat (first | (with_reducible first | refine mv ?_ | refine m12 rfl ?_ | refine TO.nil ?_) | ((with_reducible first | apply TO.asg); (repeat (focus (show _ = _; first | exact k1 rfl | exact k2 rfl | (simp only [zz, y12, e_i, Nat.reduceAdd, Nat.reduceMul, Nat.reduceLeDiff, Nat.reduceEqDiff] <;> exact rfl) | exact rfl))); (with_reducible refine TO.here ?_)) | ((with_reducible apply TX.region); (focus (simp only [zl] <;> exact rfl)); (focus rfl); (try dsimp only)) | fail)
      cases hr
      refine ⟨.inr rfl, _, (by simp only [zy, y12, e_i, tresAll, tres, tload, rowOf, partT]; exact rfl), ?_⟩
      exact wr [] rfl .nil
    · try dsimp only
      exact wr [] rfl .nil
  rfl

end Go.Rex

namespace Go.Rex
open Go.Proofs
open Go Go.Rex Go.RowKit
set_option maxRecDepth 100000
theorem pulse_generator_states_spec {v1 : Int} {v2 : (List Int)} {v3 : Int} {v4 : Int} {v5 : Int} {v6 : (List Int)} (hr : pulse_generator_states v1 v2 v3 = some (v4, v5, v6)) : Spec (lim Try.prog) 115 [.agg [.v (.int .i64 v1), .list 1 (v2.map e_i)], .v (.int .i64 v3)] ⟨[.func 141 [] [.fptr true [.v (.int .i64 v4)] 0, .fptr true [.v (.int .i64 v5), .list 1 (v6.map e_i)] 0]], []⟩ := by
  unfold pulse_generator_states at hr
  apply Spec.fn Try.func115 rfl
  focus (simp [Try.f115] <;> exact rfl)
  focus
    repeat (first | (with_reducible first | refine mv ?_ | refine m12 rfl ?_ | refine TO.nil ?_) | ((with_reducible first | apply TO.bf | apply TO.asg | apply TO.mf); (repeat (focus (show _ = _; first | exact k1 rfl | exact k2 rfl | (simp only [zz, e_i, Nat.reduceAdd, Nat.reduceMul, Nat.reduceLeDiff, Nat.reduceEqDiff] <;> exact rfl) | exact rfl))); (with_reducible refine TO.here ?_)) | ((with_reducible apply TX.region); (focus (simp only [zl] <;> exact rfl)); (focus rfl); (try dsimp only)) | fail)
    cases hr
    refine ⟨.inr rfl, _, (by simp only [zy, e_i, tresAll, tres, tload, rowOf, partT]; exact rfl), ?_⟩
    exact wr [] rfl .nil
  rfl

end Go.Rex

namespace Go.Rex
open Go.Proofs
open Go Go.Rex Go.RowKit
set_option maxRecDepth 100000
def y13 := an @ag102 <| an @ag3 <| an @cs102 <| @ok102
theorem pulse_generator_states_c1_3283_ispec {v1 : Int} {v2 : Int} {v3 : (List Int)} : ISpec (lim Try.prog) 141 [] [.fptr true [.v (.int .i64 v1)] 0, .fptr true [.v (.int .i64 v2), .list 1 (v3.map e_i)] 0] (fun a0 => [.v (.int .i64 a0)]) (fun {X} => pulse_generator_states_c1_3283_it (X := X) v1 v2 v3) := by
  refine ISpec.fn (tms := fun l => [.v (.func (.yield l) #[] #[]), .fptr true [.v (.int .i64 v1)] 0, .fptr true [.v (.int .i64 v2), .list 1 (v3.map e_i)] 0, .junk, .junk, .junk, .junk, .junk, .junk, .junk, .junk, .junk]) Try.func141 rfl rfl (fun l => by simp [Try.f141] <;> exact rfl) ?_
  intro X O l H v4 xx hY hr
  dsimp only [pulse_generator_states_c1_3283_it] at hr
  try dsimp only
  repeat (first | (with_reducible first | refine mv ?_ | refine m12 rfl ?_) | fail)
  refine TI.of ?_
  repeat (first | (with_reducible first | refine mv ?_ | refine m12 rfl ?_ | refine TO.nil ?_) | ((with_reducible first | apply TO.ld | apply TO.asg); (repeat (focus (show _ = _; first | exact k1 rfl | exact k2 rfl | (simp only [zz, y13, e_i, Nat.reduceAdd, Nat.reduceMul, Nat.reduceLeDiff, Nat.reduceEqDiff, tload, rowOf, partT, List.getElem?_map] <;> exact rfl) | exact rfl))); (with_reducible refine TO.here ?_)) | ((with_reducible apply TX.region); (focus (simp only [zl] <;> exact rfl)); (focus rfl); (try dsimp only)) | fail)
  refine ⟨[.v (.func (.yield l) #[] #[]), .fptr true [.v (.int .i64 v1)] 0, .fptr true [.v (.int .i64 v2), .list 1 (v3.map e_i)] 0, .junk, .v (.int .i64 v1), .v (.int .i64 v1), .junk, .junk, .junk, .junk, .junk, .junk], ?_, ?_⟩
  · exact wr [] rfl .nil
  repeat (first | (with_reducible first | refine mv ?_ | refine m12 rfl ?_) | fail)
  obtain ⟨v14, h7, hr⟩ := Option.bind_eq_some_iff.1 hr
  try dsimp only at hr
  refine TI.loopW (step := pulse_generator_states_c1_3283_l1 H v2 v3) (y := (v1, v4)) h7 (fun (v5, v6) => ([.v (.func (.yield l) #[] #[]), .junk, .fptr true [.v (.int .i64 v2), .list 1 (v3.map e_i)] 0, .junk, .v (.int .i64 v5), .junk, .junk, .junk, .junk, .junk, .junk, .junk], v6)) (fun v10 => (.exit 0, ([.junk, .junk, .junk, .junk, .junk, .junk, .junk, .junk, .junk, .junk, .junk, .junk], v10))) ?_ rfl ?_ ?_ ?_
  · try dsimp only
    exact wr [] rfl .nil
  · rintro ⟨v5, v6⟩ v0 hr
    dsimp only [pulse_generator_states_c1_3283_l1] at hr
    try dsimp only
    repeat (first | (with_reducible first | refine mv ?_ | refine m12 rfl ?_) | fail)
    refine TI.yield 2 hY (by simp only [zl] <;> exact rfl) (by simp only [List.take_succ_cons, List.take_zero] <;> exact rfl) (by exact rfl) ⟨⟨_, _, _, _, _, rfl⟩⟩ rfl ?_
    try dsimp only
    repeat (first | (with_reducible first | refine mv ?_ | refine m12 rfl ?_ | refine TO.nil ?_) | ((with_reducible first | apply TO.mv); (repeat (focus (show _ = _; first | exact k1 rfl | exact k2 rfl | (simp only [zz, y13, e_i, Nat.reduceAdd, Nat.reduceMul, Nat.reduceLeDiff, Nat.reduceEqDiff] <;> exact rfl) | exact rfl))); (with_reducible refine TO.here ?_)) | ((with_reducible apply TX.region); (focus (simp only [zl] <;> exact rfl)); (focus rfl); (try dsimp only)) | fail)
    obtain ⟨⟨v11, v12⟩, h4, hr⟩ := Option.bind_eq_some_iff.1 hr
    try dsimp only at hr
    refine ⟨[.v (.func (.yield l) #[] #[]), .junk, .fptr true [.v (.int .i64 v2), .list 1 (v3.map e_i)] 0, .junk, .v (.int .i64 v5), .junk, .v (.func (.yield l) #[] #[]), .v (.int .i64 v5), .junk, .junk, .junk, .junk], ?_, .inl ⟨v5, v11, v12, by first | rfl | (simp only [twant, z1, zp, zs]; done), rfl, rfl, h4, ?_⟩⟩
    · exact wr [] rfl .nil
    show TO _ _ _ _ ⟨.v (.func (.yield l) #[] #[]) :: .junk :: .fptr true [.v (.int .i64 v2), .list 1 (v3.map e_i)] 0 :: .junk :: .v (.int .i64 v5) :: .junk :: .v (.func (.yield l) #[] #[]) :: .v (.int .i64 v5) :: .v (.bool v11) :: .junk :: .junk :: .junk :: [], []⟩ _
    repeat (first | (with_reducible first | refine mv ?_ | refine m12 rfl ?_ | refine TO.nil ?_) | ((with_reducible apply TX.region); (focus (simp only [zl] <;> exact rfl)); (focus rfl); (try dsimp only)) | fail)
    refine ⟨[.v (.func (.yield l) #[] #[]), .junk, .fptr true [.v (.int .i64 v2), .list 1 (v3.map e_i)] 0, .junk, .v (.int .i64 v5), .junk, .v (.func (.yield l) #[] #[]), .v (.int .i64 v5), .v (.bool v11), .junk, .junk, .junk], ?_, ?_⟩
    · exact wr [] rfl .nil
    repeat (first | (with_reducible first | refine mv ?_ | refine m12 rfl ?_) | ((with_reducible apply TX.cond_true); (focus rfl); (focus (first | rfl | (simp only [z1, zn]; done)))) | ((with_reducible apply TX.cond_false); (focus rfl); (focus (first | rfl | (simp only [z1, zn]; done)))) | ((with_reducible apply TI.cond_true); (focus rfl); (focus (first | rfl | (simp only [z1, zn]; done)))) | ((with_reducible apply TI.cond_false); (focus rfl); (focus (first | rfl | (simp only [z1, zn]; done)))) | fail)
    rcases Bool.eq_false_or_eq_true (v11) with h5 | h5
    · rw [if_pos h5] at hr
      repeat (first | (with_reducible first | refine mv ?_ | refine m12 rfl ?_) | ((with_reducible apply TX.cond_true); (focus rfl); (focus (first | rfl | (simp only [z1, zn, h5]; done)))) | ((with_reducible apply TX.cond_false); (focus rfl); (focus (first | rfl | (simp only [z1, zn, h5]; done)))) | ((with_reducible apply TI.cond_true); (focus rfl); (focus (first | rfl | (simp only [z1, zn, h5]; done)))) | ((with_reducible apply TI.cond_false); (focus rfl); (focus (first | rfl | (simp only [z1, zn, h5]; done)))) | fail)
      refine TI.of ?_
      repeat (first | (with_reducible first | refine mv ?_ | refine m12 rfl ?_ | refine TO.nil ?_) | ((with_reducible first | apply TO.ld | apply TO.mv); (repeat (focus (show _ = _; first | exact k1 rfl | exact k2 rfl | (simp only [zz, y13, e_i, Nat.reduceAdd, Nat.reduceMul, Nat.reduceLeDiff, Nat.reduceEqDiff, tload, rowOf, partT, List.getElem?_map, h5] <;> exact rfl) | exact rfl))); (with_reducible refine TO.here ?_)) | ((with_reducible apply TX.region); (focus (simp only [zl] <;> exact rfl)); (focus rfl); (try dsimp only)) | fail)
      obtain ⟨v13, h6, hr⟩ := Option.bind_eq_some_iff.1 hr
      try dsimp only at hr
      apply TO.cal (by first | rfl | (simp only [twant, z1, zp, zs, h5]; done)) rfl goFn116 (pulse_generator_next_spec h6) rfl rfl rfl
      (repeat (focus (show _ = _; first | exact k1 rfl | exact k2 rfl | (simp only [zz, y13, e_i, Nat.reduceAdd, Nat.reduceMul, Nat.reduceLeDiff, Nat.reduceEqDiff, shift, kill, killB, frz, frzB, view, tml, tmlc, List.length_set, h5] <;> exact rfl) | exact rfl)))
      with_reducible apply TO.here
      repeat (first | (with_reducible first | refine mv ?_ | refine m12 rfl ?_ | refine TO.nil ?_) | ((with_reducible first | apply TO.asg); (repeat (focus (show _ = _; first | exact k1 rfl | exact k2 rfl | (simp only [zz, y13, e_i, Nat.reduceAdd, Nat.reduceMul, Nat.reduceLeDiff, Nat.reduceEqDiff, h5] <;> exact rfl) | exact rfl))); (with_reducible refine TO.here ?_)) | ((with_reducible apply TX.region); (focus (simp only [zl] <;> exact rfl)); (focus rfl); (try dsimp only)) | fail)
      refine ⟨[.v (.func (.yield l) #[] #[]), .junk, .fptr true [.v (.int .i64 v2), .list 1 (v3.map e_i)] 0, .junk, .v (.int .i64 v13), .junk, .v (.func (.yield l) #[] #[]), .v (.int .i64 v5), .v (.bool v11), .agg [.v (.int .i64 v2), .list 1 (v3.map e_i)], .v (.int .i64 v5), .v (.int .i64 v13)], ?_, ?_⟩
      · exact Wk.ren [] rfl .nil (by (repeat (first | exact RNs.nil | refine RNs.cons .junk ?_ | refine RNs.cons (.keep rfl rfl) ?_ | refine RNs.cons (.lsl rfl rfl) ?_ | refine RNs.cons (.lsl rfl (by simp only [List.length_set])) ?_ | refine RNs.cons (.lptr rfl) ?_ | refine RNs.cons (.nil rfl) ?_ | refine RNs.cons .nl ?_ | refine RNs.cons (.keep (by simp only [h5]) rfl) ?_ | refine RNs.cons (.tuple' ?_) ?_ | refine RNs.cons (.agg' ?_) ?_)))
      repeat (first | (with_reducible first | refine mv ?_ | refine m12 rfl ?_) | fail)
      cases hr
      refine ⟨rfl, ?_, rfl⟩
      exact Wk.ren [] rfl .nil (by (repeat (first | exact RNs.nil | refine RNs.cons .junk ?_ | refine RNs.cons (.keep rfl rfl) ?_ | refine RNs.cons (.lsl rfl rfl) ?_ | refine RNs.cons (.lsl rfl (by simp only [List.length_set])) ?_ | refine RNs.cons (.lptr rfl) ?_ | refine RNs.cons (.nil rfl) ?_ | refine RNs.cons .nl ?_ | refine RNs.cons (.keep (by simp only [h5]) rfl) ?_ | refine RNs.cons (.tuple' ?_) ?_ | refine RNs.cons (.agg' ?_) ?_)))
    · rw [if_neg (by rw [h5]; exact Bool.false_ne_true)] at hr
      repeat (first | (with_reducible first | refine mv ?_ | refine m12 rfl ?_) | ((with_reducible apply TX.cond_true); (focus rfl); (focus (first | rfl | (simp only [z1, zn, h5]; done)))) | ((with_reducible apply TX.cond_false); (focus rfl); (focus (first | rfl | (simp only [z1, zn, h5]; done)))) | ((with_reducible apply TI.cond_true); (focus rfl); (focus (first | rfl | (simp only [z1, zn, h5]; done)))) | ((with_reducible apply TI.cond_false); (focus rfl); (focus (first | rfl | (simp only [z1, zn, h5]; done)))) | fail)
      cases hr
      refine ⟨rfl, ?_, rfl⟩
      exact Wk.ren [] rfl .nil (by (repeat (first | exact RNs.nil | refine RNs.cons .junk ?_ | refine RNs.cons (.keep rfl rfl) ?_ | refine RNs.cons (.lsl rfl rfl) ?_ | refine RNs.cons (.lsl rfl (by simp only [List.length_set])) ?_ | refine RNs.cons (.lptr rfl) ?_ | refine RNs.cons (.nil rfl) ?_ | refine RNs.cons .nl ?_ | refine RNs.cons (.keep (by simp only [h5]) rfl) ?_ | refine RNs.cons (.tuple' ?_) ?_ | refine RNs.cons (.agg' ?_) ?_)))
  · intro e h; cases h
  · try dsimp only
    repeat (first | (with_reducible first | refine mv ?_ | refine m12 rfl ?_) | fail)
    cases hr
    exact ⟨.inl rfl, rfl⟩

end Go.Rex

namespace Go.Rex
open Go.Proofs
open Go Go.Rex Go.RowKit
set_option maxRecDepth 100000
def y14 := an @ag102 <| an @ag3 <| an @cs102 <| an @cs3 <| an @ok102 <| an @ok3 <| an @zc3 <| @wi64_1a1
theorem pulse_generator_period_spec {v1 : Int} {v2 : (List Int)} {v3 : Int} {v4 : Int} (hr : pulse_generator_period v1 v2 v3 = some (v4)) : Spec (lim Try.prog) 63 [.agg [.v (.int .i64 v1), .list 1 (v2.map e_i)], .v (.int .i64 v3)] ⟨[.v (.int .i64 v4)], []⟩ := by
  unfold pulse_generator_period at hr
  apply Spec.fnM Try.func63 rfl
  focus (simp [Try.f63] <;> exact rfl)
  focus
    repeat (first | (with_reducible first | refine mv ?_ | refine m12 rfl ?_ | refine TO.nil ?_) | ((with_reducible first | apply TO.bf | apply TO.asg | apply TO.al | apply TO.sv); (repeat (focus (show _ = _; first | exact k1 rfl | exact k2 rfl | (simp only [zz, y14, e_i, Nat.reduceAdd, Nat.reduceMul, Nat.reduceLeDiff, Nat.reduceEqDiff] <;> exact rfl) | exact rfl))); (with_reducible refine TO.here ?_)) | ((with_reducible apply TX.region); (focus (simp only [zl] <;> exact rfl)); (focus rfl); (try dsimp only)) | with_reducible refine TD.nil ?_ | ((with_reducible first | apply TD.ld | apply TD.ldw); (repeat (focus (show _ = _; first | exact k1 rfl | exact k2 rfl | (simp only [zz, y14, e_i, Nat.reduceAdd, Nat.reduceMul, Nat.reduceLeDiff, Nat.reduceEqDiff, tload, rowOf, partT, List.getElem?_map] <;> exact rfl) | exact rfl))); (with_reducible refine TD.here ?_)) | ((with_reducible apply TX.drawn); (focus decide +kernel); (focus (simp only [zl] <;> exact rfl)); (focus exact rfl); (try dsimp only)) | fail)
    obtain ⟨v5, h1, hr⟩ := Option.bind_eq_some_iff.1 hr
    try dsimp only at hr
    first | apply TD.cal (by first | rfl | (simp only [twant, z1, zp, zs]; done)) rfl goFn116 (pulse_generator_next_spec h1) rfl rfl rfl | apply TD.calw (by first | rfl | (simp only [twant, z1, zp, zs]; done)) rfl goFn116 (pulse_generator_next_spec h1) rfl rfl rfl rfl
    (repeat (focus (show _ = _; first | exact k1 rfl | exact k2 rfl | (simp only [zz, y14, e_i, Nat.reduceAdd, Nat.reduceMul, Nat.reduceLeDiff, Nat.reduceEqDiff, shift, kill, killB, frz, frzB, view, tml, tmlc, List.length_set] <;> exact rfl) | exact rfl)))
    with_reducible apply TD.here
    repeat (first | (with_reducible first | refine mv ?_ | refine m12 rfl ?_ | refine TD.nil ?_) | ((with_reducible apply TX.drawn); (focus decide +kernel); (focus (simp only [zl] <;> exact rfl)); (focus exact rfl); (try dsimp only)) | fail)
    obtain ⟨⟨v6, v7, v8⟩, h2, hr⟩ := Option.bind_eq_some_iff.1 hr
    try dsimp only at hr
    first | apply TD.cal (by first | rfl | (simp only [twant, z1, zp, zs]; done)) rfl goFn115 (pulse_generator_states_spec h2) rfl rfl rfl | apply TD.calw (by first | rfl | (simp only [twant, z1, zp, zs]; done)) rfl goFn115 (pulse_generator_states_spec h2) rfl rfl rfl rfl
    (repeat (focus (show _ = _; first | exact k1 rfl | exact k2 rfl | (simp only [zz, y14, e_i, Nat.reduceAdd, Nat.reduceMul, Nat.reduceLeDiff, Nat.reduceEqDiff, shift, kill, killB, frz, frzB, view, tml, tmlc, List.length_set] <;> exact rfl) | exact rfl)))
    with_reducible apply TD.here
    repeat (first | (with_reducible first | refine mv ?_ | refine m12 rfl ?_ | refine TD.nil ?_) | ((with_reducible apply TX.drawn); (focus decide +kernel); (focus (simp only [zl] <;> exact rfl)); (focus exact rfl); (try dsimp only)) | fail)
    obtain ⟨v13, h5, hr⟩ := Option.bind_eq_some_iff.1 hr
    refine TM.weak (s' := ⟨.junk :: .junk :: .junk :: .fptr true [.v (.int .i64 v3)] 0 :: .junk :: .lptr 0 0 0 :: .junk :: .junk :: .junk :: .junk :: .junk :: .func 141 [] [.fptr true [.v (.int .i64 v6)] 0, .fptr true [.v (.int .i64 v7), .list 1 (v8.map e_i)] 0] :: .junk :: .junk :: .junk :: .junk :: .junk :: .junk :: .junk :: [], [.var [.v (.int .i64 1)]]⟩) ?_ ?_
    · exact wr [some 0] rfl (rv .nil rfl)
    refine TM.range (it := fun {X} => pulse_generator_states_c1_3283_it v6 v7 v8) (enc := fun a0 => [.v (.int .i64 a0)]) h5 (fun v9 => [.var [.v (.int .i64 v9)]]) (fun v11 => [.var [.v (.int .i64 v11)]]) (fun _ => .exit 0) rfl rfl goFn141 pulse_generator_states_c1_3283_ispec rfl rfl rfl (fun _ => rfl) (fun _ => .inr ⟨_, rfl⟩) ?_ ?_
    · rintro v12 v9 r hr
      dsimp only [pulse_generator_period_l1] at hr
      show TX _ _ _ ⟨.junk :: .junk :: .junk :: .fptr true [.v (.int .i64 v3)] 0 :: .junk :: .lptr 0 0 0 :: .junk :: .junk :: .junk :: .junk :: .junk :: .func 141 [] [.fptr true [.v (.int .i64 v6)] 0, .fptr true [.v (.int .i64 v7), .list 1 (v8.map e_i)] 0] :: .v (.int .i64 v12) :: .junk :: .junk :: .junk :: .junk :: .junk :: .junk :: [], [.var [.v (.int .i64 v9)]]⟩ _
      repeat (first | (with_reducible first | refine mv ?_ | refine m12 rfl ?_ | refine TO.nil ?_) | ((with_reducible first | apply TO.asg); (repeat (focus (show _ = _; first | exact k1 rfl | exact k2 rfl | (simp only [zz, y14, e_i, Nat.reduceAdd, Nat.reduceMul, Nat.reduceLeDiff, Nat.reduceEqDiff] <;> exact rfl) | exact rfl))); (with_reducible refine TO.here ?_)) | ((with_reducible apply TX.region); (focus (simp only [zl] <;> exact rfl)); (focus rfl); (try dsimp only)) | fail)
      refine ⟨rfl, ?_⟩
      repeat (first | (with_reducible first | refine mv ?_ | refine m12 rfl ?_ | refine TO.nil ?_) | ((with_reducible first | apply TO.mv | apply TO.ld | apply TO.bin); (repeat (focus (show _ = _; first | exact k1 rfl | exact k2 rfl | (simp only [zz, y14, e_i, Nat.reduceAdd, Nat.reduceMul, Nat.reduceLeDiff, Nat.reduceEqDiff, tload, rowOf, partT, List.getElem?_map] <;> exact rfl) | exact rfl))); (with_reducible refine TO.here ?_)) | ((with_reducible apply TX.region); (focus (simp only [zl] <;> exact rfl)); (focus rfl); (try dsimp only)) | ((with_reducible apply TX.cond_true); (focus rfl); (focus (first | rfl | (simp only [z1, zn]; done)))) | ((with_reducible apply TX.cond_false); (focus rfl); (focus (first | rfl | (simp only [z1, zn]; done)))) | ((with_reducible apply TM.cond_true); (focus rfl); (focus (first | rfl | (simp only [z1, zn]; done)))) | ((with_reducible apply TM.cond_false); (focus rfl); (focus (first | rfl | (simp only [z1, zn]; done)))) | fail)
      rcases Bool.eq_false_or_eq_true ((decide (v12 = v3))) with h4 | h4
      · rw [if_pos h4] at hr
        repeat (first | (with_reducible first | refine mv ?_ | refine m12 rfl ?_) | ((with_reducible apply TX.cond_true); (focus rfl); (focus (first | rfl | (simp only [z1, zn, h4]; done)))) | ((with_reducible apply TX.cond_false); (focus rfl); (focus (first | rfl | (simp only [z1, zn, h4]; done)))) | ((with_reducible apply TM.cond_true); (focus rfl); (focus (first | rfl | (simp only [z1, zn, h4]; done)))) | ((with_reducible apply TM.cond_false); (focus rfl); (focus (first | rfl | (simp only [z1, zn, h4]; done)))) | fail)
        cases hr
        refine ⟨rfl, ?_⟩
        exact Wk.ren [some 0] rfl (rv .nil rfl) (by (repeat (first | exact RNs.nil | refine RNs.cons .junk ?_ | refine RNs.cons (.keep rfl rfl) ?_ | refine RNs.cons (.lsl rfl rfl) ?_ | refine RNs.cons (.lsl rfl (by simp only [List.length_set])) ?_ | refine RNs.cons (.lptr rfl) ?_ | refine RNs.cons (.nil rfl) ?_ | refine RNs.cons .nl ?_ | refine RNs.cons (.keep (by simp only [h4]) rfl) ?_ | refine RNs.cons (.tuple' ?_) ?_ | refine RNs.cons (.agg' ?_) ?_)))
      · rw [if_neg (by rw [h4]; exact Bool.false_ne_true)] at hr
        repeat (first | (with_reducible first | refine mv ?_ | refine m12 rfl ?_ | refine TO.nil ?_) | ((with_reducible first | apply TO.ld | apply TO.bin | apply TO.sv); (repeat (focus (show _ = _; first | exact k1 rfl | exact k2 rfl | (simp only [zz, y14, e_i, Nat.reduceAdd, Nat.reduceMul, Nat.reduceLeDiff, Nat.reduceEqDiff, tload, rowOf, partT, List.getElem?_map, h4] <;> exact rfl) | exact rfl))); (with_reducible refine TO.here ?_)) | ((with_reducible apply TX.region); (focus (simp only [zl] <;> exact rfl)); (focus rfl); (try dsimp only)) | ((with_reducible apply TX.cond_true); (focus rfl); (focus (first | rfl | (simp only [z1, zn, h4]; done)))) | ((with_reducible apply TX.cond_false); (focus rfl); (focus (first | rfl | (simp only [z1, zn, h4]; done)))) | ((with_reducible apply TM.cond_true); (focus rfl); (focus (first | rfl | (simp only [z1, zn, h4]; done)))) | ((with_reducible apply TM.cond_false); (focus rfl); (focus (first | rfl | (simp only [z1, zn, h4]; done)))) | fail)
        cases hr
        refine ⟨rfl, ?_⟩
        exact Wk.ren [some 0] rfl (rv .nil rfl) (by (repeat (first | exact RNs.nil | refine RNs.cons .junk ?_ | refine RNs.cons (.keep rfl rfl) ?_ | refine RNs.cons (.lsl rfl rfl) ?_ | refine RNs.cons (.lsl rfl (by simp only [List.length_set])) ?_ | refine RNs.cons (.lptr rfl) ?_ | refine RNs.cons (.nil rfl) ?_ | refine RNs.cons .nl ?_ | refine RNs.cons (.keep (by simp only [h4]) rfl) ?_ | refine RNs.cons (.tuple' ?_) ?_ | refine RNs.cons (.agg' ?_) ?_)))
    · rcases v13 with v14 | v15
      · try dsimp only at hr
        try dsimp only
        repeat (first | (with_reducible first | refine mv ?_ | refine m12 rfl ?_ | refine TO.nil ?_) | ((with_reducible first | apply TO.ld | apply TO.asg); (repeat (focus (show _ = _; first | exact k1 rfl | exact k2 rfl | (simp only [zz, y14, e_i, Nat.reduceAdd, Nat.reduceMul, Nat.reduceLeDiff, Nat.reduceEqDiff, tload, rowOf, partT, List.getElem?_map] <;> exact rfl) | exact rfl))); (with_reducible refine TO.here ?_)) | ((with_reducible apply TX.region); (focus (simp only [zl] <;> exact rfl)); (focus rfl); (try dsimp only)) | fail)
        cases hr
        refine ⟨.inr rfl, _, (by simp only [zy, y14, e_i, tresAll, tres, tload, rowOf, partT]; exact rfl), ?_⟩
        exact wr [] rfl .nil
      · try dsimp only at hr
        try dsimp only
        repeat (first | (with_reducible first | refine mv ?_ | refine m12 rfl ?_ | refine TO.nil ?_) | ((with_reducible first | apply TO.ld | apply TO.asg); (repeat (focus (show _ = _; first | exact k1 rfl | exact k2 rfl | (simp only [zz, y14, e_i, Nat.reduceAdd, Nat.reduceMul, Nat.reduceLeDiff, Nat.reduceEqDiff, tload, rowOf, partT, List.getElem?_map] <;> exact rfl) | exact rfl))); (with_reducible refine TO.here ?_)) | ((with_reducible apply TX.region); (focus (simp only [zl] <;> exact rfl)); (focus rfl); (try dsimp only)) | fail)
        cases hr
        refine ⟨.inr rfl, _, (by simp only [zy, y14, e_i, tresAll, tres, tload, rowOf, partT]; exact rfl), ?_⟩
        exact wr [] rfl .nil
  rfl

end Go.Rex

namespace Go.Rex
open Go.Proofs
open Go Go.Rex Go.RowKit
set_option maxRecDepth 100000
def y15 := an @ag3 <| an @fd102_0 <| @fd24_0
theorem pulse_generator_fullPeriod_spec {v1 : Int} {v2 : (List Int)} {v3 : Int} (hr : pulse_generator_fullPeriod v1 v2 = some (v3)) : Spec (lim Try.prog) 75 [.agg [.v (.int .i64 v1), .list 1 (v2.map e_i)]] ⟨[.v (.int .i64 v3)], []⟩ := by
  unfold pulse_generator_fullPeriod at hr
  apply Spec.fn Try.func75 rfl
  focus (simp [Try.f75] <;> exact rfl)
  focus
    repeat (first | (with_reducible first | refine mv ?_ | refine m12 rfl ?_ | refine TO.nil ?_) | ((with_reducible first | apply TO.bf | apply TO.asg | apply TO.fa | apply TO.ld); (repeat (focus (show _ = _; first | exact k1 rfl | exact k2 rfl | (simp only [zz, y15, e_i, Nat.reduceAdd, Nat.reduceMul, Nat.reduceLeDiff, Nat.reduceEqDiff, tfieldAddr, tload, rowOf, partT, List.getElem?_map] <;> exact rfl) | exact rfl))); (with_reducible refine TO.here ?_)) | ((with_reducible apply TX.region); (focus (simp only [zl] <;> exact rfl)); (focus rfl); (try dsimp only)) | fail)
    obtain ⟨v4, h1, hr⟩ := Option.bind_eq_some_iff.1 hr
    try dsimp only at hr
    apply TO.pop1 (by first | rfl | (simp only [twant, z1, zp, zs]; done)) (pop_shift rfl rfl (by decide) (h1))
    (repeat (focus (show _ = _; first | exact k1 rfl | exact k2 rfl | (simp only [zz, y15, e_i, Nat.reduceAdd, Nat.reduceMul, Nat.reduceLeDiff, Nat.reduceEqDiff] <;> exact rfl) | exact rfl)))
    with_reducible apply TO.here
    repeat (first | (with_reducible first | refine mv ?_ | refine m12 rfl ?_ | refine TO.nil ?_) | ((with_reducible first | apply TO.bin | apply TO.asg); (repeat (focus (show _ = _; first | exact k1 rfl | exact k2 rfl | (simp only [zz, y15, e_i, Nat.reduceAdd, Nat.reduceMul, Nat.reduceLeDiff, Nat.reduceEqDiff] <;> exact rfl) | exact rfl))); (with_reducible refine TO.here ?_)) | ((with_reducible apply TX.region); (focus (simp only [zl] <;> exact rfl)); (focus rfl); (try dsimp only)) | fail)
    cases hr
    refine ⟨.inr rfl, _, (by simp only [zy, y15, e_i, tresAll, tres, tload, rowOf, partT]; exact rfl), ?_⟩
    exact wr [] rfl .nil
  rfl

end Go.Rex

namespace Go.Rex
open Go.Proofs
open Go Go.Rex Go.RowKit
set_option maxRecDepth 100000
def y16 := an @ag102 <| an @cs102 <| @ok102
theorem pulse_generator_isMaximal_spec {v1 : Int} {v2 : (List Int)} {v3 : Bool} (hr : pulse_generator_isMaximal v1 v2 = some (v3)) : Spec (lim Try.prog) 70 [.agg [.v (.int .i64 v1), .list 1 (v2.map e_i)]] ⟨[.v (.bool v3)], []⟩ := by
  unfold pulse_generator_isMaximal at hr
  apply Spec.fn Try.func70 rfl
  focus (simp [Try.f70] <;> exact rfl)
  focus
    repeat (first | (with_reducible first | refine mv ?_ | refine m12 rfl ?_ | refine TO.nil ?_) | ((with_reducible first | apply TO.bf | apply TO.asg); (repeat (focus (show _ = _; first | exact k1 rfl | exact k2 rfl | (simp only [zz, y16, e_i, Nat.reduceAdd, Nat.reduceMul, Nat.reduceLeDiff, Nat.reduceEqDiff] <;> exact rfl) | exact rfl))); (with_reducible refine TO.here ?_)) | ((with_reducible apply TX.region); (focus (simp only [zl] <;> exact rfl)); (focus rfl); (try dsimp only)) | with_reducible refine TD.nil ?_ | ((with_reducible first | apply TD.ld | apply TD.ldw); (repeat (focus (show _ = _; first | exact k1 rfl | exact k2 rfl | (simp only [zz, y16, e_i, Nat.reduceAdd, Nat.reduceMul, Nat.reduceLeDiff, Nat.reduceEqDiff, tload, rowOf, partT, List.getElem?_map] <;> exact rfl) | exact rfl))); (with_reducible refine TD.here ?_)) | ((with_reducible apply TX.drawn); (focus decide +kernel); (focus (simp only [zl] <;> exact rfl)); (focus exact rfl); (try dsimp only)) | fail)
    obtain ⟨v4, h1, hr⟩ := Option.bind_eq_some_iff.1 hr
    try dsimp only at hr
    first | apply TD.cal (by first | rfl | (simp only [twant, z1, zp, zs]; done)) rfl goFn63 (pulse_generator_period_spec h1) rfl rfl rfl | apply TD.calw (by first | rfl | (simp only [twant, z1, zp, zs]; done)) rfl goFn63 (pulse_generator_period_spec h1) rfl rfl rfl rfl
    (repeat (focus (show _ = _; first | exact k1 rfl | exact k2 rfl | (simp only [zz, y16, e_i, Nat.reduceAdd, Nat.reduceMul, Nat.reduceLeDiff, Nat.reduceEqDiff, shift, kill, killB, frz, frzB, view, tml, tmlc, List.length_set] <;> exact rfl) | exact rfl)))
    with_reducible apply TD.here
    repeat (first | (with_reducible first | refine mv ?_ | refine m12 rfl ?_ | refine TD.nil ?_) | ((with_reducible first | apply TD.ld | apply TD.ldw); (repeat (focus (show _ = _; first | exact k1 rfl | exact k2 rfl | (simp only [zz, y16, e_i, Nat.reduceAdd, Nat.reduceMul, Nat.reduceLeDiff, Nat.reduceEqDiff, tload, rowOf, partT, List.getElem?_map] <;> exact rfl) | exact rfl))); (with_reducible refine TD.here ?_)) | ((with_reducible apply TX.drawn); (focus decide +kernel); (focus (simp only [zl] <;> exact rfl)); (focus exact rfl); (try dsimp only)) | fail)
    obtain ⟨v5, h2, hr⟩ := Option.bind_eq_some_iff.1 hr
    try dsimp only at hr
    first | apply TD.cal (by first | rfl | (simp only [twant, z1, zp, zs]; done)) rfl goFn75 (pulse_generator_fullPeriod_spec h2) rfl rfl rfl | apply TD.calw (by first | rfl | (simp only [twant, z1, zp, zs]; done)) rfl goFn75 (pulse_generator_fullPeriod_spec h2) rfl rfl rfl rfl
    (repeat (focus (show _ = _; first | exact k1 rfl | exact k2 rfl | (simp only [zz, y16, e_i, Nat.reduceAdd, Nat.reduceMul, Nat.reduceLeDiff, Nat.reduceEqDiff, shift, kill, killB, frz, frzB, view, tml, tmlc, List.length_set] <;> exact rfl) | exact rfl)))
    with_reducible apply TD.here
    repeat (first | (with_reducible first | refine mv ?_ | refine m12 rfl ?_ | refine TD.nil ?_) | ((with_reducible first | apply TD.bin | apply TD.asg); (repeat (focus (show _ = _; first | exact k1 rfl | exact k2 rfl | (simp only [zz, y16, e_i, Nat.reduceAdd, Nat.reduceMul, Nat.reduceLeDiff, Nat.reduceEqDiff] <;> exact rfl) | exact rfl))); (with_reducible refine TD.here ?_)) | ((with_reducible apply TX.drawn); (focus decide +kernel); (focus (simp only [zl] <;> exact rfl)); (focus exact rfl); (try dsimp only)) | fail)
    cases hr
    refine ⟨.inr rfl, _, (by simp only [zy, y16, e_i, tresAll, tres, tload, rowOf, partT]; exact rfl), ?_⟩
    exact wr [] rfl .nil
  rfl

end Go.Rex

namespace Go.Rex
open Go.Proofs
open Go Go.Rex Go.RowKit
set_option maxRecDepth 100000
def y17 := an @ag102 <| an @ag24 <| an @cs102 <| an @cs24 <| an @ok102 <| an @ok24 <| an @st102 <| @zc102
theorem pulse_IsMaximal_spec {v1 : Int} {v2 : (List Int)} {v3 : Bool} {v4 : Int} (hr : pulse_IsMaximal v1 v2 = some (v3, v4)) : Spec (lim Try.prog) 26 [.agg [.v (.int .i64 v1), .list 1 (v2.map e_i)]] ⟨[.tuple [.v (.bool v3), .v (.int .i64 v4)]], []⟩ := by
  unfold pulse_IsMaximal at hr
  apply Spec.fn Try.func26 rfl
  focus (simp [Try.f26] <;> exact rfl)
  focus
    repeat (first | (with_reducible first | refine mv ?_ | refine m12 rfl ?_ | refine TO.nil ?_) | ((with_reducible first | apply TO.bf | apply TO.asg | apply TO.ld | apply TO.bld | apply TO.al | apply TO.sv); (repeat (focus (show _ = _; first | exact k1 rfl | exact k2 rfl | (simp only [zz, y17, e_i, Nat.reduceAdd, Nat.reduceMul, Nat.reduceLeDiff, Nat.reduceEqDiff, tload, rowOf, partT, List.getElem?_map, tbuild, tfill] <;> exact rfl) | exact rfl))); (with_reducible refine TO.here ?_)) | ((with_reducible apply TX.region); (focus (simp only [zl] <;> exact rfl)); (focus rfl); (try dsimp only)) | fail)
    obtain ⟨v5, h1, hr⟩ := Option.bind_eq_some_iff.1 hr
    try dsimp only at hr
    apply TO.cal (by first | rfl | (simp only [twant, z1, zp, zs]; done)) rfl goFn59 (pulse_generator_check_spec h1) rfl rfl rfl
    (repeat (focus (show _ = _; first | exact k1 rfl | exact k2 rfl | (simp only [zz, y17, e_i, Nat.reduceAdd, Nat.reduceMul, Nat.reduceLeDiff, Nat.reduceEqDiff, shift, kill, killB, frz, frzB, view, tml, tmlc, List.length_set] <;> exact rfl) | exact rfl)))
    with_reducible apply TO.here
    repeat (first | (with_reducible first | refine mv ?_ | refine m12 rfl ?_ | refine TO.nil ?_) | ((with_reducible first | apply TO.asg | apply TO.mv | apply TO.bin); (repeat (focus (show _ = _; first | exact k1 rfl | exact k2 rfl | (simp only [zz, y17, e_i, Nat.reduceAdd, Nat.reduceMul, Nat.reduceLeDiff, Nat.reduceEqDiff] <;> exact rfl) | exact rfl))); (with_reducible refine TO.here ?_)) | ((with_reducible apply TX.region); (focus (simp only [zl] <;> exact rfl)); (focus rfl); (try dsimp only)) | ((with_reducible apply TX.cond_true); (focus rfl); (focus (first | rfl | (simp only [z1, zn]; done)))) | ((with_reducible apply TX.cond_false); (focus rfl); (focus (first | rfl | (simp only [z1, zn]; done)))) | fail)
    rcases Bool.eq_false_or_eq_true ((decide (v5 ≠ 0))) with h2 | h2
    · rw [if_pos h2] at hr
      repeat (first | (with_reducible first | refine mv ?_ | refine m12 rfl ?_ | refine TO.nil ?_) | ((with_reducible first | apply TO.mv | apply TO.asg); (repeat (focus (show _ = _; first | exact k1 rfl | exact k2 rfl | (simp only [zz, y17, e_i, Nat.reduceAdd, Nat.reduceMul, Nat.reduceLeDiff, Nat.reduceEqDiff, h2] <;> exact rfl) | exact rfl))); (with_reducible refine TO.here ?_)) | ((with_reducible apply TX.region); (focus (simp only [zl] <;> exact rfl)); (focus rfl); (try dsimp only)) | ((with_reducible apply TX.cond_true); (focus rfl); (focus (first | rfl | (simp only [z1, zn, h2]; done)))) | ((with_reducible apply TX.cond_false); (focus rfl); (focus (first | rfl | (simp only [z1, zn, h2]; done)))) | fail)
      cases hr
      refine ⟨.inr rfl, _, (by simp only [zy, y17, e_i, tresAll, tres, tload, rowOf, partT, h2]; exact rfl), ?_⟩
      exact Wk.ren [] rfl .nil (by (repeat (first | exact RNs.nil | refine RNs.cons .junk ?_ | refine RNs.cons (.keep rfl rfl) ?_ | refine RNs.cons (.lsl rfl rfl) ?_ | refine RNs.cons (.lsl rfl (by simp only [List.length_set])) ?_ | refine RNs.cons (.lptr rfl) ?_ | refine RNs.cons (.nil rfl) ?_ | refine RNs.cons .nl ?_ | refine RNs.cons (.keep (by simp only [h2]) rfl) ?_ | refine RNs.cons (.tuple' ?_) ?_ | refine RNs.cons (.agg' ?_) ?_)))
    · rw [if_neg (by rw [h2]; exact Bool.false_ne_true)] at hr
      repeat (first | (with_reducible first | refine mv ?_ | refine m12 rfl ?_ | refine TO.nil ?_) | ((with_reducible first | apply TO.ld); (repeat (focus (show _ = _; first | exact k1 rfl | exact k2 rfl | (simp only [zz, y17, e_i, Nat.reduceAdd, Nat.reduceMul, Nat.reduceLeDiff, Nat.reduceEqDiff, tload, rowOf, partT, List.getElem?_map, h2] <;> exact rfl) | exact rfl))); (with_reducible refine TO.here ?_)) | ((with_reducible apply TX.region); (focus (simp only [zl] <;> exact rfl)); (focus rfl); (try dsimp only)) | ((with_reducible apply TX.cond_true); (focus rfl); (focus (first | rfl | (simp only [z1, zn, h2]; done)))) | ((with_reducible apply TX.cond_false); (focus rfl); (focus (first | rfl | (simp only [z1, zn, h2]; done)))) | fail)
      obtain ⟨v6, h3, hr⟩ := Option.bind_eq_some_iff.1 hr
      try dsimp only at hr
      apply TO.cal (by first | rfl | (simp only [twant, z1, zp, zs, h2]; done)) rfl goFn70 (pulse_generator_isMaximal_spec h3) rfl rfl rfl
      (repeat (focus (show _ = _; first | exact k1 rfl | exact k2 rfl | (simp only [zz, y17, e_i, Nat.reduceAdd, Nat.reduceMul, Nat.reduceLeDiff, Nat.reduceEqDiff, shift, kill, killB, frz, frzB, view, tml, tmlc, List.length_set, h2] <;> exact rfl) | exact rfl)))
      with_reducible apply TO.here
      repeat (first | (with_reducible first | refine mv ?_ | refine m12 rfl ?_ | refine TO.nil ?_) | ((with_reducible first | apply TO.asg); (repeat (focus (show _ = _; first | exact k1 rfl | exact k2 rfl | (simp only [zz, y17, e_i, Nat.reduceAdd, Nat.reduceMul, Nat.reduceLeDiff, Nat.reduceEqDiff, h2] <;> exact rfl) | exact rfl))); (with_reducible refine TO.here ?_)) | ((with_reducible apply TX.region); (focus (simp only [zl] <;> exact rfl)); (focus rfl); (try dsimp only)) | fail)
      cases hr
      refine ⟨.inr rfl, _, (by simp only [zy, y17, e_i, tresAll, tres, tload, rowOf, partT, h2]; exact rfl), ?_⟩
      exact Wk.ren [] rfl .nil (by (repeat (first | exact RNs.nil | refine RNs.cons .junk ?_ | refine RNs.cons (.keep rfl rfl) ?_ | refine RNs.cons (.lsl rfl rfl) ?_ | refine RNs.cons (.lsl rfl (by simp only [List.length_set])) ?_ | refine RNs.cons (.lptr rfl) ?_ | refine RNs.cons (.nil rfl) ?_ | refine RNs.cons .nl ?_ | refine RNs.cons (.keep (by simp only [h2]) rfl) ?_ | refine RNs.cons (.tuple' ?_) ?_ | refine RNs.cons (.agg' ?_) ?_)))
  rfl

end Go.Rex
