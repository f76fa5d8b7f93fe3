/- Proofs that the program's functions do what these plain functions say. -/
import Derived.Test.YtpcjgdfcefidlaaGB
import Derived.Test.YtpcjgdfcefidlaaS
set_option linter.unusedSimpArgs false
set_option linter.unusedVariables false
set_option linter.defProp false
namespace Go.Rex
open Go.Proofs
open Go Go.Rex Go.RowKit
set_option maxRecDepth 100000
def y1 := an @ag89 <| an @ag91 <| an @by98 <| an @cs89 <| an @cs91 <| an @cs98 <| an @fd91_2 <| an @ni89 <| an @ok89 <| an @ok91 <| an @so89 <| an @zc91 <| @zc98
theorem ref07_Copy_spec {v1 : Int} {v2 : Int} {v3 : (List (Int × Int × Int × Int × Int))} {v4 : Int} {v5 : Int} {v6 : (List (Int × Int × Int × Int × Int))} (hr : ref07_Copy v1 v2 v3 = some (v4, v5, v6)) : Spec (lim Try.prog) 48 [.agg [.v (.int .i64 v1), .v (.int .i64 v2), .list 5 (v3.map e_iiiii)]] ⟨[.agg [.v (.int .i64 v4), .v (.int .i64 v5), .lsl 0 0 v6.length]], [.rows 5 (v6.map e_iiiii)]⟩ := by
  unfold ref07_Copy at hr
  apply Spec.fn Try.func48 rfl
  focus (simp [Try.f48] <;> exact rfl)
  focus
    repeat (first | (with_reducible first | refine mv ?_ | refine m12 rfl ?_ | refine TO.nil ?_) | ((with_reducible first | apply TO.bx (dst := some 1) | apply TO.al); (repeat (focus (show _ = _; first | exact k1 rfl | exact k2 rfl | (simp only [zz, y1, e_iiiii, Nat.reduceAdd, Nat.reduceMul, Nat.reduceLeDiff, Nat.reduceEqDiff] <;> exact rfl) | exact rfl))); (with_reducible refine TO.here ?_)) | ((with_reducible apply TX.region); (focus (simp only [zl] <;> exact rfl)); (focus rfl); (try dsimp only)) | fail)
    apply TO.bl e_iiiii ([] : List (Int × Int × Int × Int × Int)) (by first | rfl | (simp only [twant, z1, zp, zs]; done)) rfl (by simp only [zz, y1, e_iiiii, Nat.reduceAdd, Nat.reduceMul, Nat.reduceLeDiff, Nat.reduceEqDiff, tslice, tparts]; exact rfl) rfl rfl
    (repeat (focus (show _ = _; first | exact k1 rfl | exact k2 rfl | (simp only [zz, y1, e_iiiii, Nat.reduceAdd, Nat.reduceMul, Nat.reduceLeDiff, Nat.reduceEqDiff, tslice, tparts] <;> exact rfl) | exact rfl)))
    with_reducible apply TO.here
    repeat (first | (with_reducible first | refine mv ?_ | refine m12 rfl ?_ | refine TO.nil ?_) | ((with_reducible first | apply TO.fa | apply TO.ld); (repeat (focus (show _ = _; first | exact k1 rfl | exact k2 rfl | (simp only [zz, y1, e_iiiii, Nat.reduceAdd, Nat.reduceMul, Nat.reduceLeDiff, Nat.reduceEqDiff, tfieldAddr, tload, rowOf, partT, List.getElem?_map] <;> exact rfl) | exact rfl))); (with_reducible refine TO.here ?_)) | ((with_reducible apply TX.region); (focus (simp only [zl] <;> exact rfl)); (focus rfl); (try dsimp only)) | fail)
    obtain ⟨v7, h1, hr⟩ := Option.bind_eq_some_iff.1 hr
    try dsimp only at hr
    apply TO.ap (f := e_iiiii) (xs := ([] : List (Int × Int × Int × Int × Int))) (ys := v3) (by first | rfl | (simp only [twant, z1, zp, zs]; done)) rfl rfl (by first | rfl | simp only [List.length_set]) rfl rfl so89 ni89 zc98 rfl (by rw [by98]; exact h1) (fun _ => ⟨rfl, rfl, rfl⟩)
    (repeat (focus (show _ = _; first | exact k1 rfl | exact k2 rfl | (simp only [zz, y1, e_iiiii, Nat.reduceAdd, Nat.reduceMul, Nat.reduceLeDiff, Nat.reduceEqDiff, shift, kill, killB, frz, frzB, view, tml, tmlc, List.length_set] <;> exact rfl) | exact rfl)))
    with_reducible apply TO.here
    repeat (first | (with_reducible first | refine mv ?_ | refine m12 rfl ?_ | refine TO.nil ?_) | ((with_reducible first | apply TO.fa | apply TO.sv | apply TO.ld); (repeat (focus (show _ = _; first | exact k1 rfl | exact k2 rfl | (simp only [zz, y1, e_iiiii, Nat.reduceAdd, Nat.reduceMul, Nat.reduceLeDiff, Nat.reduceEqDiff, tfieldAddr, tload, rowOf, partT, List.getElem?_map] <;> exact rfl) | exact rfl))); (with_reducible refine TO.here ?_)) | ((with_reducible apply TX.region); (focus (simp only [zl] <;> exact rfl)); (focus rfl); (try dsimp only)) | fail)
    cases hr
    refine ⟨.inr rfl, _, (by simp only [zy, y1, e_iiiii, tresAll, tres, tload, rowOf, partT]; exact rfl), ?_⟩
    exact wr [some 2] rfl (.rows .nil rfl rfl)
  rfl

end Go.Rex

namespace Go.Rex
open Go.Proofs
open Go Go.Rex Go.RowKit
set_option maxRecDepth 100000
def y2 := an @ag270 <| an @ag3 <| an @cs270 <| an @fd171_0 <| an @fd91_0 <| an @fd91_1 <| an @ok270 <| an @st270 <| @zc270
theorem array_rig_sound_spec {v1 : Int} {v2 : Int} {v3 : (List (Int × Int × Int × Int × Int))} {v4 : Int} {v5 : Int} (hr : array_rig_sound v1 v2 v3 = some (v4, v5)) : Spec (lim Try.prog) 195 [.agg [.v (.int .i64 v1), .v (.int .i64 v2), .list 5 (v3.map e_iiiii)]] ⟨[.agg [.v (.int .i64 v4), .v (.int .i64 v5)]], []⟩ := by
  unfold array_rig_sound at hr
  apply Spec.fn Try.func195 rfl
  focus (simp [Try.f195] <;> exact rfl)
  focus
    repeat (first | (with_reducible first | refine mv ?_ | refine m12 rfl ?_ | refine TO.nil ?_) | ((with_reducible first | apply TO.bf | apply TO.al | apply TO.fa | apply TO.ld | apply TO.bld | apply TO.sv); (repeat (focus (show _ = _; first | exact k1 rfl | exact k2 rfl | (simp only [zz, y2, e_iiiii, Nat.reduceAdd, Nat.reduceMul, Nat.reduceLeDiff, Nat.reduceEqDiff, tfieldAddr, tload, rowOf, partT, List.getElem?_map, tbuild, tfill] <;> exact rfl) | exact rfl))); (with_reducible refine TO.here ?_)) | ((with_reducible apply TX.region); (focus (simp only [zl] <;> exact rfl)); (focus rfl); (try dsimp only)) | fail)
    cases hr
    refine ⟨.inr rfl, _, (by simp only [zy, y2, e_iiiii, tresAll, tres, tload, rowOf, partT]; exact rfl), ?_⟩
    exact wr [] rfl .nil
  rfl

end Go.Rex

namespace Go.Rex
open Go.Proofs
open Go Go.Rex Go.RowKit
set_option maxRecDepth 100000
theorem array_audible_spec {v1 : Int} {v2 : Int} {v3 : Int} {v4 : Int} (hr : array_audible v1 v2 = some (v3, v4)) : Spec (lim Try.prog) 218 [.agg [.v (.int .i64 v1), .v (.int .i64 v2)]] ⟨[.func 239 [] [.fptr true [.v (.int .i64 v3), .v (.int .i64 v4)] 0]], []⟩ := by
  unfold array_audible at hr
  apply Spec.fn Try.func218 rfl
  focus (simp [Try.f218] <;> exact rfl)
  focus
    repeat (first | (with_reducible first | refine mv ?_ | refine m12 rfl ?_ | refine TO.nil ?_) | ((with_reducible first | apply TO.bf | apply TO.asg | apply TO.mf); (repeat (focus (show _ = _; first | exact k1 rfl | exact k2 rfl | (simp only [zz, Nat.reduceAdd, Nat.reduceMul, Nat.reduceLeDiff, Nat.reduceEqDiff] <;> exact rfl) | exact rfl))); (with_reducible refine TO.here ?_)) | ((with_reducible apply TX.region); (focus (simp only [zl] <;> exact rfl)); (focus rfl); (try dsimp only)) | fail)
    cases hr
    refine ⟨.inr rfl, _, (by simp only [zy, tresAll, tres, tload, rowOf, partT]; exact rfl), ?_⟩
    exact wr [] rfl .nil
  rfl

end Go.Rex

namespace Go.Rex
open Go.Proofs
open Go Go.Rex Go.RowKit
set_option maxRecDepth 100000
theorem array_counted_spec {v1 : Int} {v2 : Int} {v3 : Int} {v4 : Int} (hr : array_counted v1 v2 = some (v3, v4)) : Spec (lim Try.prog) 219 [.v (.int .i64 v1), .v (.int .i64 v2)] ⟨[.func 241 [] [.fptr true [.v (.int .i64 v3)] 0, .fptr true [.v (.int .i64 v4)] 0]], []⟩ := by
  unfold array_counted at hr
  apply Spec.fn Try.func219 rfl
  focus (simp [Try.f219] <;> exact rfl)
  focus
    repeat (first | (with_reducible first | refine mv ?_ | refine m12 rfl ?_ | refine TO.nil ?_) | ((with_reducible first | apply TO.bf | apply TO.asg | apply TO.mf); (repeat (focus (show _ = _; first | exact k1 rfl | exact k2 rfl | (simp only [zz, Nat.reduceAdd, Nat.reduceMul, Nat.reduceLeDiff, Nat.reduceEqDiff] <;> exact rfl) | exact rfl))); (with_reducible refine TO.here ?_)) | ((with_reducible apply TX.region); (focus (simp only [zl] <;> exact rfl)); (focus rfl); (try dsimp only)) | fail)
    cases hr
    refine ⟨.inr rfl, _, (by simp only [zy, tresAll, tres, tload, rowOf, partT]; exact rfl), ?_⟩
    exact wr [] rfl .nil
  rfl

end Go.Rex

namespace Go.Rex
open Go.Proofs
open Go Go.Rex Go.RowKit
set_option maxRecDepth 100000
theorem array_refuse_spec {v1 : Bool} {v2 : Int} {v3 : Bool} {v4 : Int} (hr : array_refuse v1 v2 = some (v3, v4)) : Spec (lim Try.prog) 223 [.v (.bool v1), .v (.int .i64 v2)] ⟨[.func 244 [] [.fptr true [.v (.bool v3)] 0, .fptr true [.v (.int .i64 v4)] 0]], []⟩ := by
  unfold array_refuse at hr
  apply Spec.fn Try.func223 rfl
  focus (simp [Try.f223] <;> exact rfl)
  focus
    repeat (first | (with_reducible first | refine mv ?_ | refine m12 rfl ?_ | refine TO.nil ?_) | ((with_reducible first | apply TO.bf | apply TO.asg | apply TO.mf); (repeat (focus (show _ = _; first | exact k1 rfl | exact k2 rfl | (simp only [zz, Nat.reduceAdd, Nat.reduceMul, Nat.reduceLeDiff, Nat.reduceEqDiff] <;> exact rfl) | exact rfl))); (with_reducible refine TO.here ?_)) | ((with_reducible apply TX.region); (focus (simp only [zl] <;> exact rfl)); (focus rfl); (try dsimp only)) | fail)
    cases hr
    refine ⟨.inr rfl, _, (by simp only [zy, tresAll, tres, tload, rowOf, partT]; exact rfl), ?_⟩
    exact wr [] rfl .nil
  rfl

end Go.Rex

namespace Go.Rex
open Go.Proofs
open Go Go.Rex Go.RowKit
set_option maxRecDepth 100000
theorem array_within_spec {v1 : Int} {v2 : Int} {v3 : Int} {v4 : Bool} {v5 : Int} (hr : array_within v1 v2 v3 = some (v4, v5)) : Spec (lim Try.prog) 240 [.v (.int .i64 v1), .v (.int .i64 v2), .v (.int .i64 v3)] ⟨[.func 244 [] [.fptr true [.v (.bool v4)] 0, .fptr true [.v (.int .i64 v5)] 0]], []⟩ := by
  unfold array_within at hr
  apply Spec.fn Try.func240 rfl
  focus (simp [Try.f240] <;> exact rfl)
  focus
    repeat (first | (with_reducible first | refine mv ?_ | refine m12 rfl ?_ | refine TO.nil ?_) | ((with_reducible first | apply TO.asg | apply TO.mv | apply TO.bin); (repeat (focus (show _ = _; first | exact k1 rfl | exact k2 rfl | (simp only [zz, Nat.reduceAdd, Nat.reduceMul, Nat.reduceLeDiff, Nat.reduceEqDiff] <;> exact rfl) | exact rfl))); (with_reducible refine TO.here ?_)) | ((with_reducible apply TX.region); (focus (simp only [zl] <;> exact rfl)); (focus rfl); (try dsimp only)) | fail)
    rcases Bool.eq_false_or_eq_true ((decide (v1 < v2))) with h1 | h1
    · rw [if_pos h1] at hr
      repeat (first | (with_reducible first | refine mv ?_ | refine m12 rfl ?_ | refine TO.nil ?_) | ((with_reducible first | apply TO.pk); (repeat (focus (show _ = _; first | exact k1 rfl | exact k2 rfl | (simp only [zz, Nat.reduceAdd, Nat.reduceMul, Nat.reduceLeDiff, Nat.reduceEqDiff, h1] <;> exact rfl) | exact rfl))); (with_reducible refine TO.here ?_)) | ((with_reducible apply TO.skip1); (repeat (focus (show _ = _; first | exact k1 rfl | exact k2 rfl | (simp only [zz, Nat.reduceAdd, Nat.reduceMul, Nat.reduceLeDiff, Nat.reduceEqDiff, twant, zp, zs, h1] <;> exact rfl) | exact rfl))); (with_reducible refine TO.here ?_)) | ((with_reducible apply TX.region); (focus (simp only [zl] <;> exact rfl)); (focus rfl); (try dsimp only)) | fail)
      obtain ⟨⟨v6, v7⟩, h2, hr⟩ := Option.bind_eq_some_iff.1 hr
      try dsimp only at hr
      apply TO.cal (by first | rfl | (simp only [twant, z1, zp, zs, h1]; done)) rfl goFn223 (array_refuse_spec h2) rfl rfl rfl
      (repeat (focus (show _ = _; first | exact k1 rfl | exact k2 rfl | (simp only [zz, Nat.reduceAdd, Nat.reduceMul, Nat.reduceLeDiff, Nat.reduceEqDiff, shift, kill, killB, frz, frzB, view, tml, tmlc, List.length_set, h1] <;> exact rfl) | exact rfl)))
      with_reducible apply TO.here
      repeat (first | (with_reducible first | refine mv ?_ | refine m12 rfl ?_ | refine TO.nil ?_) | ((with_reducible first | apply TO.asg); (repeat (focus (show _ = _; first | exact k1 rfl | exact k2 rfl | (simp only [zz, Nat.reduceAdd, Nat.reduceMul, Nat.reduceLeDiff, Nat.reduceEqDiff, h1] <;> exact rfl) | exact rfl))); (with_reducible refine TO.here ?_)) | ((with_reducible apply TX.region); (focus (simp only [zl] <;> exact rfl)); (focus rfl); (try dsimp only)) | fail)
      cases hr
      refine ⟨.inr rfl, _, (by simp only [zy, tresAll, tres, tload, rowOf, partT, h1]; exact rfl), ?_⟩
      exact Wk.ren [] rfl .nil (by (repeat (first | exact RNs.nil | refine RNs.cons .junk ?_ | refine RNs.cons (.keep rfl rfl) ?_ | refine RNs.cons (.lsl rfl rfl) ?_ | refine RNs.cons (.lsl rfl (by simp only [List.length_set])) ?_ | refine RNs.cons (.lptr rfl) ?_ | refine RNs.cons (.nil rfl) ?_ | refine RNs.cons .nl ?_ | refine RNs.cons (.keep (by simp only [h1]) rfl) ?_ | refine RNs.cons (.tuple' ?_) ?_ | refine RNs.cons (.agg' ?_) ?_)))
    · rw [if_neg (by rw [h1]; exact Bool.false_ne_true)] at hr
      repeat (first | (with_reducible first | refine mv ?_ | refine m12 rfl ?_ | refine TO.nil ?_) | ((with_reducible first | apply TO.mv | apply TO.bin | apply TO.pk); (repeat (focus (show _ = _; first | exact k1 rfl | exact k2 rfl | (simp only [zz, Nat.reduceAdd, Nat.reduceMul, Nat.reduceLeDiff, Nat.reduceEqDiff, h1] <;> exact rfl) | exact rfl))); (with_reducible refine TO.here ?_)) | ((with_reducible apply TX.region); (focus (simp only [zl] <;> exact rfl)); (focus rfl); (try dsimp only)) | fail)
      obtain ⟨⟨v8, v9⟩, h3, hr⟩ := Option.bind_eq_some_iff.1 hr
      try dsimp only at hr
      apply TO.cal (by first | rfl | (simp only [twant, z1, zp, zs, h1]; done)) rfl goFn223 (array_refuse_spec h3) rfl rfl rfl
      (repeat (focus (show _ = _; first | exact k1 rfl | exact k2 rfl | (simp only [zz, Nat.reduceAdd, Nat.reduceMul, Nat.reduceLeDiff, Nat.reduceEqDiff, shift, kill, killB, frz, frzB, view, tml, tmlc, List.length_set, h1] <;> exact rfl) | exact rfl)))
      with_reducible apply TO.here
      repeat (first | (with_reducible first | refine mv ?_ | refine m12 rfl ?_ | refine TO.nil ?_) | ((with_reducible first | apply TO.asg); (repeat (focus (show _ = _; first | exact k1 rfl | exact k2 rfl | (simp only [zz, Nat.reduceAdd, Nat.reduceMul, Nat.reduceLeDiff, Nat.reduceEqDiff, h1] <;> exact rfl) | exact rfl))); (with_reducible refine TO.here ?_)) | ((with_reducible apply TX.region); (focus (simp only [zl] <;> exact rfl)); (focus rfl); (try dsimp only)) | fail)
      cases hr
      refine ⟨.inr rfl, _, (by simp only [zy, tresAll, tres, tload, rowOf, partT, h1]; exact rfl), ?_⟩
      exact Wk.ren [] rfl .nil (by (repeat (first | exact RNs.nil | refine RNs.cons .junk ?_ | refine RNs.cons (.keep rfl rfl) ?_ | refine RNs.cons (.lsl rfl rfl) ?_ | refine RNs.cons (.lsl rfl (by simp only [List.length_set])) ?_ | refine RNs.cons (.lptr rfl) ?_ | refine RNs.cons (.nil rfl) ?_ | refine RNs.cons .nl ?_ | refine RNs.cons (.keep (by simp only [h1]) rfl) ?_ | refine RNs.cons (.tuple' ?_) ?_ | refine RNs.cons (.agg' ?_) ?_)))
  rfl

end Go.Rex

namespace Go.Rex
open Go.Proofs
open Go Go.Rex Go.RowKit
set_option maxRecDepth 100000
def y3 := an @ag26 <| @ag4
theorem array_refuse_c1_11f9_spec {v1 : Bool} {v2 : Int} {v3 : Int} (hr : array_refuse_c1_11f9 v1 v2 = some (v3)) : Spec (lim Try.prog) 244 [.fptr true [.v (.bool v1)] 0, .fptr true [.v (.int .i64 v2)] 0] ⟨[.v (.int .i64 v3)], []⟩ := by
  unfold array_refuse_c1_11f9 at hr
  apply Spec.fn Try.func244 rfl
  focus (simp [Try.f244] <;> exact rfl)
  focus
    repeat (first | (with_reducible first | refine mv ?_ | refine m12 rfl ?_ | refine TO.nil ?_) | ((with_reducible first | apply TO.asg | apply TO.ld); (repeat (focus (show _ = _; first | exact k1 rfl | exact k2 rfl | (simp only [zz, y3, Nat.reduceAdd, Nat.reduceMul, Nat.reduceLeDiff, Nat.reduceEqDiff, tload, rowOf, partT, List.getElem?_map] <;> exact rfl) | exact rfl))); (with_reducible refine TO.here ?_)) | ((with_reducible apply TX.region); (focus (simp only [zl] <;> exact rfl)); (focus rfl); (try dsimp only)) | ((with_reducible apply TX.cond_true); (focus rfl); (focus (first | rfl | (simp only [z1, zn]; done)))) | ((with_reducible apply TX.cond_false); (focus rfl); (focus (first | rfl | (simp only [z1, zn]; done)))) | fail)
    rcases Bool.eq_false_or_eq_true (v1) with h1 | h1
    · rw [if_pos h1] at hr
      repeat (first | (with_reducible first | refine mv ?_ | refine m12 rfl ?_ | refine TO.nil ?_) | ((with_reducible first | apply TO.ld | apply TO.asg); (repeat (focus (show _ = _; first | exact k1 rfl | exact k2 rfl | (simp only [zz, y3, Nat.reduceAdd, Nat.reduceMul, Nat.reduceLeDiff, Nat.reduceEqDiff, tload, rowOf, partT, List.getElem?_map, h1] <;> exact rfl) | exact rfl))); (with_reducible refine TO.here ?_)) | ((with_reducible apply TX.region); (focus (simp only [zl] <;> exact rfl)); (focus rfl); (try dsimp only)) | ((with_reducible apply TX.cond_true); (focus rfl); (focus (first | rfl | (simp only [z1, zn, h1]; done)))) | ((with_reducible apply TX.cond_false); (focus rfl); (focus (first | rfl | (simp only [z1, zn, h1]; done)))) | fail)
      cases hr
      refine ⟨.inr rfl, _, (by simp only [zy, y3, tresAll, tres, tload, rowOf, partT, h1]; exact rfl), ?_⟩
      exact Wk.ren [] rfl .nil (by (repeat (first | exact RNs.nil | refine RNs.cons .junk ?_ | refine RNs.cons (.keep rfl rfl) ?_ | refine RNs.cons (.lsl rfl rfl) ?_ | refine RNs.cons (.lsl rfl (by simp only [List.length_set])) ?_ | refine RNs.cons (.lptr rfl) ?_ | refine RNs.cons (.nil rfl) ?_ | refine RNs.cons .nl ?_ | refine RNs.cons (.keep (by simp only [h1]) rfl) ?_ | refine RNs.cons (.tuple' ?_) ?_ | refine RNs.cons (.agg' ?_) ?_)))
    · rw [if_neg (by rw [h1]; exact Bool.false_ne_true)] at hr
      repeat (first | (with_reducible first | refine mv ?_ | refine m12 rfl ?_ | refine TO.nil ?_) | ((with_reducible first | apply TO.asg); (repeat (focus (show _ = _; first | exact k1 rfl | exact k2 rfl | (simp only [zz, y3, Nat.reduceAdd, Nat.reduceMul, Nat.reduceLeDiff, Nat.reduceEqDiff, h1] <;> exact rfl) | exact rfl))); (with_reducible refine TO.here ?_)) | ((with_reducible apply TX.region); (focus (simp only [zl] <;> exact rfl)); (focus rfl); (try dsimp only)) | ((with_reducible apply TX.cond_true); (focus rfl); (focus (first | rfl | (simp only [z1, zn, h1]; done)))) | ((with_reducible apply TX.cond_false); (focus rfl); (focus (first | rfl | (simp only [z1, zn, h1]; done)))) | fail)
      cases hr
      refine ⟨.inr rfl, _, (by simp only [zy, y3, tresAll, tres, tload, rowOf, partT, h1]; exact rfl), ?_⟩
      exact Wk.ren [] rfl .nil (by (repeat (first | exact RNs.nil | refine RNs.cons .junk ?_ | refine RNs.cons (.keep rfl rfl) ?_ | refine RNs.cons (.lsl rfl rfl) ?_ | refine RNs.cons (.lsl rfl (by simp only [List.length_set])) ?_ | refine RNs.cons (.lptr rfl) ?_ | refine RNs.cons (.nil rfl) ?_ | refine RNs.cons .nl ?_ | refine RNs.cons (.keep (by simp only [h1]) rfl) ?_ | refine RNs.cons (.tuple' ?_) ?_ | refine RNs.cons (.agg' ?_) ?_)))
  rfl

end Go.Rex

namespace Go.Rex
open Go.Proofs
open Go Go.Rex Go.RowKit
set_option maxRecDepth 100000
def y4 := an @ag261 <| an @cs261 <| an @ok261 <| an @so260 <| an @wi64_0a1 <| @wi64_1a1
theorem array_firstError_751b_spec {v1 : Bool} {v2 : Int} {v3 : Bool} {v4 : Int} {v5 : Int} (hr : array_firstError_751b v1 v2 v3 v4 = some (v5)) : Spec (lim Try.prog) 148 [.list 1 [[.func 244 [] [.fptr true [.v (.bool v1)] 0, .fptr true [.v (.int .i64 v2)] 0]], [.func 244 [] [.fptr true [.v (.bool v3)] 0, .fptr true [.v (.int .i64 v4)] 0]]]] ⟨[.v (.int .i64 v5)], []⟩ := by
  unfold array_firstError_751b at hr
  apply Spec.fn Try.func148 rfl
  focus (simp [Try.f148] <;> exact rfl)
  focus
    repeat (first | (with_reducible first | refine mv ?_ | refine m12 rfl ?_ | refine TO.nil ?_) | ((with_reducible first | apply TO.asg | apply TO.mv | apply TO.len); (repeat (focus (show _ = _; first | exact k1 rfl | exact k2 rfl | (simp only [zz, y4, Nat.reduceAdd, Nat.reduceMul, Nat.reduceLeDiff, Nat.reduceEqDiff, tlen] <;> exact rfl) | exact rfl))); (with_reducible refine TO.here ?_)) | ((with_reducible apply TX.region); (focus (simp only [zl] <;> exact rfl)); (focus rfl); (try dsimp only)) | fail)
    refine TX.unroll ?_
    repeat (first | (with_reducible first | refine mv ?_ | refine m12 rfl ?_ | refine TO.nil ?_) | ((with_reducible first | apply TO.bin | apply TO.ia | apply TO.ld | apply TO.asg | apply TO.mv); (repeat (focus (show _ = _; first | exact k1 rfl | exact k2 rfl | (simp only [zz, y4, Nat.reduceAdd, Nat.reduceMul, Nat.reduceLeDiff, Nat.reduceEqDiff, tindexAddr, z5, Int.reduceToNat, Int.reduceLE, Int.reduceLT, Int.cast_ofNat_Int, tload, rowOf, partT, List.getElem?_map] <;> exact rfl) | exact rfl))); (with_reducible refine TO.here ?_)) | ((with_reducible apply TX.region); (focus (simp only [zl] <;> exact rfl)); (focus rfl); (try dsimp only)) | ((with_reducible apply TX.cond_true); (focus rfl); (focus (first | rfl | (simp only [z1, zn]; done)))) | ((with_reducible apply TX.cond_false); (focus rfl); (focus (first | rfl | (simp only [z1, zn]; done)))) | fail)
    obtain ⟨v6, h1, hr⟩ := Option.bind_eq_some_iff.1 hr
    try dsimp only at hr
    apply TO.cal (by first | rfl | (simp only [twant, z1, zp, zs]; done)) rfl goFn244 (array_refuse_c1_11f9_spec h1) rfl rfl rfl
    (repeat (focus (show _ = _; first | exact k1 rfl | exact k2 rfl | (simp only [zz, y4, Nat.reduceAdd, Nat.reduceMul, Nat.reduceLeDiff, Nat.reduceEqDiff, shift, kill, killB, frz, frzB, view, tml, tmlc, List.length_set] <;> exact rfl) | exact rfl)))
    with_reducible apply TO.here
    repeat (first | (with_reducible first | refine mv ?_ | refine m12 rfl ?_ | refine TO.nil ?_) | ((with_reducible first | apply TO.asg | apply TO.mv | apply TO.bin); (repeat (focus (show _ = _; first | exact k1 rfl | exact k2 rfl | (simp only [zz, y4, Nat.reduceAdd, Nat.reduceMul, Nat.reduceLeDiff, Nat.reduceEqDiff] <;> exact rfl) | exact rfl))); (with_reducible refine TO.here ?_)) | ((with_reducible apply TX.region); (focus (simp only [zl] <;> exact rfl)); (focus rfl); (try dsimp only)) | ((with_reducible apply TX.cond_true); (focus rfl); (focus (first | rfl | (simp only [z1, zn]; done)))) | ((with_reducible apply TX.cond_false); (focus rfl); (focus (first | rfl | (simp only [z1, zn]; done)))) | fail)
    rcases Bool.eq_false_or_eq_true ((decide (v6 ≠ 0))) with h2 | h2
    · rw [if_pos h2] at hr
      repeat (first | (with_reducible first | refine mv ?_ | refine m12 rfl ?_ | refine TO.nil ?_) | ((with_reducible first | apply TO.mv | apply TO.asg); (repeat (focus (show _ = _; first | exact k1 rfl | exact k2 rfl | (simp only [zz, y4, Nat.reduceAdd, Nat.reduceMul, Nat.reduceLeDiff, Nat.reduceEqDiff, h2] <;> exact rfl) | exact rfl))); (with_reducible refine TO.here ?_)) | ((with_reducible apply TX.region); (focus (simp only [zl] <;> exact rfl)); (focus rfl); (try dsimp only)) | ((with_reducible apply TX.cond_true); (focus rfl); (focus (first | rfl | (simp only [z1, zn, h2]; done)))) | ((with_reducible apply TX.cond_false); (focus rfl); (focus (first | rfl | (simp only [z1, zn, h2]; done)))) | fail)
      cases hr
      refine ⟨.inr rfl, _, (by simp only [zy, y4, tresAll, tres, tload, rowOf, partT, h2]; exact rfl), ?_⟩
      exact Wk.ren [] rfl .nil (by (repeat (first | exact RNs.nil | refine RNs.cons .junk ?_ | refine RNs.cons (.keep rfl rfl) ?_ | refine RNs.cons (.lsl rfl rfl) ?_ | refine RNs.cons (.lsl rfl (by simp only [List.length_set])) ?_ | refine RNs.cons (.lptr rfl) ?_ | refine RNs.cons (.nil rfl) ?_ | refine RNs.cons .nl ?_ | refine RNs.cons (.keep (by simp only [h2]) rfl) ?_ | refine RNs.cons (.tuple' ?_) ?_ | refine RNs.cons (.agg' ?_) ?_)))
    · rw [if_neg (by rw [h2]; exact Bool.false_ne_true)] at hr
      repeat (first | (with_reducible first | refine mv ?_ | refine m12 rfl ?_ | refine TO.nil ?_) | ((with_reducible first | apply TO.bin | apply TO.mv); (repeat (focus (show _ = _; first | exact k1 rfl | exact k2 rfl | (simp only [zz, y4, Nat.reduceAdd, Nat.reduceMul, Nat.reduceLeDiff, Nat.reduceEqDiff, h2] <;> exact rfl) | exact rfl))); (with_reducible refine TO.here ?_)) | ((with_reducible apply TX.region); (focus (simp only [zl] <;> exact rfl)); (focus rfl); (try dsimp only)) | ((with_reducible apply TX.cond_true); (focus rfl); (focus (first | rfl | (simp only [z1, zn, h2]; done)))) | ((with_reducible apply TX.cond_false); (focus rfl); (focus (first | rfl | (simp only [z1, zn, h2]; done)))) | fail)
      refine TX.unroll ?_
      repeat (first | (with_reducible first | refine mv ?_ | refine m12 rfl ?_ | refine TO.nil ?_) | ((with_reducible first | apply TO.bin | apply TO.ia | apply TO.ld | apply TO.asg | apply TO.mv); (repeat (focus (show _ = _; first | exact k1 rfl | exact k2 rfl | (simp only [zz, y4, Nat.reduceAdd, Nat.reduceMul, Nat.reduceLeDiff, Nat.reduceEqDiff, tindexAddr, z5, Int.reduceToNat, Int.reduceLE, Int.reduceLT, Int.cast_ofNat_Int, tload, rowOf, partT, List.getElem?_map, h2] <;> exact rfl) | exact rfl))); (with_reducible refine TO.here ?_)) | ((with_reducible apply TX.region); (focus (simp only [zl] <;> exact rfl)); (focus rfl); (try dsimp only)) | ((with_reducible apply TX.cond_true); (focus rfl); (focus (first | rfl | (simp only [z1, zn, h2]; done)))) | ((with_reducible apply TX.cond_false); (focus rfl); (focus (first | rfl | (simp only [z1, zn, h2]; done)))) | fail)
      obtain ⟨v7, h3, hr⟩ := Option.bind_eq_some_iff.1 hr
      try dsimp only at hr
      apply TO.cal (by first | rfl | (simp only [twant, z1, zp, zs, h2]; done)) rfl goFn244 (array_refuse_c1_11f9_spec h3) rfl rfl rfl
      (repeat (focus (show _ = _; first | exact k1 rfl | exact k2 rfl | (simp only [zz, y4, Nat.reduceAdd, Nat.reduceMul, Nat.reduceLeDiff, Nat.reduceEqDiff, shift, kill, killB, frz, frzB, view, tml, tmlc, List.length_set, h2] <;> exact rfl) | exact rfl)))
      with_reducible apply TO.here
      repeat (first | (with_reducible first | refine mv ?_ | refine m12 rfl ?_ | refine TO.nil ?_) | ((with_reducible first | apply TO.asg | apply TO.mv | apply TO.bin); (repeat (focus (show _ = _; first | exact k1 rfl | exact k2 rfl | (simp only [zz, y4, Nat.reduceAdd, Nat.reduceMul, Nat.reduceLeDiff, Nat.reduceEqDiff, h2] <;> exact rfl) | exact rfl))); (with_reducible refine TO.here ?_)) | ((with_reducible apply TX.region); (focus (simp only [zl] <;> exact rfl)); (focus rfl); (try dsimp only)) | ((with_reducible apply TX.cond_true); (focus rfl); (focus (first | rfl | (simp only [z1, zn, h2]; done)))) | ((with_reducible apply TX.cond_false); (focus rfl); (focus (first | rfl | (simp only [z1, zn, h2]; done)))) | fail)
      rcases Bool.eq_false_or_eq_true ((decide (v7 ≠ 0))) with h4 | h4
      · rw [if_pos h4] at hr
        repeat (first | (with_reducible first | refine mv ?_ | refine m12 rfl ?_ | refine TO.nil ?_) | ((with_reducible first | apply TO.mv | apply TO.asg); (repeat (focus (show _ = _; first | exact k1 rfl | exact k2 rfl | (simp only [zz, y4, Nat.reduceAdd, Nat.reduceMul, Nat.reduceLeDiff, Nat.reduceEqDiff, h2, h4] <;> exact rfl) | exact rfl))); (with_reducible refine TO.here ?_)) | ((with_reducible apply TX.region); (focus (simp only [zl] <;> exact rfl)); (focus rfl); (try dsimp only)) | ((with_reducible apply TX.cond_true); (focus rfl); (focus (first | rfl | (simp only [z1, zn, h2, h4]; done)))) | ((with_reducible apply TX.cond_false); (focus rfl); (focus (first | rfl | (simp only [z1, zn, h2, h4]; done)))) | fail)
        cases hr
        refine ⟨.inr rfl, _, (by simp only [zy, y4, tresAll, tres, tload, rowOf, partT, h2, h4]; exact rfl), ?_⟩
        exact Wk.ren [] rfl .nil (by (repeat (first | exact RNs.nil | refine RNs.cons .junk ?_ | refine RNs.cons (.keep rfl rfl) ?_ | refine RNs.cons (.lsl rfl rfl) ?_ | refine RNs.cons (.lsl rfl (by simp only [List.length_set])) ?_ | refine RNs.cons (.lptr rfl) ?_ | refine RNs.cons (.nil rfl) ?_ | refine RNs.cons .nl ?_ | refine RNs.cons (.keep (by simp only [h2, h4]) rfl) ?_ | refine RNs.cons (.tuple' ?_) ?_ | refine RNs.cons (.agg' ?_) ?_)))
      · rw [if_neg (by rw [h4]; exact Bool.false_ne_true)] at hr
        repeat (first | (with_reducible first | refine mv ?_ | refine m12 rfl ?_ | refine TO.nil ?_) | ((with_reducible first | apply TO.bin | apply TO.mv); (repeat (focus (show _ = _; first | exact k1 rfl | exact k2 rfl | (simp only [zz, y4, Nat.reduceAdd, Nat.reduceMul, Nat.reduceLeDiff, Nat.reduceEqDiff, h2, h4] <;> exact rfl) | exact rfl))); (with_reducible refine TO.here ?_)) | ((with_reducible apply TX.region); (focus (simp only [zl] <;> exact rfl)); (focus rfl); (try dsimp only)) | ((with_reducible apply TX.cond_true); (focus rfl); (focus (first | rfl | (simp only [z1, zn, h2, h4]; done)))) | ((with_reducible apply TX.cond_false); (focus rfl); (focus (first | rfl | (simp only [z1, zn, h2, h4]; done)))) | fail)
        refine TX.unroll ?_
        repeat (first | (with_reducible first | refine mv ?_ | refine m12 rfl ?_ | refine TO.nil ?_) | ((with_reducible first | apply TO.bin | apply TO.asg); (repeat (focus (show _ = _; first | exact k1 rfl | exact k2 rfl | (simp only [zz, y4, Nat.reduceAdd, Nat.reduceMul, Nat.reduceLeDiff, Nat.reduceEqDiff, h2, h4] <;> exact rfl) | exact rfl))); (with_reducible refine TO.here ?_)) | ((with_reducible apply TX.region); (focus (simp only [zl] <;> exact rfl)); (focus rfl); (try dsimp only)) | ((with_reducible apply TX.cond_true); (focus rfl); (focus (first | rfl | (simp only [z1, zn, h2, h4]; done)))) | ((with_reducible apply TX.cond_false); (focus rfl); (focus (first | rfl | (simp only [z1, zn, h2, h4]; done)))) | fail)
        cases hr
        refine ⟨.inr rfl, _, (by simp only [zy, y4, tresAll, tres, tload, rowOf, partT, h2, h4]; exact rfl), ?_⟩
        exact Wk.ren [] rfl .nil (by (repeat (first | exact RNs.nil | refine RNs.cons .junk ?_ | refine RNs.cons (.keep rfl rfl) ?_ | refine RNs.cons (.lsl rfl rfl) ?_ | refine RNs.cons (.lsl rfl (by simp only [List.length_set])) ?_ | refine RNs.cons (.lptr rfl) ?_ | refine RNs.cons (.nil rfl) ?_ | refine RNs.cons .nl ?_ | refine RNs.cons (.keep (by simp only [h2, h4]) rfl) ?_ | refine RNs.cons (.tuple' ?_) ?_ | refine RNs.cons (.agg' ?_) ?_)))
  rfl

end Go.Rex

namespace Go.Rex
open Go.Proofs
open Go Go.Rex Go.RowKit
set_option maxRecDepth 100000
def y5 := an @ag3 <| an @cs261 <| an @fd270_0 <| an @fd270_1 <| an @so260 <| @zc261
theorem array_audible_c1_eebc_spec {v1 : Int} {v2 : Int} {v3 : Int} (hr : array_audible_c1_eebc v1 v2 = some (v3)) : Spec (lim Try.prog) 239 [.fptr true [.v (.int .i64 v1), .v (.int .i64 v2)] 0] ⟨[.v (.int .i64 v3)], []⟩ := by
  unfold array_audible_c1_eebc at hr
  apply Spec.fn Try.func239 rfl
  focus (simp [Try.f239] <;> exact rfl)
  focus
    repeat (first | (with_reducible first | refine mv ?_ | refine m12 rfl ?_ | refine TO.nil ?_) | ((with_reducible first | apply TO.asg); (repeat (focus (show _ = _; first | exact k1 rfl | exact k2 rfl | (simp only [zz, y5, Nat.reduceAdd, Nat.reduceMul, Nat.reduceLeDiff, Nat.reduceEqDiff] <;> exact rfl) | exact rfl))); (with_reducible refine TO.here ?_)) | ((with_reducible apply TX.region); (focus (simp only [zl] <;> exact rfl)); (focus rfl); (try dsimp only)) | with_reducible refine TD.nil ?_ | ((with_reducible first | apply TD.fa | apply TD.ld | apply TD.ldw); (repeat (focus (show _ = _; first | exact k1 rfl | exact k2 rfl | (simp only [zz, y5, Nat.reduceAdd, Nat.reduceMul, Nat.reduceLeDiff, Nat.reduceEqDiff, tfieldAddr, tload, rowOf, partT, List.getElem?_map] <;> exact rfl) | exact rfl))); (with_reducible refine TD.here ?_)) | ((with_reducible apply TX.drawn); (focus decide +kernel); (focus (simp only [zl] <;> exact rfl)); (focus exact rfl); (try dsimp only)) | fail)
    obtain ⟨⟨v4, v5⟩, h1, hr⟩ := Option.bind_eq_some_iff.1 hr
    try dsimp only at hr
    first | apply TD.cal (by first | rfl | (simp only [twant, z1, zp, zs]; done)) rfl goFn240 (array_within_spec h1) rfl rfl rfl | apply TD.calw (by first | rfl | (simp only [twant, z1, zp, zs]; done)) rfl goFn240 (array_within_spec h1) rfl rfl rfl rfl
    (repeat (focus (show _ = _; first | exact k1 rfl | exact k2 rfl | (simp only [zz, y5, Nat.reduceAdd, Nat.reduceMul, Nat.reduceLeDiff, Nat.reduceEqDiff, shift, kill, killB, frz, frzB, view, tml, tmlc, List.length_set] <;> exact rfl) | exact rfl)))
    with_reducible apply TD.here
    repeat (first | (with_reducible first | refine mv ?_ | refine m12 rfl ?_ | refine TD.nil ?_) | ((with_reducible first | apply TD.fa | apply TD.ld | apply TD.ldw); (repeat (focus (show _ = _; first | exact k1 rfl | exact k2 rfl | (simp only [zz, y5, Nat.reduceAdd, Nat.reduceMul, Nat.reduceLeDiff, Nat.reduceEqDiff, tfieldAddr, tload, rowOf, partT, List.getElem?_map] <;> exact rfl) | exact rfl))); (with_reducible refine TD.here ?_)) | ((with_reducible apply TX.drawn); (focus decide +kernel); (focus (simp only [zl] <;> exact rfl)); (focus exact rfl); (try dsimp only)) | fail)
    obtain ⟨⟨v6, v7⟩, h2, hr⟩ := Option.bind_eq_some_iff.1 hr
    try dsimp only at hr
    first | apply TD.cal (by first | rfl | (simp only [twant, z1, zp, zs]; done)) rfl goFn240 (array_within_spec h2) rfl rfl rfl | apply TD.calw (by first | rfl | (simp only [twant, z1, zp, zs]; done)) rfl goFn240 (array_within_spec h2) rfl rfl rfl rfl
    (repeat (focus (show _ = _; first | exact k1 rfl | exact k2 rfl | (simp only [zz, y5, Nat.reduceAdd, Nat.reduceMul, Nat.reduceLeDiff, Nat.reduceEqDiff, shift, kill, killB, frz, frzB, view, tml, tmlc, List.length_set] <;> exact rfl) | exact rfl)))
    with_reducible apply TD.here
    repeat (first | (with_reducible first | refine mv ?_ | refine m12 rfl ?_ | refine TD.nil ?_) | ((with_reducible first | apply TD.bs); (repeat (focus (show _ = _; first | exact k1 rfl | exact k2 rfl | (simp only [zz, y5, Nat.reduceAdd, Nat.reduceMul, Nat.reduceLeDiff, Nat.reduceEqDiff, tslice, tparts] <;> exact rfl) | exact rfl))); (with_reducible refine TD.here ?_)) | ((with_reducible apply TX.drawn); (focus decide +kernel); (focus (simp only [zl] <;> exact rfl)); (focus exact rfl); (try dsimp only)) | fail)
    obtain ⟨v8, h3, hr⟩ := Option.bind_eq_some_iff.1 hr
    try dsimp only at hr
    first | apply TD.cal (by first | rfl | (simp only [twant, z1, zp, zs]; done)) rfl goFn148 (array_firstError_751b_spec h3) rfl rfl rfl | apply TD.calw (by first | rfl | (simp only [twant, z1, zp, zs]; done)) rfl goFn148 (array_firstError_751b_spec h3) rfl rfl rfl rfl
    (repeat (focus (show _ = _; first | exact k1 rfl | exact k2 rfl | (simp only [zz, y5, Nat.reduceAdd, Nat.reduceMul, Nat.reduceLeDiff, Nat.reduceEqDiff, shift, kill, killB, frz, frzB, view, tml, tmlc, List.length_set] <;> exact rfl) | exact rfl)))
    with_reducible apply TD.here
    repeat (first | (with_reducible first | refine mv ?_ | refine m12 rfl ?_ | refine TD.nil ?_) | ((with_reducible first | apply TD.asg); (repeat (focus (show _ = _; first | exact k1 rfl | exact k2 rfl | (simp only [zz, y5, Nat.reduceAdd, Nat.reduceMul, Nat.reduceLeDiff, Nat.reduceEqDiff] <;> exact rfl) | exact rfl))); (with_reducible refine TD.here ?_)) | ((with_reducible apply TX.drawn); (focus decide +kernel); (focus (simp only [zl] <;> exact rfl)); (focus exact rfl); (try dsimp only)) | fail)
    cases hr
    refine ⟨.inr rfl, _, (by simp only [zy, y5, tresAll, tres, tload, rowOf, partT]; exact rfl), ?_⟩
    exact wr [] rfl .nil
  rfl

end Go.Rex

namespace Go.Rex
open Go.Proofs
open Go Go.Rex Go.RowKit
set_option maxRecDepth 100000
def y6 := an @ag3 <| an @cs261 <| an @so260 <| @zc261
theorem array_counted_c1_b585_spec {v1 : Int} {v2 : Int} {v3 : Int} (hr : array_counted_c1_b585 v1 v2 = some (v3)) : Spec (lim Try.prog) 241 [.fptr true [.v (.int .i64 v1)] 0, .fptr true [.v (.int .i64 v2)] 0] ⟨[.v (.int .i64 v3)], []⟩ := by
  unfold array_counted_c1_b585 at hr
  apply Spec.fn Try.func241 rfl
  focus (simp [Try.f241] <;> exact rfl)
  focus
    repeat (first | (with_reducible first | refine mv ?_ | refine m12 rfl ?_ | refine TO.nil ?_) | ((with_reducible first | apply TO.asg); (repeat (focus (show _ = _; first | exact k1 rfl | exact k2 rfl | (simp only [zz, y6, Nat.reduceAdd, Nat.reduceMul, Nat.reduceLeDiff, Nat.reduceEqDiff] <;> exact rfl) | exact rfl))); (with_reducible refine TO.here ?_)) | ((with_reducible apply TX.region); (focus (simp only [zl] <;> exact rfl)); (focus rfl); (try dsimp only)) | with_reducible refine TD.nil ?_ | ((with_reducible first | apply TD.ld | apply TD.ldw | apply TD.bin); (repeat (focus (show _ = _; first | exact k1 rfl | exact k2 rfl | (simp only [zz, y6, Nat.reduceAdd, Nat.reduceMul, Nat.reduceLeDiff, Nat.reduceEqDiff, tload, rowOf, partT, List.getElem?_map] <;> exact rfl) | exact rfl))); (with_reducible refine TD.here ?_)) | ((with_reducible apply TX.drawn); (focus decide +kernel); (focus (simp only [zl] <;> exact rfl)); (focus exact rfl); (try dsimp only)) | fail)
    obtain ⟨⟨v4, v5⟩, h1, hr⟩ := Option.bind_eq_some_iff.1 hr
    try dsimp only at hr
    first | apply TD.cal (by first | rfl | (simp only [twant, z1, zp, zs]; done)) rfl goFn223 (array_refuse_spec h1) rfl rfl rfl | apply TD.calw (by first | rfl | (simp only [twant, z1, zp, zs]; done)) rfl goFn223 (array_refuse_spec h1) rfl rfl rfl rfl
    (repeat (focus (show _ = _; first | exact k1 rfl | exact k2 rfl | (simp only [zz, y6, Nat.reduceAdd, Nat.reduceMul, Nat.reduceLeDiff, Nat.reduceEqDiff, shift, kill, killB, frz, frzB, view, tml, tmlc, List.length_set] <;> exact rfl) | exact rfl)))
    with_reducible apply TD.here
    repeat (first | (with_reducible first | refine mv ?_ | refine m12 rfl ?_ | refine TD.nil ?_) | ((with_reducible first | apply TD.ld | apply TD.ldw | apply TD.bin); (repeat (focus (show _ = _; first | exact k1 rfl | exact k2 rfl | (simp only [zz, y6, Nat.reduceAdd, Nat.reduceMul, Nat.reduceLeDiff, Nat.reduceEqDiff, tload, rowOf, partT, List.getElem?_map] <;> exact rfl) | exact rfl))); (with_reducible refine TD.here ?_)) | ((with_reducible apply TX.drawn); (focus decide +kernel); (focus (simp only [zl] <;> exact rfl)); (focus exact rfl); (try dsimp only)) | fail)
    obtain ⟨⟨v6, v7⟩, h2, hr⟩ := Option.bind_eq_some_iff.1 hr
    try dsimp only at hr
    first | apply TD.cal (by first | rfl | (simp only [twant, z1, zp, zs]; done)) rfl goFn223 (array_refuse_spec h2) rfl rfl rfl | apply TD.calw (by first | rfl | (simp only [twant, z1, zp, zs]; done)) rfl goFn223 (array_refuse_spec h2) rfl rfl rfl rfl
    (repeat (focus (show _ = _; first | exact k1 rfl | exact k2 rfl | (simp only [zz, y6, Nat.reduceAdd, Nat.reduceMul, Nat.reduceLeDiff, Nat.reduceEqDiff, shift, kill, killB, frz, frzB, view, tml, tmlc, List.length_set] <;> exact rfl) | exact rfl)))
    with_reducible apply TD.here
    repeat (first | (with_reducible first | refine mv ?_ | refine m12 rfl ?_ | refine TD.nil ?_) | ((with_reducible first | apply TD.bs); (repeat (focus (show _ = _; first | exact k1 rfl | exact k2 rfl | (simp only [zz, y6, Nat.reduceAdd, Nat.reduceMul, Nat.reduceLeDiff, Nat.reduceEqDiff, tslice, tparts] <;> exact rfl) | exact rfl))); (with_reducible refine TD.here ?_)) | ((with_reducible apply TX.drawn); (focus decide +kernel); (focus (simp only [zl] <;> exact rfl)); (focus exact rfl); (try dsimp only)) | fail)
    obtain ⟨v8, h3, hr⟩ := Option.bind_eq_some_iff.1 hr
    try dsimp only at hr
    first | apply TD.cal (by first | rfl | (simp only [twant, z1, zp, zs]; done)) rfl goFn148 (array_firstError_751b_spec h3) rfl rfl rfl | apply TD.calw (by first | rfl | (simp only [twant, z1, zp, zs]; done)) rfl goFn148 (array_firstError_751b_spec h3) rfl rfl rfl rfl
    (repeat (focus (show _ = _; first | exact k1 rfl | exact k2 rfl | (simp only [zz, y6, Nat.reduceAdd, Nat.reduceMul, Nat.reduceLeDiff, Nat.reduceEqDiff, shift, kill, killB, frz, frzB, view, tml, tmlc, List.length_set] <;> exact rfl) | exact rfl)))
    with_reducible apply TD.here
    repeat (first | (with_reducible first | refine mv ?_ | refine m12 rfl ?_ | refine TD.nil ?_) | ((with_reducible first | apply TD.asg); (repeat (focus (show _ = _; first | exact k1 rfl | exact k2 rfl | (simp only [zz, y6, Nat.reduceAdd, Nat.reduceMul, Nat.reduceLeDiff, Nat.reduceEqDiff] <;> exact rfl) | exact rfl))); (with_reducible refine TD.here ?_)) | ((with_reducible apply TX.drawn); (focus decide +kernel); (focus (simp only [zl] <;> exact rfl)); (focus exact rfl); (try dsimp only)) | fail)
    cases hr
    refine ⟨.inr rfl, _, (by simp only [zy, y6, tresAll, tres, tload, rowOf, partT]; exact rfl), ?_⟩
    exact wr [] rfl .nil
  rfl

end Go.Rex

namespace Go.Rex
open Go.Proofs
open Go Go.Rex Go.RowKit
set_option maxRecDepth 100000
def y7 := an @ag261 <| an @cs261 <| an @ok261 <| an @so260 <| an @wi64_0a1 <| @wi64_1a1
theorem array_firstError_2e50_spec {v1 : Int} {v2 : Int} {v3 : Int} {v4 : Int} {v5 : Int} (hr : array_firstError_2e50 v1 v2 v3 v4 = some (v5)) : Spec (lim Try.prog) 148 [.list 1 [[.func 239 [] [.fptr true [.v (.int .i64 v1), .v (.int .i64 v2)] 0]], [.func 241 [] [.fptr true [.v (.int .i64 v3)] 0, .fptr true [.v (.int .i64 v4)] 0]]]] ⟨[.v (.int .i64 v5)], []⟩ := by
  unfold array_firstError_2e50 at hr
  apply Spec.fn Try.func148 rfl
  focus (simp [Try.f148] <;> exact rfl)
  focus
    repeat (first | (with_reducible first | refine mv ?_ | refine m12 rfl ?_ | refine TO.nil ?_) | ((with_reducible first | apply TO.asg | apply TO.mv | apply TO.len); (repeat (focus (show _ = _; first | exact k1 rfl | exact k2 rfl | (simp only [zz, y7, Nat.reduceAdd, Nat.reduceMul, Nat.reduceLeDiff, Nat.reduceEqDiff, tlen] <;> exact rfl) | exact rfl))); (with_reducible refine TO.here ?_)) | ((with_reducible apply TX.region); (focus (simp only [zl] <;> exact rfl)); (focus rfl); (try dsimp only)) | fail)
    refine TX.unroll ?_
    repeat (first | (with_reducible first | refine mv ?_ | refine m12 rfl ?_ | refine TO.nil ?_) | ((with_reducible first | apply TO.bin | apply TO.ia | apply TO.ld | apply TO.asg | apply TO.mv); (repeat (focus (show _ = _; first | exact k1 rfl | exact k2 rfl | (simp only [zz, y7, Nat.reduceAdd, Nat.reduceMul, Nat.reduceLeDiff, Nat.reduceEqDiff, tindexAddr, z5, Int.reduceToNat, Int.reduceLE, Int.reduceLT, Int.cast_ofNat_Int, tload, rowOf, partT, List.getElem?_map] <;> exact rfl) | exact rfl))); (with_reducible refine TO.here ?_)) | ((with_reducible apply TX.region); (focus (simp only [zl] <;> exact rfl)); (focus rfl); (try dsimp only)) | ((with_reducible apply TX.cond_true); (focus rfl); (focus (first | rfl | (simp only [z1, zn]; done)))) | ((with_reducible apply TX.cond_false); (focus rfl); (focus (first | rfl | (simp only [z1, zn]; done)))) | fail)
    obtain ⟨v6, h1, hr⟩ := Option.bind_eq_some_iff.1 hr
    try dsimp only at hr
    apply TO.cal (by first | rfl | (simp only [twant, z1, zp, zs]; done)) rfl goFn239 (array_audible_c1_eebc_spec h1) rfl rfl rfl
    (repeat (focus (show _ = _; first | exact k1 rfl | exact k2 rfl | (simp only [zz, y7, Nat.reduceAdd, Nat.reduceMul, Nat.reduceLeDiff, Nat.reduceEqDiff, shift, kill, killB, frz, frzB, view, tml, tmlc, List.length_set] <;> exact rfl) | exact rfl)))
    with_reducible apply TO.here
    repeat (first | (with_reducible first | refine mv ?_ | refine m12 rfl ?_ | refine TO.nil ?_) | ((with_reducible first | apply TO.asg | apply TO.mv | apply TO.bin); (repeat (focus (show _ = _; first | exact k1 rfl | exact k2 rfl | (simp only [zz, y7, Nat.reduceAdd, Nat.reduceMul, Nat.reduceLeDiff, Nat.reduceEqDiff] <;> exact rfl) | exact rfl))); (with_reducible refine TO.here ?_)) | ((with_reducible apply TX.region); (focus (simp only [zl] <;> exact rfl)); (focus rfl); (try dsimp only)) | ((with_reducible apply TX.cond_true); (focus rfl); (focus (first | rfl | (simp only [z1, zn]; done)))) | ((with_reducible apply TX.cond_false); (focus rfl); (focus (first | rfl | (simp only [z1, zn]; done)))) | fail)
    rcases Bool.eq_false_or_eq_true ((decide (v6 ≠ 0))) with h2 | h2
    · rw [if_pos h2] at hr
      repeat (first | (with_reducible first | refine mv ?_ | refine m12 rfl ?_ | refine TO.nil ?_) | ((with_reducible first | apply TO.mv | apply TO.asg); (repeat (focus (show _ = _; first | exact k1 rfl | exact k2 rfl | (simp only [zz, y7, Nat.reduceAdd, Nat.reduceMul, Nat.reduceLeDiff, Nat.reduceEqDiff, h2] <;> exact rfl) | exact rfl))); (with_reducible refine TO.here ?_)) | ((with_reducible apply TX.region); (focus (simp only [zl] <;> exact rfl)); (focus rfl); (try dsimp only)) | ((with_reducible apply TX.cond_true); (focus rfl); (focus (first | rfl | (simp only [z1, zn, h2]; done)))) | ((with_reducible apply TX.cond_false); (focus rfl); (focus (first | rfl | (simp only [z1, zn, h2]; done)))) | fail)
      cases hr
      refine ⟨.inr rfl, _, (by simp only [zy, y7, tresAll, tres, tload, rowOf, partT, h2]; exact rfl), ?_⟩
      exact Wk.ren [] rfl .nil (by (repeat (first | exact RNs.nil | refine RNs.cons .junk ?_ | refine RNs.cons (.keep rfl rfl) ?_ | refine RNs.cons (.lsl rfl rfl) ?_ | refine RNs.cons (.lsl rfl (by simp only [List.length_set])) ?_ | refine RNs.cons (.lptr rfl) ?_ | refine RNs.cons (.nil rfl) ?_ | refine RNs.cons .nl ?_ | refine RNs.cons (.keep (by simp only [h2]) rfl) ?_ | refine RNs.cons (.tuple' ?_) ?_ | refine RNs.cons (.agg' ?_) ?_)))
    · rw [if_neg (by rw [h2]; exact Bool.false_ne_true)] at hr
      repeat (first | (with_reducible first | refine mv ?_ | refine m12 rfl ?_ | refine TO.nil ?_) | ((with_reducible first | apply TO.bin | apply TO.mv); (repeat (focus (show _ = _; first | exact k1 rfl | exact k2 rfl | (simp only [zz, y7, Nat.reduceAdd, Nat.reduceMul, Nat.reduceLeDiff, Nat.reduceEqDiff, h2] <;> exact rfl) | exact rfl))); (with_reducible refine TO.here ?_)) | ((with_reducible apply TX.region); (focus (simp only [zl] <;> exact rfl)); (focus rfl); (try dsimp only)) | ((with_reducible apply TX.cond_true); (focus rfl); (focus (first | rfl | (simp only [z1, zn, h2]; done)))) | ((with_reducible apply TX.cond_false); (focus rfl); (focus (first | rfl | (simp only [z1, zn, h2]; done)))) | fail)
      refine TX.unroll ?_
      repeat (first | (with_reducible first | refine mv ?_ | refine m12 rfl ?_ | refine TO.nil ?_) | ((with_reducible first | apply TO.bin | apply TO.ia | apply TO.ld | apply TO.asg | apply TO.mv); (repeat (focus (show _ = _; first | exact k1 rfl | exact k2 rfl | (simp only [zz, y7, Nat.reduceAdd, Nat.reduceMul, Nat.reduceLeDiff, Nat.reduceEqDiff, tindexAddr, z5, Int.reduceToNat, Int.reduceLE, Int.reduceLT, Int.cast_ofNat_Int, tload, rowOf, partT, List.getElem?_map, h2] <;> exact rfl) | exact rfl))); (with_reducible refine TO.here ?_)) | ((with_reducible apply TX.region); (focus (simp only [zl] <;> exact rfl)); (focus rfl); (try dsimp only)) | ((with_reducible apply TX.cond_true); (focus rfl); (focus (first | rfl | (simp only [z1, zn, h2]; done)))) | ((with_reducible apply TX.cond_false); (focus rfl); (focus (first | rfl | (simp only [z1, zn, h2]; done)))) | fail)
      obtain ⟨v7, h3, hr⟩ := Option.bind_eq_some_iff.1 hr
      try dsimp only at hr
      apply TO.cal (by first | rfl | (simp only [twant, z1, zp, zs, h2]; done)) rfl goFn241 (array_counted_c1_b585_spec h3) rfl rfl rfl
      (repeat (focus (show _ = _; first | exact k1 rfl | exact k2 rfl | (simp only [zz, y7, Nat.reduceAdd, Nat.reduceMul, Nat.reduceLeDiff, Nat.reduceEqDiff, shift, kill, killB, frz, frzB, view, tml, tmlc, List.length_set, h2] <;> exact rfl) | exact rfl)))
      with_reducible apply TO.here
      repeat (first | (with_reducible first | refine mv ?_ | refine m12 rfl ?_ | refine TO.nil ?_) | ((with_reducible first | apply TO.asg | apply TO.mv | apply TO.bin); (repeat (focus (show _ = _; first | exact k1 rfl | exact k2 rfl | (simp only [zz, y7, Nat.reduceAdd, Nat.reduceMul, Nat.reduceLeDiff, Nat.reduceEqDiff, h2] <;> exact rfl) | exact rfl))); (with_reducible refine TO.here ?_)) | ((with_reducible apply TX.region); (focus (simp only [zl] <;> exact rfl)); (focus rfl); (try dsimp only)) | ((with_reducible apply TX.cond_true); (focus rfl); (focus (first | rfl | (simp only [z1, zn, h2]; done)))) | ((with_reducible apply TX.cond_false); (focus rfl); (focus (first | rfl | (simp only [z1, zn, h2]; done)))) | fail)
      rcases Bool.eq_false_or_eq_true ((decide (v7 ≠ 0))) with h4 | h4
      · rw [if_pos h4] at hr
        repeat (first | (with_reducible first | refine mv ?_ | refine m12 rfl ?_ | refine TO.nil ?_) | ((with_reducible first | apply TO.mv | apply TO.asg); (repeat (focus (show _ = _; first | exact k1 rfl | exact k2 rfl | (simp only [zz, y7, Nat.reduceAdd, Nat.reduceMul, Nat.reduceLeDiff, Nat.reduceEqDiff, h2, h4] <;> exact rfl) | exact rfl))); (with_reducible refine TO.here ?_)) | ((with_reducible apply TX.region); (focus (simp only [zl] <;> exact rfl)); (focus rfl); (try dsimp only)) | ((with_reducible apply TX.cond_true); (focus rfl); (focus (first | rfl | (simp only [z1, zn, h2, h4]; done)))) | ((with_reducible apply TX.cond_false); (focus rfl); (focus (first | rfl | (simp only [z1, zn, h2, h4]; done)))) | fail)
        cases hr
        refine ⟨.inr rfl, _, (by simp only [zy, y7, tresAll, tres, tload, rowOf, partT, h2, h4]; exact rfl), ?_⟩
        exact Wk.ren [] rfl .nil (by (repeat (first | exact RNs.nil | refine RNs.cons .junk ?_ | refine RNs.cons (.keep rfl rfl) ?_ | refine RNs.cons (.lsl rfl rfl) ?_ | refine RNs.cons (.lsl rfl (by simp only [List.length_set])) ?_ | refine RNs.cons (.lptr rfl) ?_ | refine RNs.cons (.nil rfl) ?_ | refine RNs.cons .nl ?_ | refine RNs.cons (.keep (by simp only [h2, h4]) rfl) ?_ | refine RNs.cons (.tuple' ?_) ?_ | refine RNs.cons (.agg' ?_) ?_)))
      · rw [if_neg (by rw [h4]; exact Bool.false_ne_true)] at hr
        repeat (first | (with_reducible first | refine mv ?_ | refine m12 rfl ?_ | refine TO.nil ?_) | ((with_reducible first | apply TO.bin | apply TO.mv); (repeat (focus (show _ = _; first | exact k1 rfl | exact k2 rfl | (simp only [zz, y7, Nat.reduceAdd, Nat.reduceMul, Nat.reduceLeDiff, Nat.reduceEqDiff, h2, h4] <;> exact rfl) | exact rfl))); (with_reducible refine TO.here ?_)) | ((with_reducible apply TX.region); (focus (simp only [zl] <;> exact rfl)); (focus rfl); (try dsimp only)) | ((with_reducible apply TX.cond_true); (focus rfl); (focus (first | rfl | (simp only [z1, zn, h2, h4]; done)))) | ((with_reducible apply TX.cond_false); (focus rfl); (focus (first | rfl | (simp only [z1, zn, h2, h4]; done)))) | fail)
        refine TX.unroll ?_
        repeat (first | (with_reducible first | refine mv ?_ | refine m12 rfl ?_ | refine TO.nil ?_) | ((with_reducible first | apply TO.bin | apply TO.asg); (repeat (focus (show _ = _; first | exact k1 rfl | exact k2 rfl | (simp only [zz, y7, Nat.reduceAdd, Nat.reduceMul, Nat.reduceLeDiff, Nat.reduceEqDiff, h2, h4] <;> exact rfl) | exact rfl))); (with_reducible refine TO.here ?_)) | ((with_reducible apply TX.region); (focus (simp only [zl] <;> exact rfl)); (focus rfl); (try dsimp only)) | ((with_reducible apply TX.cond_true); (focus rfl); (focus (first | rfl | (simp only [z1, zn, h2, h4]; done)))) | ((with_reducible apply TX.cond_false); (focus rfl); (focus (first | rfl | (simp only [z1, zn, h2, h4]; done)))) | fail)
        cases hr
        refine ⟨.inr rfl, _, (by simp only [zy, y7, tresAll, tres, tload, rowOf, partT, h2, h4]; exact rfl), ?_⟩
        exact Wk.ren [] rfl .nil (by (repeat (first | exact RNs.nil | refine RNs.cons .junk ?_ | refine RNs.cons (.keep rfl rfl) ?_ | refine RNs.cons (.lsl rfl rfl) ?_ | refine RNs.cons (.lsl rfl (by simp only [List.length_set])) ?_ | refine RNs.cons (.lptr rfl) ?_ | refine RNs.cons (.nil rfl) ?_ | refine RNs.cons .nl ?_ | refine RNs.cons (.keep (by simp only [h2, h4]) rfl) ?_ | refine RNs.cons (.tuple' ?_) ?_ | refine RNs.cons (.agg' ?_) ?_)))
  rfl

end Go.Rex

namespace Go.Rex
open Go.Proofs
open Go Go.Rex Go.RowKit
set_option maxRecDepth 100000
theorem array_each_aa71_spec {v1 : Int} {v2 : (List Int)} {v3 : Int} {v4 : Int} {v5 : Int} {v6 : (List Int)} {v7 : Int} {v8 : Int} (hr : array_each_aa71 v1 v2 v3 v4 = some (v5, v6, v7, v8)) : Spec (lim Try.prog) 190 [.v (.int .i64 v1), .func 243 [] [.fptr true [.list 1 (v2.map e_i)] 0, .fptr true [.v (.int .i64 v3)] 0, .fptr true [.v (.int .i64 v4)] 0]] ⟨[.func 222 [] [.fptr true [.v (.int .i64 v5)] 0, .fptr true [.func 243 [] [.fptr true [.list 1 (v6.map e_i)] 0, .fptr true [.v (.int .i64 v7)] 0, .fptr true [.v (.int .i64 v8)] 0]] 0]], []⟩ := by
  unfold array_each_aa71 at hr
  apply Spec.fn Try.func190 rfl
  focus (simp [Try.f190] <;> exact rfl)
  focus
    repeat (first | (with_reducible first | refine mv ?_ | refine m12 rfl ?_ | refine TO.nil ?_) | ((with_reducible first | apply TO.bf | apply TO.asg | apply TO.mf); (repeat (focus (show _ = _; first | exact k1 rfl | exact k2 rfl | (simp only [zz, e_i, Nat.reduceAdd, Nat.reduceMul, Nat.reduceLeDiff, Nat.reduceEqDiff] <;> exact rfl) | exact rfl))); (with_reducible refine TO.here ?_)) | ((with_reducible apply TX.region); (focus (simp only [zl] <;> exact rfl)); (focus rfl); (try dsimp only)) | fail)
    cases hr
    refine ⟨.inr rfl, _, (by simp only [zy, e_i, tresAll, tres, tload, rowOf, partT]; exact rfl), ?_⟩
    exact wr [] rfl .nil
  rfl

end Go.Rex

namespace Go.Rex
open Go.Proofs
open Go Go.Rex Go.RowKit
set_option maxRecDepth 100000
def y8 := an @ag22 <| @so22
theorem array_allWithin_spec {v1 : (List Int)} {v2 : Int} {v3 : Int} {v4 : Int} {v5 : (List Int)} {v6 : Int} {v7 : Int} (hr : array_allWithin v1 v2 v3 = some (v4, v5, v6, v7)) : Spec (lim Try.prog) 221 [.list 1 (v1.map e_i), .v (.int .i64 v2), .v (.int .i64 v3)] ⟨[.func 222 [] [.fptr true [.v (.int .i64 v4)] 0, .fptr true [.func 243 [] [.fptr true [.list 1 (v5.map e_i)] 0, .fptr true [.v (.int .i64 v6)] 0, .fptr true [.v (.int .i64 v7)] 0]] 0]], []⟩ := by
  unfold array_allWithin at hr
  apply Spec.fn Try.func221 rfl
  focus (simp [Try.f221] <;> exact rfl)
  focus
    repeat (first | (with_reducible first | refine mv ?_ | refine m12 rfl ?_ | refine TO.nil ?_) | ((with_reducible first | apply TO.bf | apply TO.asg | apply TO.ld | apply TO.len | apply TO.mf); (repeat (focus (show _ = _; first | exact k1 rfl | exact k2 rfl | (simp only [zz, y8, e_i, Nat.reduceAdd, Nat.reduceMul, Nat.reduceLeDiff, Nat.reduceEqDiff, tload, rowOf, partT, List.getElem?_map, tlen] <;> exact rfl) | exact rfl))); (with_reducible refine TO.here ?_)) | ((with_reducible apply TX.region); (focus (simp only [zl] <;> exact rfl)); (focus rfl); (try dsimp only)) | fail)
    obtain ⟨⟨v8, v9, v10, v11⟩, h1, hr⟩ := Option.bind_eq_some_iff.1 hr
    try dsimp only at hr
    apply TO.cal (by first | rfl | (simp only [twant, z1, zp, zs]; done)) rfl goFn190 (array_each_aa71_spec h1) rfl rfl rfl
    (repeat (focus (show _ = _; first | exact k1 rfl | exact k2 rfl | (simp only [zz, y8, e_i, Nat.reduceAdd, Nat.reduceMul, Nat.reduceLeDiff, Nat.reduceEqDiff, shift, kill, killB, frz, frzB, view, tml, tmlc, List.length_set] <;> exact rfl) | exact rfl)))
    with_reducible apply TO.here
    repeat (first | (with_reducible first | refine mv ?_ | refine m12 rfl ?_ | refine TO.nil ?_) | ((with_reducible first | apply TO.asg); (repeat (focus (show _ = _; first | exact k1 rfl | exact k2 rfl | (simp only [zz, y8, e_i, Nat.reduceAdd, Nat.reduceMul, Nat.reduceLeDiff, Nat.reduceEqDiff] <;> exact rfl) | exact rfl))); (with_reducible refine TO.here ?_)) | ((with_reducible apply TX.region); (focus (simp only [zl] <;> exact rfl)); (focus rfl); (try dsimp only)) | fail)
    cases hr
    refine ⟨.inr rfl, _, (by simp only [zy, y8, e_i, tresAll, tres, tload, rowOf, partT]; exact rfl), ?_⟩
    exact wr [] rfl .nil
  rfl

end Go.Rex

namespace Go.Rex
open Go.Proofs
open Go Go.Rex Go.RowKit
set_option maxRecDepth 100000
def y9 := an @ag3 <| an @cs3 <| an @fd93_0 <| an @fd93_1 <| an @fd93_2 <| an @so22 <| @zc3
theorem array_placed_spec {v1 : Int} {v2 : Int} {v3 : Int} {v4 : Int} {v5 : (List Int)} {v6 : Int} {v7 : Int} (hr : array_placed v1 v2 v3 = some (v4, v5, v6, v7)) : Spec (lim Try.prog) 189 [.agg [.v (.int .i64 v1), .v (.int .i64 v2), .v (.int .i64 v3)]] ⟨[.func 222 [] [.fptr true [.v (.int .i64 v4)] 0, .fptr true [.func 243 [] [.fptr true [.list 1 (v5.map e_i)] 0, .fptr true [.v (.int .i64 v6)] 0, .fptr true [.v (.int .i64 v7)] 0]] 0]], []⟩ := by
  unfold array_placed at hr
  apply Spec.fn Try.func189 rfl
  focus (simp [Try.f189] <;> exact rfl)
  focus
    repeat (first | (with_reducible first | refine mv ?_ | refine m12 rfl ?_ | refine TO.nil ?_) | ((with_reducible first | apply TO.bf | apply TO.asg | apply TO.fa | apply TO.ld); (repeat (focus (show _ = _; first | exact k1 rfl | exact k2 rfl | (simp only [zz, y9, e_i, Nat.reduceAdd, Nat.reduceMul, Nat.reduceLeDiff, Nat.reduceEqDiff, tfieldAddr, tload, rowOf, partT, List.getElem?_map] <;> exact rfl) | exact rfl))); (with_reducible refine TO.here ?_)) | ((with_reducible apply TX.region); (focus (simp only [zl] <;> exact rfl)); (focus rfl); (try dsimp only)) | fail)
    apply TO.bm e_i ([v1, v2, v3] : List Int) (by first | rfl | (simp only [twant, z1, zp, zs]; done)) rfl (by simp only [zz, y9, e_i, Nat.reduceAdd, Nat.reduceMul, Nat.reduceLeDiff, Nat.reduceEqDiff, tslice, tparts]; exact rfl) rfl
    (repeat (focus (show _ = _; first | exact k1 rfl | exact k2 rfl | (simp only [zz, y9, e_i, Nat.reduceAdd, Nat.reduceMul, Nat.reduceLeDiff, Nat.reduceEqDiff, tslice, tparts] <;> exact rfl) | exact rfl)))
    with_reducible apply TO.here
    repeat (first | (with_reducible first | refine mv ?_ | refine m12 rfl ?_ | refine TO.nil ?_) | ((with_reducible apply TX.region); (focus (simp only [zl] <;> exact rfl)); (focus rfl); (try dsimp only)) | fail)
    obtain ⟨⟨v8, v9, v10, v11⟩, h1, hr⟩ := Option.bind_eq_some_iff.1 hr
    try dsimp only at hr
    apply TO.cal (by first | rfl | (simp only [twant, z1, zp, zs]; done)) rfl goFn221 (array_allWithin_spec h1) rfl rfl rfl
    (repeat (focus (show _ = _; first | exact k1 rfl | exact k2 rfl | (simp only [zz, y9, e_i, Nat.reduceAdd, Nat.reduceMul, Nat.reduceLeDiff, Nat.reduceEqDiff, shift, kill, killB, frz, frzB, view, tml, tmlc, List.length_set] <;> exact rfl) | exact rfl)))
    with_reducible apply TO.here
    repeat (first | (with_reducible first | refine mv ?_ | refine m12 rfl ?_ | refine TO.nil ?_) | ((with_reducible first | apply TO.asg); (repeat (focus (show _ = _; first | exact k1 rfl | exact k2 rfl | (simp only [zz, y9, e_i, Nat.reduceAdd, Nat.reduceMul, Nat.reduceLeDiff, Nat.reduceEqDiff] <;> exact rfl) | exact rfl))); (with_reducible refine TO.here ?_)) | ((with_reducible apply TX.region); (focus (simp only [zl] <;> exact rfl)); (focus rfl); (try dsimp only)) | fail)
    cases hr
    refine ⟨.inr rfl, _, (by simp only [zy, y9, e_i, tresAll, tres, tload, rowOf, partT]; exact rfl), ?_⟩
    exact wr [] rfl .nil
  rfl

end Go.Rex

namespace Go.Rex
open Go.Proofs
open Go Go.Rex Go.RowKit
set_option maxRecDepth 100000
theorem array_adjusted_spec {v1 : Int} {v2 : Int} {v3 : Int} {v4 : Int} (hr : array_adjusted v1 v2 = some (v3, v4)) : Spec (lim Try.prog) 220 [.v (.int .i64 v1), .v (.int .i64 v2)] ⟨[.func 242 [] [.fptr true [.v (.int .i64 v3)] 0, .fptr true [.v (.int .i64 v4)] 0]], []⟩ := by
  unfold array_adjusted at hr
  apply Spec.fn Try.func220 rfl
  focus (simp [Try.f220] <;> exact rfl)
  focus
    repeat (first | (with_reducible first | refine mv ?_ | refine m12 rfl ?_ | refine TO.nil ?_) | ((with_reducible first | apply TO.bf | apply TO.asg | apply TO.mf); (repeat (focus (show _ = _; first | exact k1 rfl | exact k2 rfl | (simp only [zz, Nat.reduceAdd, Nat.reduceMul, Nat.reduceLeDiff, Nat.reduceEqDiff] <;> exact rfl) | exact rfl))); (with_reducible refine TO.here ?_)) | ((with_reducible apply TX.region); (focus (simp only [zl] <;> exact rfl)); (focus rfl); (try dsimp only)) | fail)
    cases hr
    refine ⟨.inr rfl, _, (by simp only [zy, tresAll, tres, tload, rowOf, partT]; exact rfl), ?_⟩
    exact wr [] rfl .nil
  rfl

end Go.Rex

namespace Go.Rex
open Go.Proofs
open Go Go.Rex Go.RowKit
set_option maxRecDepth 100000
def y10 := an @ag22 <| an @ag3 <| an @cs3 <| an @ok3 <| @so22
theorem array_allWithin_c1_ea58_spec {v1 : Int} {v2 : (List Int)} {v3 : Int} {v4 : Int} {v5 : Int} (hr : array_allWithin_c1_ea58 v1 v2 v3 v4 = some (v5)) : Spec (lim Try.prog) 243 [.v (.int .i64 v1), .fptr true [.list 1 (v2.map e_i)] 0, .fptr true [.v (.int .i64 v3)] 0, .fptr true [.v (.int .i64 v4)] 0] ⟨[.v (.int .i64 v5)], []⟩ := by
  unfold array_allWithin_c1_ea58 at hr
  apply Spec.fn Try.func243 rfl
  focus (simp [Try.f243] <;> exact rfl)
  focus
    repeat (first | (with_reducible first | refine mv ?_ | refine m12 rfl ?_ | refine TO.nil ?_) | ((with_reducible first | apply TO.asg); (repeat (focus (show _ = _; first | exact k1 rfl | exact k2 rfl | (simp only [zz, y10, e_i, Nat.reduceAdd, Nat.reduceMul, Nat.reduceLeDiff, Nat.reduceEqDiff] <;> exact rfl) | exact rfl))); (with_reducible refine TO.here ?_)) | ((with_reducible apply TX.region); (focus (simp only [zl] <;> exact rfl)); (focus rfl); (try dsimp only)) | with_reducible refine TD.nil ?_ | ((with_reducible first | apply TD.ld | apply TD.ldw | apply TD.mv); (repeat (focus (show _ = _; first | exact k1 rfl | exact k2 rfl | (simp only [zz, y10, e_i, Nat.reduceAdd, Nat.reduceMul, Nat.reduceLeDiff, Nat.reduceEqDiff, tload, rowOf, partT, List.getElem?_map] <;> exact rfl) | exact rfl))); (with_reducible refine TD.here ?_)) | ((with_reducible apply TX.drawn); (focus decide +kernel); (focus (simp only [zl] <;> exact rfl)); (focus exact rfl); (try dsimp only)) | fail)
    obtain ⟨v6, h1, hr⟩ := Option.bind_eq_some_iff.1 hr
    try dsimp only at hr
    have h1m := tidx_map (f := e_i) h1
    have h1l := getI_lt h1
    try simp only [List.length_set] at h1l
    have h1a := getI_at h1
    repeat (first | (with_reducible first | refine mv ?_ | refine m12 rfl ?_ | refine TD.nil ?_) | ((with_reducible first | apply TD.ia | apply TD.ld | apply TD.ldw); (repeat (focus (show _ = _; first | exact k1 rfl | exact k2 rfl | (simp only [zz, y10, e_i, Nat.reduceAdd, Nat.reduceMul, Nat.reduceLeDiff, Nat.reduceEqDiff, tindexAddr, Nat.zero_add, tload, rowOf, partT, List.getElem?_map, h1m, h1l, h1a] <;> exact rfl) | exact rfl))); (with_reducible refine TD.here ?_)) | ((with_reducible apply TX.drawn); (focus decide +kernel); (focus (simp only [zl] <;> exact rfl)); (focus exact rfl); (try dsimp only)) | fail)
    obtain ⟨⟨v7, v8⟩, h2, hr⟩ := Option.bind_eq_some_iff.1 hr
    try dsimp only at hr
    first | apply TD.cal (by first | rfl | (simp only [twant, z1, zp, zs, h1m, h1l, h1a]; done)) rfl goFn240 (array_within_spec h2) rfl rfl rfl | apply TD.calw (by first | rfl | (simp only [twant, z1, zp, zs, h1m, h1l, h1a]; done)) rfl goFn240 (array_within_spec h2) rfl rfl rfl rfl
    (repeat (focus (show _ = _; first | exact k1 rfl | exact k2 rfl | (simp only [zz, y10, e_i, Nat.reduceAdd, Nat.reduceMul, Nat.reduceLeDiff, Nat.reduceEqDiff, shift, kill, killB, frz, frzB, view, tml, tmlc, List.length_set, h1m, h1l, h1a] <;> exact rfl) | exact rfl)))
    with_reducible apply TD.here
    repeat (first | (with_reducible first | refine mv ?_ | refine m12 rfl ?_ | refine TD.nil ?_) | ((with_reducible apply TX.drawn); (focus decide +kernel); (focus (simp only [zl] <;> exact rfl)); (focus exact rfl); (try dsimp only)) | fail)
    obtain ⟨v9, h3, hr⟩ := Option.bind_eq_some_iff.1 hr
    try dsimp only at hr
    first | apply TD.cal (by first | rfl | (simp only [twant, z1, zp, zs, h1m, h1l, h1a]; done)) rfl goFn244 (array_refuse_c1_11f9_spec h3) rfl rfl rfl | apply TD.calw (by first | rfl | (simp only [twant, z1, zp, zs, h1m, h1l, h1a]; done)) rfl goFn244 (array_refuse_c1_11f9_spec h3) rfl rfl rfl rfl
    (repeat (focus (show _ = _; first | exact k1 rfl | exact k2 rfl | (simp only [zz, y10, e_i, Nat.reduceAdd, Nat.reduceMul, Nat.reduceLeDiff, Nat.reduceEqDiff, shift, kill, killB, frz, frzB, view, tml, tmlc, List.length_set, h1m, h1l, h1a] <;> exact rfl) | exact rfl)))
    with_reducible apply TD.here
    repeat (first | (with_reducible first | refine mv ?_ | refine m12 rfl ?_ | refine TD.nil ?_) | ((with_reducible first | apply TD.asg); (repeat (focus (show _ = _; first | exact k1 rfl | exact k2 rfl | (simp only [zz, y10, e_i, Nat.reduceAdd, Nat.reduceMul, Nat.reduceLeDiff, Nat.reduceEqDiff, h1m, h1l, h1a] <;> exact rfl) | exact rfl))); (with_reducible refine TD.here ?_)) | ((with_reducible apply TX.drawn); (focus decide +kernel); (focus (simp only [zl] <;> exact rfl)); (focus exact rfl); (try dsimp only)) | fail)
    cases hr
    refine ⟨.inr rfl, _, (by simp only [zy, y10, e_i, tresAll, tres, tload, rowOf, partT, h1m, h1l, h1a]; exact rfl), ?_⟩
    exact wr [] rfl .nil
  rfl

end Go.Rex

namespace Go.Rex
open Go.Proofs
open Go Go.Rex Go.RowKit
set_option maxRecDepth 100000
def y11 := an @ag157 <| an @ag3 <| @wi64_0a1
theorem array_each_c1_6239_spec {v1 : Int} {v2 : (List Int)} {v3 : Int} {v4 : Int} {v5 : Int} (hr : array_each_c1_6239 v1 v2 v3 v4 = some (v5)) : Spec (lim Try.prog) 222 [.fptr true [.v (.int .i64 v1)] 0, .fptr true [.func 243 [] [.fptr true [.list 1 (v2.map e_i)] 0, .fptr true [.v (.int .i64 v3)] 0, .fptr true [.v (.int .i64 v4)] 0]] 0] ⟨[.v (.int .i64 v5)], []⟩ := by
  unfold array_each_c1_6239 at hr
  apply Spec.fn Try.func222 rfl
  focus (simp [Try.f222] <;> exact rfl)
  focus
    repeat (first | (with_reducible first | refine mv ?_ | refine m12 rfl ?_ | refine TO.nil ?_) | ((with_reducible first | apply TO.asg | apply TO.ld | apply TO.mv); (repeat (focus (show _ = _; first | exact k1 rfl | exact k2 rfl | (simp only [zz, y11, e_i, Nat.reduceAdd, Nat.reduceMul, Nat.reduceLeDiff, Nat.reduceEqDiff, tload, rowOf, partT, List.getElem?_map] <;> exact rfl) | exact rfl))); (with_reducible refine TO.here ?_)) | ((with_reducible apply TX.region); (focus (simp only [zl] <;> exact rfl)); (focus rfl); (try dsimp only)) | fail)
    obtain ⟨v10, h7, hr⟩ := Option.bind_eq_some_iff.1 hr
    refine TX.loopE (step := array_each_c1_6239_l1 v1 v2 v3 v4) (x := 0) h7 (fun v6 => ⟨.junk :: .fptr true [.func 243 [] [.fptr true [.list 1 (v2.map e_i)] 0, .fptr true [.v (.int .i64 v3)] 0, .fptr true [.v (.int .i64 v4)] 0]] 0 :: .junk :: .junk :: .junk :: .v (.int .i64 v1) :: .v (.int .i64 v6) :: .junk :: .junk :: .junk :: .junk :: .junk :: .junk :: .junk :: .junk :: .junk :: [], []⟩) (fun e => match e with | (.inl v8) => (.ret, ⟨.junk :: .junk :: .v (.int .i64 v8) :: .junk :: .junk :: .junk :: .junk :: .junk :: .junk :: .junk :: .junk :: .junk :: .junk :: .junk :: .junk :: .junk :: [], []⟩) | (.inr _) => (.exit 0, ⟨.junk :: .junk :: .junk :: .junk :: .junk :: .junk :: .junk :: .junk :: .junk :: .junk :: .junk :: .junk :: .junk :: .junk :: .junk :: .junk :: [], []⟩)) ?_ ?_ ?_ ?_
    · rintro v6 v0 hr
      dsimp only [array_each_c1_6239_l1] at hr
      try dsimp only
      repeat (first | (with_reducible first | refine mv ?_ | refine m12 rfl ?_ | refine TO.nil ?_) | ((with_reducible first | apply TO.bin); (repeat (focus (show _ = _; first | exact k1 rfl | exact k2 rfl | (simp only [zz, y11, e_i, Nat.reduceAdd, Nat.reduceMul, Nat.reduceLeDiff, Nat.reduceEqDiff] <;> exact rfl) | exact rfl))); (with_reducible refine TO.here ?_)) | ((with_reducible apply TX.region); (focus (simp only [zl] <;> exact rfl)); (focus rfl); (try dsimp only)) | ((with_reducible apply TX.cond_true); (focus rfl); (focus (first | rfl | (simp only [z1, zn]; done)))) | ((with_reducible apply TX.cond_false); (focus rfl); (focus (first | rfl | (simp only [z1, zn]; done)))) | fail)
      rcases Bool.eq_false_or_eq_true ((decide (v6 < v1))) with h4 | h4
      · rw [if_pos h4] at hr
        repeat (first | (with_reducible first | refine mv ?_ | refine m12 rfl ?_ | refine TO.nil ?_) | ((with_reducible first | apply TO.mv | apply TO.asg | apply TO.ld); (repeat (focus (show _ = _; first | exact k1 rfl | exact k2 rfl | (simp only [zz, y11, e_i, Nat.reduceAdd, Nat.reduceMul, Nat.reduceLeDiff, Nat.reduceEqDiff, tload, rowOf, partT, List.getElem?_map, h4] <;> exact rfl) | exact rfl))); (with_reducible refine TO.here ?_)) | ((with_reducible apply TX.region); (focus (simp only [zl] <;> exact rfl)); (focus rfl); (try dsimp only)) | ((with_reducible apply TX.cond_true); (focus rfl); (focus (first | rfl | (simp only [z1, zn, h4]; done)))) | ((with_reducible apply TX.cond_false); (focus rfl); (focus (first | rfl | (simp only [z1, zn, h4]; done)))) | fail)
        obtain ⟨v9, h5, hr⟩ := Option.bind_eq_some_iff.1 hr
        try dsimp only at hr
        apply TO.cal (by first | rfl | (simp only [twant, z1, zp, zs, h4]; done)) rfl goFn243 (array_allWithin_c1_ea58_spec h5) rfl rfl rfl
        (repeat (focus (show _ = _; first | exact k1 rfl | exact k2 rfl | (simp only [zz, y11, e_i, Nat.reduceAdd, Nat.reduceMul, Nat.reduceLeDiff, Nat.reduceEqDiff, shift, kill, killB, frz, frzB, view, tml, tmlc, List.length_set, h4] <;> exact rfl) | exact rfl)))
        with_reducible apply TO.here
        repeat (first | (with_reducible first | refine mv ?_ | refine m12 rfl ?_ | refine TO.nil ?_) | ((with_reducible first | apply TO.asg | apply TO.mv | apply TO.bin); (repeat (focus (show _ = _; first | exact k1 rfl | exact k2 rfl | (simp only [zz, y11, e_i, Nat.reduceAdd, Nat.reduceMul, Nat.reduceLeDiff, Nat.reduceEqDiff, h4] <;> exact rfl) | exact rfl))); (with_reducible refine TO.here ?_)) | ((with_reducible apply TX.region); (focus (simp only [zl] <;> exact rfl)); (focus rfl); (try dsimp only)) | ((with_reducible apply TX.cond_true); (focus rfl); (focus (first | rfl | (simp only [z1, zn, h4]; done)))) | ((with_reducible apply TX.cond_false); (focus rfl); (focus (first | rfl | (simp only [z1, zn, h4]; done)))) | fail)
        rcases Bool.eq_false_or_eq_true ((decide (v9 ≠ 0))) with h6 | h6
        · rw [if_pos h6] at hr
          repeat (first | (with_reducible first | refine mv ?_ | refine m12 rfl ?_ | refine TO.nil ?_) | ((with_reducible first | apply TO.mv | apply TO.asg); (repeat (focus (show _ = _; first | exact k1 rfl | exact k2 rfl | (simp only [zz, y11, e_i, Nat.reduceAdd, Nat.reduceMul, Nat.reduceLeDiff, Nat.reduceEqDiff, h4, h6] <;> exact rfl) | exact rfl))); (with_reducible refine TO.here ?_)) | ((with_reducible apply TX.region); (focus (simp only [zl] <;> exact rfl)); (focus rfl); (try dsimp only)) | ((with_reducible apply TX.cond_true); (focus rfl); (focus (first | rfl | (simp only [z1, zn, h4, h6]; done)))) | ((with_reducible apply TX.cond_false); (focus rfl); (focus (first | rfl | (simp only [z1, zn, h4, h6]; done)))) | fail)
          cases hr
          refine ⟨rfl, ?_⟩
          exact Wk.ren [] rfl .nil (by (repeat (first | exact RNs.nil | refine RNs.cons .junk ?_ | refine RNs.cons (.keep rfl rfl) ?_ | refine RNs.cons (.lsl rfl rfl) ?_ | refine RNs.cons (.lsl rfl (by simp only [List.length_set])) ?_ | refine RNs.cons (.lptr rfl) ?_ | refine RNs.cons (.nil rfl) ?_ | refine RNs.cons .nl ?_ | refine RNs.cons (.keep (by simp only [h4, h6]) rfl) ?_ | refine RNs.cons (.tuple' ?_) ?_ | refine RNs.cons (.agg' ?_) ?_)))
        · rw [if_neg (by rw [h6]; exact Bool.false_ne_true)] at hr
          repeat (first | (with_reducible first | refine mv ?_ | refine m12 rfl ?_ | refine TO.nil ?_) | ((with_reducible first | apply TO.bin | apply TO.mv); (repeat (focus (show _ = _; first | exact k1 rfl | exact k2 rfl | (simp only [zz, y11, e_i, Nat.reduceAdd, Nat.reduceMul, Nat.reduceLeDiff, Nat.reduceEqDiff, h4, h6] <;> exact rfl) | exact rfl))); (with_reducible refine TO.here ?_)) | ((with_reducible apply TX.region); (focus (simp only [zl] <;> exact rfl)); (focus rfl); (try dsimp only)) | ((with_reducible apply TX.cond_true); (focus rfl); (focus (first | rfl | (simp only [z1, zn, h4, h6]; done)))) | ((with_reducible apply TX.cond_false); (focus rfl); (focus (first | rfl | (simp only [z1, zn, h4, h6]; done)))) | fail)
          cases hr
          refine ⟨rfl, ?_⟩
          exact Wk.ren [] rfl .nil (by (repeat (first | exact RNs.nil | refine RNs.cons .junk ?_ | refine RNs.cons (.keep rfl rfl) ?_ | refine RNs.cons (.lsl rfl rfl) ?_ | refine RNs.cons (.lsl rfl (by simp only [List.length_set])) ?_ | refine RNs.cons (.lptr rfl) ?_ | refine RNs.cons (.nil rfl) ?_ | refine RNs.cons .nl ?_ | refine RNs.cons (.keep (by simp only [h4, h6]) rfl) ?_ | refine RNs.cons (.tuple' ?_) ?_ | refine RNs.cons (.agg' ?_) ?_)))
      · rw [if_neg (by rw [h4]; exact Bool.false_ne_true)] at hr
        repeat (first | (with_reducible first | refine mv ?_ | refine m12 rfl ?_) | ((with_reducible apply TX.cond_true); (focus rfl); (focus (first | rfl | (simp only [z1, zn, h4]; done)))) | ((with_reducible apply TX.cond_false); (focus rfl); (focus (first | rfl | (simp only [z1, zn, h4]; done)))) | fail)
        cases hr
        refine ⟨rfl, ?_⟩
        exact Wk.ren [] rfl .nil (by (repeat (first | exact RNs.nil | refine RNs.cons .junk ?_ | refine RNs.cons (.keep rfl rfl) ?_ | refine RNs.cons (.lsl rfl rfl) ?_ | refine RNs.cons (.lsl rfl (by simp only [List.length_set])) ?_ | refine RNs.cons (.lptr rfl) ?_ | refine RNs.cons (.nil rfl) ?_ | refine RNs.cons .nl ?_ | refine RNs.cons (.keep (by simp only [h4]) rfl) ?_ | refine RNs.cons (.tuple' ?_) ?_ | refine RNs.cons (.agg' ?_) ?_)))
    · intro e h; rcases e with _ | e <;> cases h
    · try dsimp only
      rcases v10 with v11 | _
      · try dsimp only at hr
        try dsimp only
        repeat (first | (with_reducible first | refine mv ?_ | refine m12 rfl ?_) | fail)
        cases hr
        refine ⟨.inr rfl, _, (by simp only [zy, y11, e_i, tresAll, tres, tload, rowOf, partT]; exact rfl), ?_⟩
        exact wr [] rfl .nil
      · try dsimp only at hr
        try dsimp only
        repeat (first | (with_reducible first | refine mv ?_ | refine m12 rfl ?_ | refine TO.nil ?_) | ((with_reducible first | apply TO.asg); (repeat (focus (show _ = _; first | exact k1 rfl | exact k2 rfl | (simp only [zz, y11, e_i, Nat.reduceAdd, Nat.reduceMul, Nat.reduceLeDiff, Nat.reduceEqDiff] <;> exact rfl) | exact rfl))); (with_reducible refine TO.here ?_)) | ((with_reducible apply TX.region); (focus (simp only [zl] <;> exact rfl)); (focus rfl); (try dsimp only)) | fail)
        cases hr
        refine ⟨.inr rfl, _, (by simp only [zy, y11, e_i, tresAll, tres, tload, rowOf, partT]; exact rfl), ?_⟩
        exact wr [] rfl .nil
    · try dsimp only
      exact wr [] rfl .nil
  rfl

end Go.Rex

namespace Go.Rex
open Go.Proofs
open Go Go.Rex Go.RowKit
set_option maxRecDepth 100000
def y12 := an @ag3 <| an @cs261 <| an @so260 <| @zc261
theorem array_adjusted_c1_b585_spec {v1 : Int} {v2 : Int} {v3 : Int} (hr : array_adjusted_c1_b585 v1 v2 = some (v3)) : Spec (lim Try.prog) 242 [.fptr true [.v (.int .i64 v1)] 0, .fptr true [.v (.int .i64 v2)] 0] ⟨[.v (.int .i64 v3)], []⟩ := by
  unfold array_adjusted_c1_b585 at hr
  apply Spec.fn Try.func242 rfl
  focus (simp [Try.f242] <;> exact rfl)
  focus
    repeat (first | (with_reducible first | refine mv ?_ | refine m12 rfl ?_ | refine TO.nil ?_) | ((with_reducible first | apply TO.asg); (repeat (focus (show _ = _; first | exact k1 rfl | exact k2 rfl | (simp only [zz, y12, Nat.reduceAdd, Nat.reduceMul, Nat.reduceLeDiff, Nat.reduceEqDiff] <;> exact rfl) | exact rfl))); (with_reducible refine TO.here ?_)) | ((with_reducible apply TX.region); (focus (simp only [zl] <;> exact rfl)); (focus rfl); (try dsimp only)) | with_reducible refine TD.nil ?_ | ((with_reducible first | apply TD.ld | apply TD.ldw); (repeat (focus (show _ = _; first | exact k1 rfl | exact k2 rfl | (simp only [zz, y12, Nat.reduceAdd, Nat.reduceMul, Nat.reduceLeDiff, Nat.reduceEqDiff, tload, rowOf, partT, List.getElem?_map] <;> exact rfl) | exact rfl))); (with_reducible refine TD.here ?_)) | ((with_reducible apply TX.drawn); (focus decide +kernel); (focus (simp only [zl] <;> exact rfl)); (focus exact rfl); (try dsimp only)) | fail)
    obtain ⟨⟨v4, v5⟩, h1, hr⟩ := Option.bind_eq_some_iff.1 hr
    try dsimp only at hr
    first | apply TD.cal (by first | rfl | (simp only [twant, z1, zp, zs]; done)) rfl goFn240 (array_within_spec h1) rfl rfl rfl | apply TD.calw (by first | rfl | (simp only [twant, z1, zp, zs]; done)) rfl goFn240 (array_within_spec h1) rfl rfl rfl rfl
    (repeat (focus (show _ = _; first | exact k1 rfl | exact k2 rfl | (simp only [zz, y12, Nat.reduceAdd, Nat.reduceMul, Nat.reduceLeDiff, Nat.reduceEqDiff, shift, kill, killB, frz, frzB, view, tml, tmlc, List.length_set] <;> exact rfl) | exact rfl)))
    with_reducible apply TD.here
    repeat (first | (with_reducible first | refine mv ?_ | refine m12 rfl ?_ | refine TD.nil ?_) | ((with_reducible first | apply TD.ld | apply TD.ldw); (repeat (focus (show _ = _; first | exact k1 rfl | exact k2 rfl | (simp only [zz, y12, Nat.reduceAdd, Nat.reduceMul, Nat.reduceLeDiff, Nat.reduceEqDiff, tload, rowOf, partT, List.getElem?_map] <;> exact rfl) | exact rfl))); (with_reducible refine TD.here ?_)) | ((with_reducible apply TX.drawn); (focus decide +kernel); (focus (simp only [zl] <;> exact rfl)); (focus exact rfl); (try dsimp only)) | fail)
    obtain ⟨⟨v6, v7⟩, h2, hr⟩ := Option.bind_eq_some_iff.1 hr
    try dsimp only at hr
    first | apply TD.cal (by first | rfl | (simp only [twant, z1, zp, zs]; done)) rfl goFn240 (array_within_spec h2) rfl rfl rfl | apply TD.calw (by first | rfl | (simp only [twant, z1, zp, zs]; done)) rfl goFn240 (array_within_spec h2) rfl rfl rfl rfl
    (repeat (focus (show _ = _; first | exact k1 rfl | exact k2 rfl | (simp only [zz, y12, Nat.reduceAdd, Nat.reduceMul, Nat.reduceLeDiff, Nat.reduceEqDiff, shift, kill, killB, frz, frzB, view, tml, tmlc, List.length_set] <;> exact rfl) | exact rfl)))
    with_reducible apply TD.here
    repeat (first | (with_reducible first | refine mv ?_ | refine m12 rfl ?_ | refine TD.nil ?_) | ((with_reducible first | apply TD.bs); (repeat (focus (show _ = _; first | exact k1 rfl | exact k2 rfl | (simp only [zz, y12, Nat.reduceAdd, Nat.reduceMul, Nat.reduceLeDiff, Nat.reduceEqDiff, tslice, tparts] <;> exact rfl) | exact rfl))); (with_reducible refine TD.here ?_)) | ((with_reducible apply TX.drawn); (focus decide +kernel); (focus (simp only [zl] <;> exact rfl)); (focus exact rfl); (try dsimp only)) | fail)
    obtain ⟨v8, h3, hr⟩ := Option.bind_eq_some_iff.1 hr
    try dsimp only at hr
    first | apply TD.cal (by first | rfl | (simp only [twant, z1, zp, zs]; done)) rfl goFn148 (array_firstError_751b_spec h3) rfl rfl rfl | apply TD.calw (by first | rfl | (simp only [twant, z1, zp, zs]; done)) rfl goFn148 (array_firstError_751b_spec h3) rfl rfl rfl rfl
    (repeat (focus (show _ = _; first | exact k1 rfl | exact k2 rfl | (simp only [zz, y12, Nat.reduceAdd, Nat.reduceMul, Nat.reduceLeDiff, Nat.reduceEqDiff, shift, kill, killB, frz, frzB, view, tml, tmlc, List.length_set] <;> exact rfl) | exact rfl)))
    with_reducible apply TD.here
    repeat (first | (with_reducible first | refine mv ?_ | refine m12 rfl ?_ | refine TD.nil ?_) | ((with_reducible first | apply TD.asg); (repeat (focus (show _ = _; first | exact k1 rfl | exact k2 rfl | (simp only [zz, y12, Nat.reduceAdd, Nat.reduceMul, Nat.reduceLeDiff, Nat.reduceEqDiff] <;> exact rfl) | exact rfl))); (with_reducible refine TD.here ?_)) | ((with_reducible apply TX.drawn); (focus decide +kernel); (focus (simp only [zl] <;> exact rfl)); (focus exact rfl); (try dsimp only)) | fail)
    cases hr
    refine ⟨.inr rfl, _, (by simp only [zy, y12, tresAll, tres, tload, rowOf, partT]; exact rfl), ?_⟩
    exact wr [] rfl .nil
  rfl

end Go.Rex

namespace Go.Rex
open Go.Proofs
open Go Go.Rex Go.RowKit
set_option maxRecDepth 100000
def y13 := an @ag261 <| an @cs261 <| an @ok261 <| an @so260 <| an @wi64_0a1 <| @wi64_1a1
theorem array_firstError_34f2_spec {v1 : Int} {v2 : (List Int)} {v3 : Int} {v4 : Int} {v5 : Int} {v6 : Int} {v7 : Int} (hr : array_firstError_34f2 v1 v2 v3 v4 v5 v6 = some (v7)) : Spec (lim Try.prog) 148 [.list 1 [[.func 222 [] [.fptr true [.v (.int .i64 v1)] 0, .fptr true [.func 243 [] [.fptr true [.list 1 (v2.map e_i)] 0, .fptr true [.v (.int .i64 v3)] 0, .fptr true [.v (.int .i64 v4)] 0]] 0]], [.func 242 [] [.fptr true [.v (.int .i64 v5)] 0, .fptr true [.v (.int .i64 v6)] 0]]]] ⟨[.v (.int .i64 v7)], []⟩ := by
  unfold array_firstError_34f2 at hr
  apply Spec.fn Try.func148 rfl
  focus (simp [Try.f148] <;> exact rfl)
  focus
    repeat (first | (with_reducible first | refine mv ?_ | refine m12 rfl ?_ | refine TO.nil ?_) | ((with_reducible first | apply TO.asg | apply TO.mv | apply TO.len); (repeat (focus (show _ = _; first | exact k1 rfl | exact k2 rfl | (simp only [zz, y13, e_i, Nat.reduceAdd, Nat.reduceMul, Nat.reduceLeDiff, Nat.reduceEqDiff, tlen] <;> exact rfl) | exact rfl))); (with_reducible refine TO.here ?_)) | ((with_reducible apply TX.region); (focus (simp only [zl] <;> exact rfl)); (focus rfl); (try dsimp only)) | fail)
    refine TX.unroll ?_
    repeat (first | (with_reducible first | refine mv ?_ | refine m12 rfl ?_ | refine TO.nil ?_) | ((with_reducible first | apply TO.bin | apply TO.ia | apply TO.ld | apply TO.asg | apply TO.mv); (repeat (focus (show _ = _; first | exact k1 rfl | exact k2 rfl | (simp only [zz, y13, e_i, Nat.reduceAdd, Nat.reduceMul, Nat.reduceLeDiff, Nat.reduceEqDiff, tindexAddr, z5, Int.reduceToNat, Int.reduceLE, Int.reduceLT, Int.cast_ofNat_Int, tload, rowOf, partT, List.getElem?_map] <;> exact rfl) | exact rfl))); (with_reducible refine TO.here ?_)) | ((with_reducible apply TX.region); (focus (simp only [zl] <;> exact rfl)); (focus rfl); (try dsimp only)) | ((with_reducible apply TX.cond_true); (focus rfl); (focus (first | rfl | (simp only [z1, zn]; done)))) | ((with_reducible apply TX.cond_false); (focus rfl); (focus (first | rfl | (simp only [z1, zn]; done)))) | fail)
    obtain ⟨v8, h1, hr⟩ := Option.bind_eq_some_iff.1 hr
    try dsimp only at hr
    apply TO.cal (by first | rfl | (simp only [twant, z1, zp, zs]; done)) rfl goFn222 (array_each_c1_6239_spec h1) rfl rfl rfl
    (repeat (focus (show _ = _; first | exact k1 rfl | exact k2 rfl | (simp only [zz, y13, e_i, Nat.reduceAdd, Nat.reduceMul, Nat.reduceLeDiff, Nat.reduceEqDiff, shift, kill, killB, frz, frzB, view, tml, tmlc, List.length_set] <;> exact rfl) | exact rfl)))
    with_reducible apply TO.here
    repeat (first | (with_reducible first | refine mv ?_ | refine m12 rfl ?_ | refine TO.nil ?_) | ((with_reducible first | apply TO.asg | apply TO.mv | apply TO.bin); (repeat (focus (show _ = _; first | exact k1 rfl | exact k2 rfl | (simp only [zz, y13, e_i, Nat.reduceAdd, Nat.reduceMul, Nat.reduceLeDiff, Nat.reduceEqDiff] <;> exact rfl) | exact rfl))); (with_reducible refine TO.here ?_)) | ((with_reducible apply TX.region); (focus (simp only [zl] <;> exact rfl)); (focus rfl); (try dsimp only)) | ((with_reducible apply TX.cond_true); (focus rfl); (focus (first | rfl | (simp only [z1, zn]; done)))) | ((with_reducible apply TX.cond_false); (focus rfl); (focus (first | rfl | (simp only [z1, zn]; done)))) | fail)
    rcases Bool.eq_false_or_eq_true ((decide (v8 ≠ 0))) with h2 | h2
    · rw [if_pos h2] at hr
      repeat (first | (with_reducible first | refine mv ?_ | refine m12 rfl ?_ | refine TO.nil ?_) | ((with_reducible first | apply TO.mv | apply TO.asg); (repeat (focus (show _ = _; first | exact k1 rfl | exact k2 rfl | (simp only [zz, y13, e_i, Nat.reduceAdd, Nat.reduceMul, Nat.reduceLeDiff, Nat.reduceEqDiff, h2] <;> exact rfl) | exact rfl))); (with_reducible refine TO.here ?_)) | ((with_reducible apply TX.region); (focus (simp only [zl] <;> exact rfl)); (focus rfl); (try dsimp only)) | ((with_reducible apply TX.cond_true); (focus rfl); (focus (first | rfl | (simp only [z1, zn, h2]; done)))) | ((with_reducible apply TX.cond_false); (focus rfl); (focus (first | rfl | (simp only [z1, zn, h2]; done)))) | fail)
      cases hr
      refine ⟨.inr rfl, _, (by simp only [zy, y13, e_i, tresAll, tres, tload, rowOf, partT, h2]; exact rfl), ?_⟩
      exact Wk.ren [] rfl .nil (by (repeat (first | exact RNs.nil | refine RNs.cons .junk ?_ | refine RNs.cons (.keep rfl rfl) ?_ | refine RNs.cons (.lsl rfl rfl) ?_ | refine RNs.cons (.lsl rfl (by simp only [List.length_set])) ?_ | refine RNs.cons (.lptr rfl) ?_ | refine RNs.cons (.nil rfl) ?_ | refine RNs.cons .nl ?_ | refine RNs.cons (.keep (by simp only [h2]) rfl) ?_ | refine RNs.cons (.tuple' ?_) ?_ | refine RNs.cons (.agg' ?_) ?_)))
    · rw [if_neg (by rw [h2]; exact Bool.false_ne_true)] at hr
      repeat (first | (with_reducible first | refine mv ?_ | refine m12 rfl ?_ | refine TO.nil ?_) | ((with_reducible first | apply TO.bin | apply TO.mv); (repeat (focus (show _ = _; first | exact k1 rfl | exact k2 rfl | (simp only [zz, y13, e_i, Nat.reduceAdd, Nat.reduceMul, Nat.reduceLeDiff, Nat.reduceEqDiff, h2] <;> exact rfl) | exact rfl))); (with_reducible refine TO.here ?_)) | ((with_reducible apply TX.region); (focus (simp only [zl] <;> exact rfl)); (focus rfl); (try dsimp only)) | ((with_reducible apply TX.cond_true); (focus rfl); (focus (first | rfl | (simp only [z1, zn, h2]; done)))) | ((with_reducible apply TX.cond_false); (focus rfl); (focus (first | rfl | (simp only [z1, zn, h2]; done)))) | fail)
      refine TX.unroll ?_
      repeat (first | (with_reducible first | refine mv ?_ | refine m12 rfl ?_ | refine TO.nil ?_) | ((with_reducible first | apply TO.bin | apply TO.ia | apply TO.ld | apply TO.asg | apply TO.mv); (repeat (focus (show _ = _; first | exact k1 rfl | exact k2 rfl | (simp only [zz, y13, e_i, Nat.reduceAdd, Nat.reduceMul, Nat.reduceLeDiff, Nat.reduceEqDiff, tindexAddr, z5, Int.reduceToNat, Int.reduceLE, Int.reduceLT, Int.cast_ofNat_Int, tload, rowOf, partT, List.getElem?_map, h2] <;> exact rfl) | exact rfl))); (with_reducible refine TO.here ?_)) | ((with_reducible apply TX.region); (focus (simp only [zl] <;> exact rfl)); (focus rfl); (try dsimp only)) | ((with_reducible apply TX.cond_true); (focus rfl); (focus (first | rfl | (simp only [z1, zn, h2]; done)))) | ((with_reducible apply TX.cond_false); (focus rfl); (focus (first | rfl | (simp only [z1, zn, h2]; done)))) | fail)
      obtain ⟨v9, h3, hr⟩ := Option.bind_eq_some_iff.1 hr
      try dsimp only at hr
      apply TO.cal (by first | rfl | (simp only [twant, z1, zp, zs, h2]; done)) rfl goFn242 (array_adjusted_c1_b585_spec h3) rfl rfl rfl
      (repeat (focus (show _ = _; first | exact k1 rfl | exact k2 rfl | (simp only [zz, y13, e_i, Nat.reduceAdd, Nat.reduceMul, Nat.reduceLeDiff, Nat.reduceEqDiff, shift, kill, killB, frz, frzB, view, tml, tmlc, List.length_set, h2] <;> exact rfl) | exact rfl)))
      with_reducible apply TO.here
      repeat (first | (with_reducible first | refine mv ?_ | refine m12 rfl ?_ | refine TO.nil ?_) | ((with_reducible first | apply TO.asg | apply TO.mv | apply TO.bin); (repeat (focus (show _ = _; first | exact k1 rfl | exact k2 rfl | (simp only [zz, y13, e_i, Nat.reduceAdd, Nat.reduceMul, Nat.reduceLeDiff, Nat.reduceEqDiff, h2] <;> exact rfl) | exact rfl))); (with_reducible refine TO.here ?_)) | ((with_reducible apply TX.region); (focus (simp only [zl] <;> exact rfl)); (focus rfl); (try dsimp only)) | ((with_reducible apply TX.cond_true); (focus rfl); (focus (first | rfl | (simp only [z1, zn, h2]; done)))) | ((with_reducible apply TX.cond_false); (focus rfl); (focus (first | rfl | (simp only [z1, zn, h2]; done)))) | fail)
      rcases Bool.eq_false_or_eq_true ((decide (v9 ≠ 0))) with h4 | h4
      · rw [if_pos h4] at hr
        repeat (first | (with_reducible first | refine mv ?_ | refine m12 rfl ?_ | refine TO.nil ?_) | ((with_reducible first | apply TO.mv | apply TO.asg); (repeat (focus (show _ = _; first | exact k1 rfl | exact k2 rfl | (simp only [zz, y13, e_i, Nat.reduceAdd, Nat.reduceMul, Nat.reduceLeDiff, Nat.reduceEqDiff, h2, h4] <;> exact rfl) | exact rfl))); (with_reducible refine TO.here ?_)) | ((with_reducible apply TX.region); (focus (simp only [zl] <;> exact rfl)); (focus rfl); (try dsimp only)) | ((with_reducible apply TX.cond_true); (focus rfl); (focus (first | rfl | (simp only [z1, zn, h2, h4]; done)))) | ((with_reducible apply TX.cond_false); (focus rfl); (focus (first | rfl | (simp only [z1, zn, h2, h4]; done)))) | fail)
        cases hr
        refine ⟨.inr rfl, _, (by simp only [zy, y13, e_i, tresAll, tres, tload, rowOf, partT, h2, h4]; exact rfl), ?_⟩
        exact Wk.ren [] rfl .nil (by (repeat (first | exact RNs.nil | refine RNs.cons .junk ?_ | refine RNs.cons (.keep rfl rfl) ?_ | refine RNs.cons (.lsl rfl rfl) ?_ | refine RNs.cons (.lsl rfl (by simp only [List.length_set])) ?_ | refine RNs.cons (.lptr rfl) ?_ | refine RNs.cons (.nil rfl) ?_ | refine RNs.cons .nl ?_ | refine RNs.cons (.keep (by simp only [h2, h4]) rfl) ?_ | refine RNs.cons (.tuple' ?_) ?_ | refine RNs.cons (.agg' ?_) ?_)))
      · rw [if_neg (by rw [h4]; exact Bool.false_ne_true)] at hr
        repeat (first | (with_reducible first | refine mv ?_ | refine m12 rfl ?_ | refine TO.nil ?_) | ((with_reducible first | apply TO.bin | apply TO.mv); (repeat (focus (show _ = _; first | exact k1 rfl | exact k2 rfl | (simp only [zz, y13, e_i, Nat.reduceAdd, Nat.reduceMul, Nat.reduceLeDiff, Nat.reduceEqDiff, h2, h4] <;> exact rfl) | exact rfl))); (with_reducible refine TO.here ?_)) | ((with_reducible apply TX.region); (focus (simp only [zl] <;> exact rfl)); (focus rfl); (try dsimp only)) | ((with_reducible apply TX.cond_true); (focus rfl); (focus (first | rfl | (simp only [z1, zn, h2, h4]; done)))) | ((with_reducible apply TX.cond_false); (focus rfl); (focus (first | rfl | (simp only [z1, zn, h2, h4]; done)))) | fail)
        refine TX.unroll ?_
        repeat (first | (with_reducible first | refine mv ?_ | refine m12 rfl ?_ | refine TO.nil ?_) | ((with_reducible first | apply TO.bin | apply TO.asg); (repeat (focus (show _ = _; first | exact k1 rfl | exact k2 rfl | (simp only [zz, y13, e_i, Nat.reduceAdd, Nat.reduceMul, Nat.reduceLeDiff, Nat.reduceEqDiff, h2, h4] <;> exact rfl) | exact rfl))); (with_reducible refine TO.here ?_)) | ((with_reducible apply TX.region); (focus (simp only [zl] <;> exact rfl)); (focus rfl); (try dsimp only)) | ((with_reducible apply TX.cond_true); (focus rfl); (focus (first | rfl | (simp only [z1, zn, h2, h4]; done)))) | ((with_reducible apply TX.cond_false); (focus rfl); (focus (first | rfl | (simp only [z1, zn, h2, h4]; done)))) | fail)
        cases hr
        refine ⟨.inr rfl, _, (by simp only [zy, y13, e_i, tresAll, tres, tload, rowOf, partT, h2, h4]; exact rfl), ?_⟩
        exact Wk.ren [] rfl .nil (by (repeat (first | exact RNs.nil | refine RNs.cons .junk ?_ | refine RNs.cons (.keep rfl rfl) ?_ | refine RNs.cons (.lsl rfl rfl) ?_ | refine RNs.cons (.lsl rfl (by simp only [List.length_set])) ?_ | refine RNs.cons (.lptr rfl) ?_ | refine RNs.cons (.nil rfl) ?_ | refine RNs.cons .nl ?_ | refine RNs.cons (.keep (by simp only [h2, h4]) rfl) ?_ | refine RNs.cons (.tuple' ?_) ?_ | refine RNs.cons (.agg' ?_) ?_)))
  rfl

end Go.Rex

namespace Go.Rex
open Go.Proofs
open Go Go.Rex Go.RowKit
set_option maxRecDepth 100000
def y14 := an @ag171 <| an @ag3 <| an @ag89 <| an @ag91 <| an @ag93 <| an @ag98 <| an @cs171 <| an @cs261 <| an @cs91 <| an @cs93 <| an @cs98 <| an @fd171_0 <| an @fd91_2 <| an @fd98_0 <| an @fd98_1 <| an @fd98_2 <| an @ok171 <| an @ok91 <| an @ok93 <| an @ok98 <| an @so260 <| an @so89 <| an @st171 <| an @zc171 <| an @zc261 <| an @zc98 <| @wi64_0a1
theorem array_CheckArray_spec {v1 : Int} {v2 : Int} {v3 : (List (Int × Int × Int × Int × Int))} {v4 : Int} {v5 : Int} (hr : array_CheckArray v1 v2 v3 = some (v4, v5)) : Spec (lim Try.prog) 188 [.agg [.v (.int .i64 v1), .v (.int .i64 v2), .list 5 (v3.map e_iiiii)]] ⟨[.tuple [.v (.int .i64 v4), .v (.int .i64 v5)]], []⟩ := by
  unfold array_CheckArray at hr
  apply Spec.fn Try.func188 rfl
  focus (simp [Try.f188] <;> exact rfl)
  focus
    repeat (first | (with_reducible first | refine mv ?_ | refine m12 rfl ?_ | refine TO.nil ?_) | ((with_reducible first | apply TO.bf | apply TO.asg | apply TO.ld | apply TO.bld | apply TO.al | apply TO.sv); (repeat (focus (show _ = _; first | exact k1 rfl | exact k2 rfl | (simp only [zz, y14, e_iiiii, Nat.reduceAdd, Nat.reduceMul, Nat.reduceLeDiff, Nat.reduceEqDiff, tload, rowOf, partT, List.getElem?_map, tbuild, tfill] <;> exact rfl) | exact rfl))); (with_reducible refine TO.here ?_)) | ((with_reducible apply TX.region); (focus (simp only [zl] <;> exact rfl)); (focus rfl); (try dsimp only)) | with_reducible refine TD.nil ?_ | ((with_reducible first | apply TD.ld | apply TD.ldw); (repeat (focus (show _ = _; first | exact k1 rfl | exact k2 rfl | (simp only [zz, y14, e_iiiii, Nat.reduceAdd, Nat.reduceMul, Nat.reduceLeDiff, Nat.reduceEqDiff, tload, rowOf, partT, List.getElem?_map] <;> exact rfl) | exact rfl))); (with_reducible refine TD.here ?_)) | ((with_reducible apply TX.drawn); (focus decide +kernel); (focus (simp only [zl] <;> exact rfl)); (focus exact rfl); (try dsimp only)) | fail)
    obtain ⟨⟨v6, v7⟩, h1, hr⟩ := Option.bind_eq_some_iff.1 hr
    try dsimp only at hr
    first | apply TD.cal (by first | rfl | (simp only [twant, z1, zp, zs]; done)) rfl goFn195 (array_rig_sound_spec h1) rfl rfl rfl | apply TD.calw (by first | rfl | (simp only [twant, z1, zp, zs]; done)) rfl goFn195 (array_rig_sound_spec h1) rfl rfl rfl rfl
    (repeat (focus (show _ = _; first | exact k1 rfl | exact k2 rfl | (simp only [zz, y14, e_iiiii, Nat.reduceAdd, Nat.reduceMul, Nat.reduceLeDiff, Nat.reduceEqDiff, shift, kill, killB, frz, frzB, view, tml, tmlc, List.length_set] <;> exact rfl) | exact rfl)))
    with_reducible apply TD.here
    repeat (first | (with_reducible first | refine mv ?_ | refine m12 rfl ?_ | refine TD.nil ?_) | ((with_reducible apply TX.drawn); (focus decide +kernel); (focus (simp only [zl] <;> exact rfl)); (focus exact rfl); (try dsimp only)) | fail)
    obtain ⟨⟨v8, v9⟩, h2, hr⟩ := Option.bind_eq_some_iff.1 hr
    try dsimp only at hr
    first | apply TD.cal (by first | rfl | (simp only [twant, z1, zp, zs]; done)) rfl goFn218 (array_audible_spec h2) rfl rfl rfl | apply TD.calw (by first | rfl | (simp only [twant, z1, zp, zs]; done)) rfl goFn218 (array_audible_spec h2) rfl rfl rfl rfl
    (repeat (focus (show _ = _; first | exact k1 rfl | exact k2 rfl | (simp only [zz, y14, e_iiiii, Nat.reduceAdd, Nat.reduceMul, Nat.reduceLeDiff, Nat.reduceEqDiff, shift, kill, killB, frz, frzB, view, tml, tmlc, List.length_set] <;> exact rfl) | exact rfl)))
    with_reducible apply TD.here
    repeat (first | (with_reducible first | refine mv ?_ | refine m12 rfl ?_ | refine TD.nil ?_) | ((with_reducible first | apply TD.fa | apply TD.ld | apply TD.ldw | apply TD.len); (repeat (focus (show _ = _; first | exact k1 rfl | exact k2 rfl | (simp only [zz, y14, e_iiiii, Nat.reduceAdd, Nat.reduceMul, Nat.reduceLeDiff, Nat.reduceEqDiff, tfieldAddr, tload, rowOf, partT, List.getElem?_map, tlen] <;> exact rfl) | exact rfl))); (with_reducible refine TD.here ?_)) | ((with_reducible apply TX.drawn); (focus decide +kernel); (focus (simp only [zl] <;> exact rfl)); (focus exact rfl); (try dsimp only)) | fail)
    obtain ⟨⟨v10, v11⟩, h3, hr⟩ := Option.bind_eq_some_iff.1 hr
    try dsimp only at hr
    first | apply TD.cal (by first | rfl | (simp only [twant, z1, zp, zs]; done)) rfl goFn219 (array_counted_spec h3) rfl rfl rfl | apply TD.calw (by first | rfl | (simp only [twant, z1, zp, zs]; done)) rfl goFn219 (array_counted_spec h3) rfl rfl rfl rfl
    (repeat (focus (show _ = _; first | exact k1 rfl | exact k2 rfl | (simp only [zz, y14, e_iiiii, Nat.reduceAdd, Nat.reduceMul, Nat.reduceLeDiff, Nat.reduceEqDiff, shift, kill, killB, frz, frzB, view, tml, tmlc, List.length_set] <;> exact rfl) | exact rfl)))
    with_reducible apply TD.here
    repeat (first | (with_reducible first | refine mv ?_ | refine m12 rfl ?_ | refine TD.nil ?_) | ((with_reducible first | apply TD.bs); (repeat (focus (show _ = _; first | exact k1 rfl | exact k2 rfl | (simp only [zz, y14, e_iiiii, Nat.reduceAdd, Nat.reduceMul, Nat.reduceLeDiff, Nat.reduceEqDiff, tslice, tparts] <;> exact rfl) | exact rfl))); (with_reducible refine TD.here ?_)) | ((with_reducible apply TX.drawn); (focus decide +kernel); (focus (simp only [zl] <;> exact rfl)); (focus exact rfl); (try dsimp only)) | fail)
    obtain ⟨v12, h4, hr⟩ := Option.bind_eq_some_iff.1 hr
    try dsimp only at hr
    first | apply TD.cal (by first | rfl | (simp only [twant, z1, zp, zs]; done)) rfl goFn148 (array_firstError_2e50_spec h4) rfl rfl rfl | apply TD.calw (by first | rfl | (simp only [twant, z1, zp, zs]; done)) rfl goFn148 (array_firstError_2e50_spec h4) rfl rfl rfl rfl
    (repeat (focus (show _ = _; first | exact k1 rfl | exact k2 rfl | (simp only [zz, y14, e_iiiii, Nat.reduceAdd, Nat.reduceMul, Nat.reduceLeDiff, Nat.reduceEqDiff, shift, kill, killB, frz, frzB, view, tml, tmlc, List.length_set] <;> exact rfl) | exact rfl)))
    with_reducible apply TD.here
    repeat (first | (with_reducible first | refine mv ?_ | refine m12 rfl ?_ | refine TO.nil ?_) | ((with_reducible first | apply TO.mv | apply TO.bin); (repeat (focus (show _ = _; first | exact k1 rfl | exact k2 rfl | (simp only [zz, y14, e_iiiii, Nat.reduceAdd, Nat.reduceMul, Nat.reduceLeDiff, Nat.reduceEqDiff] <;> exact rfl) | exact rfl))); (with_reducible refine TO.here ?_)) | ((with_reducible apply TX.region); (focus (simp only [zl] <;> exact rfl)); (focus rfl); (try dsimp only)) | with_reducible refine TD.nil ?_ | ((with_reducible first | apply TD.asg); (repeat (focus (show _ = _; first | exact k1 rfl | exact k2 rfl | (simp only [zz, y14, e_iiiii, Nat.reduceAdd, Nat.reduceMul, Nat.reduceLeDiff, Nat.reduceEqDiff] <;> exact rfl) | exact rfl))); (with_reducible refine TD.here ?_)) | ((with_reducible apply TX.drawn); (focus decide +kernel); (focus (simp only [zl] <;> exact rfl)); (focus exact rfl); (try dsimp only)) | ((with_reducible apply TX.cond_true); (focus rfl); (focus (first | rfl | (simp only [z1, zn]; done)))) | ((with_reducible apply TX.cond_false); (focus rfl); (focus (first | rfl | (simp only [z1, zn]; done)))) | fail)
    rcases Bool.eq_false_or_eq_true ((decide (v12 ≠ 0))) with h5 | h5
    · rw [if_pos h5] at hr
      repeat (first | (with_reducible first | refine mv ?_ | refine m12 rfl ?_ | refine TO.nil ?_) | ((with_reducible first | apply TO.mv | apply TO.asg); (repeat (focus (show _ = _; first | exact k1 rfl | exact k2 rfl | (simp only [zz, y14, e_iiiii, Nat.reduceAdd, Nat.reduceMul, Nat.reduceLeDiff, Nat.reduceEqDiff, h5] <;> exact rfl) | exact rfl))); (with_reducible refine TO.here ?_)) | ((with_reducible apply TX.region); (focus (simp only [zl] <;> exact rfl)); (focus rfl); (try dsimp only)) | ((with_reducible apply TX.cond_true); (focus rfl); (focus (first | rfl | (simp only [z1, zn, h5]; done)))) | ((with_reducible apply TX.cond_false); (focus rfl); (focus (first | rfl | (simp only [z1, zn, h5]; done)))) | fail)
      cases hr
      refine ⟨.inr rfl, _, (by simp only [zy, y14, e_iiiii, tresAll, tres, tload, rowOf, partT, h5]; exact rfl), ?_⟩
      exact Wk.ren [] rfl .nil (by (repeat (first | exact RNs.nil | refine RNs.cons .junk ?_ | refine RNs.cons (.keep rfl rfl) ?_ | refine RNs.cons (.lsl rfl rfl) ?_ | refine RNs.cons (.lsl rfl (by simp only [List.length_set])) ?_ | refine RNs.cons (.lptr rfl) ?_ | refine RNs.cons (.nil rfl) ?_ | refine RNs.cons .nl ?_ | refine RNs.cons (.keep (by simp only [h5]) rfl) ?_ | refine RNs.cons (.tuple' ?_) ?_ | refine RNs.cons (.agg' ?_) ?_)))
    · rw [if_neg (by rw [h5]; exact Bool.false_ne_true)] at hr
      repeat (first | (with_reducible first | refine mv ?_ | refine m12 rfl ?_ | refine TO.nil ?_) | ((with_reducible first | apply TO.fa | apply TO.ld | apply TO.len | apply TO.mv); (repeat (focus (show _ = _; first | exact k1 rfl | exact k2 rfl | (simp only [zz, y14, e_iiiii, Nat.reduceAdd, Nat.reduceMul, Nat.reduceLeDiff, Nat.reduceEqDiff, tfieldAddr, tload, rowOf, partT, List.getElem?_map, tlen, h5] <;> exact rfl) | exact rfl))); (with_reducible refine TO.here ?_)) | ((with_reducible apply TX.region); (focus (simp only [zl] <;> exact rfl)); (focus rfl); (try dsimp only)) | ((with_reducible apply TX.cond_true); (focus rfl); (focus (first | rfl | (simp only [z1, zn, h5]; done)))) | ((with_reducible apply TX.cond_false); (focus rfl); (focus (first | rfl | (simp only [z1, zn, h5]; done)))) | fail)
      obtain ⟨v40, h18, hr⟩ := Option.bind_eq_some_iff.1 hr
      refine TX.loopE (step := array_CheckArray_l1 v3) (x := 0) h18 (fun v13 => ⟨.junk :: .junk :: .junk :: .junk :: .junk :: .junk :: .junk :: .junk :: .junk :: .junk :: .junk :: .junk :: .junk :: .junk :: .junk :: .junk :: .junk :: .junk :: .junk :: .junk :: .junk :: .junk :: .junk :: .junk :: .junk :: .junk :: .list 5 (v3.map e_iiiii) :: .v (.int .i64 (v3.length : Int)) :: .v (.int .i64 v13) :: .junk :: .junk :: .junk :: .junk :: .junk :: .junk :: .junk :: .junk :: .junk :: .junk :: .junk :: .junk :: .junk :: .junk :: .junk :: .junk :: .junk :: .junk :: .junk :: [], []⟩) (fun e => match e with | (.inl (v26, v27)) => (.ret, ⟨.junk :: .junk :: .v (.int .i64 v26) :: .v (.int .i64 v27) :: .junk :: .junk :: .junk :: .junk :: .junk :: .junk :: .junk :: .junk :: .junk :: .junk :: .junk :: .junk :: .junk :: .junk :: .junk :: .junk :: .junk :: .junk :: .junk :: .junk :: .junk :: .junk :: .junk :: .junk :: .junk :: .junk :: .junk :: .junk :: .junk :: .junk :: .junk :: .junk :: .junk :: .junk :: .junk :: .junk :: .junk :: .junk :: .junk :: .junk :: .junk :: .junk :: .junk :: .junk :: [], []⟩) | (.inr _) => (.exit 0, ⟨.junk :: .junk :: .junk :: .junk :: .junk :: .junk :: .junk :: .junk :: .junk :: .junk :: .junk :: .junk :: .junk :: .junk :: .junk :: .junk :: .junk :: .junk :: .junk :: .junk :: .junk :: .junk :: .junk :: .junk :: .junk :: .junk :: .junk :: .junk :: .junk :: .junk :: .junk :: .junk :: .junk :: .junk :: .junk :: .junk :: .junk :: .junk :: .junk :: .junk :: .junk :: .junk :: .junk :: .junk :: .junk :: .junk :: .junk :: .junk :: [], []⟩)) ?_ ?_ ?_ ?_
      · rintro v13 v0 hr
        dsimp only [array_CheckArray_l1] at hr
        try dsimp only
        repeat (first | (with_reducible first | refine mv ?_ | refine m12 rfl ?_ | refine TO.nil ?_) | ((with_reducible first | apply TO.bin); (repeat (focus (show _ = _; first | exact k1 rfl | exact k2 rfl | (simp only [zz, y14, e_iiiii, Nat.reduceAdd, Nat.reduceMul, Nat.reduceLeDiff, Nat.reduceEqDiff, h5] <;> exact rfl) | exact rfl))); (with_reducible refine TO.here ?_)) | ((with_reducible apply TX.region); (focus (simp only [zl] <;> exact rfl)); (focus rfl); (try dsimp only)) | ((with_reducible apply TX.cond_true); (focus rfl); (focus (first | rfl | (simp only [z1, zn, h5]; done)))) | ((with_reducible apply TX.cond_false); (focus rfl); (focus (first | rfl | (simp only [z1, zn, h5]; done)))) | fail)
        rcases Bool.eq_false_or_eq_true ((decide (v13 < (v3.length : Int)))) with h12 | h12
        · rw [if_pos h12] at hr
          repeat (first | (with_reducible first | refine mv ?_ | refine m12 rfl ?_ | refine TO.nil ?_) | ((with_reducible first | apply TO.mv); (repeat (focus (show _ = _; first | exact k1 rfl | exact k2 rfl | (simp only [zz, y14, e_iiiii, Nat.reduceAdd, Nat.reduceMul, Nat.reduceLeDiff, Nat.reduceEqDiff, h5, h12] <;> exact rfl) | exact rfl))); (with_reducible refine TO.here ?_)) | ((with_reducible apply TX.region); (focus (simp only [zl] <;> exact rfl)); (focus rfl); (try dsimp only)) | ((with_reducible apply TX.cond_true); (focus rfl); (focus (first | rfl | (simp only [z1, zn, h5, h12]; done)))) | ((with_reducible apply TX.cond_false); (focus rfl); (focus (first | rfl | (simp only [z1, zn, h5, h12]; done)))) | fail)
          obtain ⟨⟨v28, v29, v30, v31, v32⟩, h13, hr⟩ := Option.bind_eq_some_iff.1 hr
          try dsimp only at hr
          have h13m := tidx_map (f := e_iiiii) h13
          have h13l := getI_lt h13
          try simp only [List.length_set] at h13l
          have h13a := getI_at h13
          repeat (first | (with_reducible first | refine mv ?_ | refine m12 rfl ?_ | refine TO.nil ?_) | ((with_reducible first | apply TO.ia | apply TO.ld | apply TO.al | apply TO.asg | apply TO.sv); (repeat (focus (show _ = _; first | exact k1 rfl | exact k2 rfl | (simp only [zz, y14, e_iiiii, Nat.reduceAdd, Nat.reduceMul, Nat.reduceLeDiff, Nat.reduceEqDiff, tindexAddr, Nat.zero_add, tload, rowOf, partT, List.getElem?_map, h5, h12, h13m, h13l, h13a] <;> exact rfl) | exact rfl))); (with_reducible refine TO.here ?_)) | ((with_reducible apply TX.region); (focus (simp only [zl] <;> exact rfl)); (focus rfl); (try dsimp only)) | with_reducible refine TD.nil ?_ | ((with_reducible first | apply TD.fa | apply TD.ld | apply TD.ldw); (repeat (focus (show _ = _; first | exact k1 rfl | exact k2 rfl | (simp only [zz, y14, e_iiiii, Nat.reduceAdd, Nat.reduceMul, Nat.reduceLeDiff, Nat.reduceEqDiff, tfieldAddr, tload, rowOf, partT, List.getElem?_map, h5, h12, h13m, h13l, h13a] <;> exact rfl) | exact rfl))); (with_reducible refine TD.here ?_)) | ((with_reducible apply TX.drawn); (focus decide +kernel); (focus (simp only [zl] <;> exact rfl)); (focus exact rfl); (try dsimp only)) | fail)
          obtain ⟨⟨v33, v34, v35, v36⟩, h14, hr⟩ := Option.bind_eq_some_iff.1 hr
          try dsimp only at hr
          first | apply TD.cal (by first | rfl | (simp only [twant, z1, zp, zs, h5, h12, h13m, h13l, h13a]; done)) rfl goFn189 (array_placed_spec h14) rfl rfl rfl | apply TD.calw (by first | rfl | (simp only [twant, z1, zp, zs, h5, h12, h13m, h13l, h13a]; done)) rfl goFn189 (array_placed_spec h14) rfl rfl rfl rfl
          (repeat (focus (show _ = _; first | exact k1 rfl | exact k2 rfl | (simp only [zz, y14, e_iiiii, Nat.reduceAdd, Nat.reduceMul, Nat.reduceLeDiff, Nat.reduceEqDiff, shift, kill, killB, frz, frzB, view, tml, tmlc, List.length_set, h5, h12, h13m, h13l, h13a] <;> exact rfl) | exact rfl)))
          with_reducible apply TD.here
          repeat (first | (with_reducible first | refine mv ?_ | refine m12 rfl ?_ | refine TD.nil ?_) | ((with_reducible first | apply TD.fa | apply TD.ld | apply TD.ldw); (repeat (focus (show _ = _; first | exact k1 rfl | exact k2 rfl | (simp only [zz, y14, e_iiiii, Nat.reduceAdd, Nat.reduceMul, Nat.reduceLeDiff, Nat.reduceEqDiff, tfieldAddr, tload, rowOf, partT, List.getElem?_map, h5, h12, h13m, h13l, h13a] <;> exact rfl) | exact rfl))); (with_reducible refine TD.here ?_)) | ((with_reducible apply TX.drawn); (focus decide +kernel); (focus (simp only [zl] <;> exact rfl)); (focus exact rfl); (try dsimp only)) | fail)
          obtain ⟨⟨v37, v38⟩, h15, hr⟩ := Option.bind_eq_some_iff.1 hr
          try dsimp only at hr
          first | apply TD.cal (by first | rfl | (simp only [twant, z1, zp, zs, h5, h12, h13m, h13l, h13a]; done)) rfl goFn220 (array_adjusted_spec h15) rfl rfl rfl | apply TD.calw (by first | rfl | (simp only [twant, z1, zp, zs, h5, h12, h13m, h13l, h13a]; done)) rfl goFn220 (array_adjusted_spec h15) rfl rfl rfl rfl
          (repeat (focus (show _ = _; first | exact k1 rfl | exact k2 rfl | (simp only [zz, y14, e_iiiii, Nat.reduceAdd, Nat.reduceMul, Nat.reduceLeDiff, Nat.reduceEqDiff, shift, kill, killB, frz, frzB, view, tml, tmlc, List.length_set, h5, h12, h13m, h13l, h13a] <;> exact rfl) | exact rfl)))
          with_reducible apply TD.here
          repeat (first | (with_reducible first | refine mv ?_ | refine m12 rfl ?_ | refine TD.nil ?_) | ((with_reducible first | apply TD.bs); (repeat (focus (show _ = _; first | exact k1 rfl | exact k2 rfl | (simp only [zz, y14, e_iiiii, Nat.reduceAdd, Nat.reduceMul, Nat.reduceLeDiff, Nat.reduceEqDiff, tslice, tparts, h5, h12, h13m, h13l, h13a] <;> exact rfl) | exact rfl))); (with_reducible refine TD.here ?_)) | ((with_reducible apply TX.drawn); (focus decide +kernel); (focus (simp only [zl] <;> exact rfl)); (focus exact rfl); (try dsimp only)) | fail)
          obtain ⟨v39, h16, hr⟩ := Option.bind_eq_some_iff.1 hr
          try dsimp only at hr
          first | apply TD.cal (by first | rfl | (simp only [twant, z1, zp, zs, h5, h12, h13m, h13l, h13a]; done)) rfl goFn148 (array_firstError_34f2_spec h16) rfl rfl rfl | apply TD.calw (by first | rfl | (simp only [twant, z1, zp, zs, h5, h12, h13m, h13l, h13a]; done)) rfl goFn148 (array_firstError_34f2_spec h16) rfl rfl rfl rfl
          (repeat (focus (show _ = _; first | exact k1 rfl | exact k2 rfl | (simp only [zz, y14, e_iiiii, Nat.reduceAdd, Nat.reduceMul, Nat.reduceLeDiff, Nat.reduceEqDiff, shift, kill, killB, frz, frzB, view, tml, tmlc, List.length_set, h5, h12, h13m, h13l, h13a] <;> exact rfl) | exact rfl)))
          with_reducible apply TD.here
          repeat (first | (with_reducible first | refine mv ?_ | refine m12 rfl ?_ | refine TO.nil ?_) | ((with_reducible first | apply TO.mv | apply TO.bin); (repeat (focus (show _ = _; first | exact k1 rfl | exact k2 rfl | (simp only [zz, y14, e_iiiii, Nat.reduceAdd, Nat.reduceMul, Nat.reduceLeDiff, Nat.reduceEqDiff, h5, h12, h13m, h13l, h13a] <;> exact rfl) | exact rfl))); (with_reducible refine TO.here ?_)) | ((with_reducible apply TX.region); (focus (simp only [zl] <;> exact rfl)); (focus rfl); (try dsimp only)) | with_reducible refine TD.nil ?_ | ((with_reducible first | apply TD.asg); (repeat (focus (show _ = _; first | exact k1 rfl | exact k2 rfl | (simp only [zz, y14, e_iiiii, Nat.reduceAdd, Nat.reduceMul, Nat.reduceLeDiff, Nat.reduceEqDiff, h5, h12, h13m, h13l, h13a] <;> exact rfl) | exact rfl))); (with_reducible refine TD.here ?_)) | ((with_reducible apply TX.drawn); (focus decide +kernel); (focus (simp only [zl] <;> exact rfl)); (focus exact rfl); (try dsimp only)) | ((with_reducible apply TX.cond_true); (focus rfl); (focus (first | rfl | (simp only [z1, zn, h5, h12, h13m, h13l, h13a]; done)))) | ((with_reducible apply TX.cond_false); (focus rfl); (focus (first | rfl | (simp only [z1, zn, h5, h12, h13m, h13l, h13a]; done)))) | fail)
          rcases Bool.eq_false_or_eq_true ((decide (v39 ≠ 0))) with h17 | h17
          · rw [if_pos h17] at hr
            repeat (first | (with_reducible first | refine mv ?_ | refine m12 rfl ?_ | refine TO.nil ?_) | ((with_reducible first | apply TO.mv | apply TO.asg); (repeat (focus (show _ = _; first | exact k1 rfl | exact k2 rfl | (simp only [zz, y14, e_iiiii, Nat.reduceAdd, Nat.reduceMul, Nat.reduceLeDiff, Nat.reduceEqDiff, h5, h12, h13m, h13l, h13a, h17] <;> exact rfl) | exact rfl))); (with_reducible refine TO.here ?_)) | ((with_reducible apply TX.region); (focus (simp only [zl] <;> exact rfl)); (focus rfl); (try dsimp only)) | ((with_reducible apply TX.cond_true); (focus rfl); (focus (first | rfl | (simp only [z1, zn, h5, h12, h13m, h13l, h13a, h17]; done)))) | ((with_reducible apply TX.cond_false); (focus rfl); (focus (first | rfl | (simp only [z1, zn, h5, h12, h13m, h13l, h13a, h17]; done)))) | fail)
            cases hr
            refine ⟨rfl, ?_⟩
            exact Wk.ren [] rfl .nil (by (repeat (first | exact RNs.nil | refine RNs.cons .junk ?_ | refine RNs.cons (.keep rfl rfl) ?_ | refine RNs.cons (.lsl rfl rfl) ?_ | refine RNs.cons (.lsl rfl (by simp only [List.length_set])) ?_ | refine RNs.cons (.lptr rfl) ?_ | refine RNs.cons (.nil rfl) ?_ | refine RNs.cons .nl ?_ | refine RNs.cons (.keep (by simp only [h5, h12, h17]) rfl) ?_ | refine RNs.cons (.tuple' ?_) ?_ | refine RNs.cons (.agg' ?_) ?_)))
          · rw [if_neg (by rw [h17]; exact Bool.false_ne_true)] at hr
            repeat (first | (with_reducible first | refine mv ?_ | refine m12 rfl ?_ | refine TO.nil ?_) | ((with_reducible first | apply TO.bin | apply TO.mv); (repeat (focus (show _ = _; first | exact k1 rfl | exact k2 rfl | (simp only [zz, y14, e_iiiii, Nat.reduceAdd, Nat.reduceMul, Nat.reduceLeDiff, Nat.reduceEqDiff, h5, h12, h13m, h13l, h13a, h17] <;> exact rfl) | exact rfl))); (with_reducible refine TO.here ?_)) | ((with_reducible apply TX.region); (focus (simp only [zl] <;> exact rfl)); (focus rfl); (try dsimp only)) | ((with_reducible apply TX.cond_true); (focus rfl); (focus (first | rfl | (simp only [z1, zn, h5, h12, h13m, h13l, h13a, h17]; done)))) | ((with_reducible apply TX.cond_false); (focus rfl); (focus (first | rfl | (simp only [z1, zn, h5, h12, h13m, h13l, h13a, h17]; done)))) | fail)
            cases hr
            refine ⟨rfl, ?_⟩
            exact Wk.ren [] rfl .nil (by (repeat (first | exact RNs.nil | refine RNs.cons .junk ?_ | refine RNs.cons (.keep rfl rfl) ?_ | refine RNs.cons (.lsl rfl rfl) ?_ | refine RNs.cons (.lsl rfl (by simp only [List.length_set])) ?_ | refine RNs.cons (.lptr rfl) ?_ | refine RNs.cons (.nil rfl) ?_ | refine RNs.cons .nl ?_ | refine RNs.cons (.keep (by simp only [h5, h12, h17]) rfl) ?_ | refine RNs.cons (.tuple' ?_) ?_ | refine RNs.cons (.agg' ?_) ?_)))
        · rw [if_neg (by rw [h12]; exact Bool.false_ne_true)] at hr
          repeat (first | (with_reducible first | refine mv ?_ | refine m12 rfl ?_) | ((with_reducible apply TX.cond_true); (focus rfl); (focus (first | rfl | (simp only [z1, zn, h5, h12]; done)))) | ((with_reducible apply TX.cond_false); (focus rfl); (focus (first | rfl | (simp only [z1, zn, h5, h12]; done)))) | fail)
          cases hr
          refine ⟨rfl, ?_⟩
          exact Wk.ren [] rfl .nil (by (repeat (first | exact RNs.nil | refine RNs.cons .junk ?_ | refine RNs.cons (.keep rfl rfl) ?_ | refine RNs.cons (.lsl rfl rfl) ?_ | refine RNs.cons (.lsl rfl (by simp only [List.length_set])) ?_ | refine RNs.cons (.lptr rfl) ?_ | refine RNs.cons (.nil rfl) ?_ | refine RNs.cons .nl ?_ | refine RNs.cons (.keep (by simp only [h5, h12]) rfl) ?_ | refine RNs.cons (.tuple' ?_) ?_ | refine RNs.cons (.agg' ?_) ?_)))
      · intro e h; rcases e with _ | e <;> cases h
      · try dsimp only
        rcases v40 with ⟨v41, v42⟩ | _
        · try dsimp only at hr
          try dsimp only
          repeat (first | (with_reducible first | refine mv ?_ | refine m12 rfl ?_) | fail)
          cases hr
          refine ⟨.inr rfl, _, (by simp only [zy, y14, e_iiiii, tresAll, tres, tload, rowOf, partT, h5]; exact rfl), ?_⟩
          exact Wk.ren [] rfl .nil (by (repeat (first | exact RNs.nil | refine RNs.cons .junk ?_ | refine RNs.cons (.keep rfl rfl) ?_ | refine RNs.cons (.lsl rfl rfl) ?_ | refine RNs.cons (.lsl rfl (by simp only [List.length_set])) ?_ | refine RNs.cons (.lptr rfl) ?_ | refine RNs.cons (.nil rfl) ?_ | refine RNs.cons .nl ?_ | refine RNs.cons (.keep (by simp only [h5]) rfl) ?_ | refine RNs.cons (.tuple' ?_) ?_ | refine RNs.cons (.agg' ?_) ?_)))
        · try dsimp only at hr
          try dsimp only
          repeat (first | (with_reducible first | refine mv ?_ | refine m12 rfl ?_ | refine TO.nil ?_) | ((with_reducible first | apply TO.asg); (repeat (focus (show _ = _; first | exact k1 rfl | exact k2 rfl | (simp only [zz, y14, e_iiiii, Nat.reduceAdd, Nat.reduceMul, Nat.reduceLeDiff, Nat.reduceEqDiff, h5] <;> exact rfl) | exact rfl))); (with_reducible refine TO.here ?_)) | ((with_reducible apply TX.region); (focus (simp only [zl] <;> exact rfl)); (focus rfl); (try dsimp only)) | fail)
          cases hr
          refine ⟨.inr rfl, _, (by simp only [zy, y14, e_iiiii, tresAll, tres, tload, rowOf, partT, h5]; exact rfl), ?_⟩
          exact Wk.ren [] rfl .nil (by (repeat (first | exact RNs.nil | refine RNs.cons .junk ?_ | refine RNs.cons (.keep rfl rfl) ?_ | refine RNs.cons (.lsl rfl rfl) ?_ | refine RNs.cons (.lsl rfl (by simp only [List.length_set])) ?_ | refine RNs.cons (.lptr rfl) ?_ | refine RNs.cons (.nil rfl) ?_ | refine RNs.cons .nl ?_ | refine RNs.cons (.keep (by simp only [h5]) rfl) ?_ | refine RNs.cons (.tuple' ?_) ?_ | refine RNs.cons (.agg' ?_) ?_)))
      · try dsimp only
        exact Wk.ren [] rfl .nil (by (repeat (first | exact RNs.nil | refine RNs.cons .junk ?_ | refine RNs.cons (.keep rfl rfl) ?_ | refine RNs.cons (.lsl rfl rfl) ?_ | refine RNs.cons (.lsl rfl (by simp only [List.length_set])) ?_ | refine RNs.cons (.lptr rfl) ?_ | refine RNs.cons (.nil rfl) ?_ | refine RNs.cons .nl ?_ | refine RNs.cons (.keep (by simp only [h5]) rfl) ?_ | refine RNs.cons (.tuple' ?_) ?_ | refine RNs.cons (.agg' ?_) ?_)))
  rfl

end Go.Rex

namespace Go.Rex
open Go.Proofs
open Go Go.Rex Go.RowKit
set_option maxRecDepth 100000
def y15 := an @ag91 <| an @cs91 <| an @fd171_0 <| @ok91
theorem array_rig_check_spec {v1 : Int} {v2 : Int} {v3 : (List (Int × Int × Int × Int × Int))} {v4 : Int} (hr : array_rig_check v1 v2 v3 = some (v4)) : Spec (lim Try.prog) 149 [.agg [.v (.int .i64 v1), .v (.int .i64 v2), .list 5 (v3.map e_iiiii)]] ⟨[.v (.int .i64 v4)], []⟩ := by
  unfold array_rig_check at hr
  apply Spec.fn Try.func149 rfl
  focus (simp [Try.f149] <;> exact rfl)
  focus
    repeat (first | (with_reducible first | refine mv ?_ | refine m12 rfl ?_ | refine TO.nil ?_) | ((with_reducible first | apply TO.bf | apply TO.asg | apply TO.fa | apply TO.ld); (repeat (focus (show _ = _; first | exact k1 rfl | exact k2 rfl | (simp only [zz, y15, e_iiiii, Nat.reduceAdd, Nat.reduceMul, Nat.reduceLeDiff, Nat.reduceEqDiff, tfieldAddr, tload, rowOf, partT, List.getElem?_map] <;> exact rfl) | exact rfl))); (with_reducible refine TO.here ?_)) | ((with_reducible apply TX.region); (focus (simp only [zl] <;> exact rfl)); (focus rfl); (try dsimp only)) | fail)
    obtain ⟨⟨v5, v6⟩, h1, hr⟩ := Option.bind_eq_some_iff.1 hr
    try dsimp only at hr
    apply TO.cal (by first | rfl | (simp only [twant, z1, zp, zs]; done)) rfl goFn188 (array_CheckArray_spec h1) rfl rfl rfl
    (repeat (focus (show _ = _; first | exact k1 rfl | exact k2 rfl | (simp only [zz, y15, e_iiiii, Nat.reduceAdd, Nat.reduceMul, Nat.reduceLeDiff, Nat.reduceEqDiff, shift, kill, killB, frz, frzB, view, tml, tmlc, List.length_set] <;> exact rfl) | exact rfl)))
    with_reducible apply TO.here
    repeat (first | (with_reducible first | refine mv ?_ | refine m12 rfl ?_ | refine TO.nil ?_) | ((with_reducible first | apply TO.mv | apply TO.ext | apply TO.asg); (repeat (focus (show _ = _; first | exact k1 rfl | exact k2 rfl | (simp only [zz, y15, e_iiiii, Nat.reduceAdd, Nat.reduceMul, Nat.reduceLeDiff, Nat.reduceEqDiff] <;> exact rfl) | exact rfl))); (with_reducible refine TO.here ?_)) | ((with_reducible apply TX.region); (focus (simp only [zl] <;> exact rfl)); (focus rfl); (try dsimp only)) | fail)
    cases hr
    refine ⟨.inr rfl, _, (by simp only [zy, y15, e_iiiii, tresAll, tres, tload, rowOf, partT]; exact rfl), ?_⟩
    exact wr [] rfl .nil
  rfl

end Go.Rex

namespace Go.Rex
open Go.Proofs
open Go Go.Rex Go.RowKit
set_option maxRecDepth 100000
theorem array_each_a530_spec {v1 : Int} {v2 : Int} {v3 : Int} {v4 : (List (Int × Int × Int × Int × Int))} {v5 : Int} {v6 : Int} {v7 : Int} {v8 : Int} {v9 : Int} {v10 : Int} {v11 : (List (Int × Int × Int × Int × Int))} {v12 : Int} {v13 : Int} {v14 : Int} (hr : array_each_a530 v1 v2 v3 v4 v5 v6 v7 = some (v8, v9, v10, v11, v12, v13, v14)) : Spec (lim Try.prog) 190 [.v (.int .i64 v1), .func 191 [] [.fptr true [.v (.int .i64 v2), .v (.int .i64 v3), .list 5 (v4.map e_iiiii), .v (.int .i64 v5), .v (.int .i64 v6), .v (.int .i64 v7)] 0]] ⟨[.func 222 [] [.fptr true [.v (.int .i64 v8)] 0, .fptr true [.func 191 [] [.fptr true [.v (.int .i64 v9), .v (.int .i64 v10), .list 5 (v11.map e_iiiii), .v (.int .i64 v12), .v (.int .i64 v13), .v (.int .i64 v14)] 0]] 0]], []⟩ := by
  unfold array_each_a530 at hr
  apply Spec.fn Try.func190 rfl
  focus (simp [Try.f190] <;> exact rfl)
  focus
    repeat (first | (with_reducible first | refine mv ?_ | refine m12 rfl ?_ | refine TO.nil ?_) | ((with_reducible first | apply TO.bf | apply TO.asg | apply TO.mf); (repeat (focus (show _ = _; first | exact k1 rfl | exact k2 rfl | (simp only [zz, e_iiiii, Nat.reduceAdd, Nat.reduceMul, Nat.reduceLeDiff, Nat.reduceEqDiff] <;> exact rfl) | exact rfl))); (with_reducible refine TO.here ?_)) | ((with_reducible apply TX.region); (focus (simp only [zl] <;> exact rfl)); (focus rfl); (try dsimp only)) | fail)
    cases hr
    refine ⟨.inr rfl, _, (by simp only [zy, e_iiiii, tresAll, tres, tload, rowOf, partT]; exact rfl), ?_⟩
    exact wr [] rfl .nil
  rfl

end Go.Rex

namespace Go.Rex
open Go.Proofs
open Go Go.Rex Go.RowKit
set_option maxRecDepth 100000
def y16 := an @ag266 <| an @ag93 <| an @cs266 <| an @cs93 <| an @fd173_1 <| an @fd98_0 <| an @ok266 <| an @ok93 <| an @st266 <| @zc266
theorem array_heard_wayFrom_spec {v1 : Int} {v2 : Int} {v3 : (List (Int × Int × Int × Int × Int))} {v4 : Int} {v5 : Int} {v6 : Int} {v7 : Int} {v8 : Int} {v9 : Int} {v10 : Int} {v11 : Int} {v12 : Int} {v13 : Int} {v14 : Int} {v15 : Int} {v16 : Int} {v17 : Int} (hr : array_heard_wayFrom v1 v2 v3 v4 v5 v6 v7 v8 v9 v10 v11 = some (v12, v13, v14, v15, v16, v17)) : Spec (lim Try.prog) 192 [.agg [.v (.int .i64 v1), .v (.int .i64 v2), .list 5 (v3.map e_iiiii), .v (.int .i64 v4), .v (.int .i64 v5), .v (.int .i64 v6)], .agg [.v (.int .i64 v7), .v (.int .i64 v8), .v (.int .i64 v9), .v (.int .i64 v10), .v (.int .i64 v11)]] ⟨[.agg [.v (.int .i64 v12), .v (.int .i64 v13), .v (.int .i64 v14), .v (.int .i64 v15), .v (.int .i64 v16), .v (.int .i64 v17)]], []⟩ := by
  unfold array_heard_wayFrom at hr
  apply Spec.fn Try.func192 rfl
  focus (simp [Try.f192] <;> exact rfl)
  focus
    repeat (first | (with_reducible first | refine mv ?_ | refine m12 rfl ?_ | refine TO.nil ?_) | ((with_reducible first | apply TO.bf | apply TO.al | apply TO.fa | apply TO.ld | apply TO.bld | apply TO.sv); (repeat (focus (show _ = _; first | exact k1 rfl | exact k2 rfl | (simp only [zz, y16, e_iiiii, Nat.reduceAdd, Nat.reduceMul, Nat.reduceLeDiff, Nat.reduceEqDiff, tfieldAddr, tload, rowOf, partT, List.getElem?_map, tbuild, tfill] <;> exact rfl) | exact rfl))); (with_reducible refine TO.here ?_)) | ((with_reducible apply TX.region); (focus (simp only [zl] <;> exact rfl)); (focus rfl); (try dsimp only)) | fail)
    cases hr
    refine ⟨.inr rfl, _, (by simp only [zy, y16, e_iiiii, tresAll, tres, tload, rowOf, partT]; exact rfl), ?_⟩
    exact wr [] rfl .nil
  rfl

end Go.Rex

namespace Go.Rex
open Go.Proofs
open Go Go.Rex Go.RowKit
set_option maxRecDepth 100000
def y17 := an @ag3 <| an @fd266_0 <| an @fd266_1 <| an @fd93_0 <| an @fd93_1 <| @fd93_2
theorem array_way_square_spec {v1 : Int} {v2 : Int} {v3 : Int} {v4 : Int} {v5 : Int} {v6 : Int} {v7 : Int} (hr : array_way_square v1 v2 v3 v4 v5 v6 = some (v7)) : Spec (lim Try.prog) 224 [.agg [.v (.int .i64 v1), .v (.int .i64 v2), .v (.int .i64 v3), .v (.int .i64 v4), .v (.int .i64 v5), .v (.int .i64 v6)]] ⟨[.v (.int .i64 v7)], []⟩ := by
  unfold array_way_square at hr
  apply Spec.fn Try.func224 rfl
  focus (simp [Try.f224] <;> exact rfl)
  focus
    repeat (first | (with_reducible first | refine mv ?_ | refine m12 rfl ?_ | refine TO.nil ?_) | ((with_reducible first | apply TO.bf | apply TO.asg | apply TO.mv | apply TO.bin); (repeat (focus (show _ = _; first | exact k1 rfl | exact k2 rfl | (simp only [zz, y17, Nat.reduceAdd, Nat.reduceMul, Nat.reduceLeDiff, Nat.reduceEqDiff] <;> exact rfl) | exact rfl))); (with_reducible refine TO.here ?_)) | ((with_reducible apply TX.region); (focus (simp only [zl] <;> exact rfl)); (focus rfl); (try dsimp only)) | with_reducible refine TD.nil ?_ | ((with_reducible first | apply TD.fa | apply TD.ld | apply TD.ldw | apply TD.bin | apply TD.asg); (repeat (focus (show _ = _; first | exact k1 rfl | exact k2 rfl | (simp only [zz, y17, Nat.reduceAdd, Nat.reduceMul, Nat.reduceLeDiff, Nat.reduceEqDiff, tfieldAddr, tload, rowOf, partT, List.getElem?_map] <;> exact rfl) | exact rfl))); (with_reducible refine TD.here ?_)) | ((with_reducible apply TX.drawn); (focus decide +kernel); (focus (simp only [zl] <;> exact rfl)); (focus exact rfl); (try dsimp only)) | fail)
    cases hr
    refine ⟨.inr rfl, _, (by simp only [zy, y17, tresAll, tres, tload, rowOf, partT]; exact rfl), ?_⟩
    exact wr [] rfl .nil
  rfl

end Go.Rex

namespace Go.Rex
open Go.Proofs
open Go Go.Rex Go.RowKit
set_option maxRecDepth 100000
def y18 := an @ag266 <| an @cs266 <| @ok266
theorem array_way_apart_spec {v1 : Int} {v2 : Int} {v3 : Int} {v4 : Int} {v5 : Int} {v6 : Int} {v7 : Int} (hr : array_way_apart v1 v2 v3 v4 v5 v6 = some (v7)) : Spec (lim Try.prog) 193 [.agg [.v (.int .i64 v1), .v (.int .i64 v2), .v (.int .i64 v3), .v (.int .i64 v4), .v (.int .i64 v5), .v (.int .i64 v6)]] ⟨[.v (.int .i64 v7)], []⟩ := by
  unfold array_way_apart at hr
  apply Spec.fn Try.func193 rfl
  focus (simp [Try.f193] <;> exact rfl)
  focus
    repeat (first | (with_reducible first | refine mv ?_ | refine m12 rfl ?_ | refine TO.nil ?_) | ((with_reducible first | apply TO.bf | apply TO.asg | apply TO.ld); (repeat (focus (show _ = _; first | exact k1 rfl | exact k2 rfl | (simp only [zz, y18, Nat.reduceAdd, Nat.reduceMul, Nat.reduceLeDiff, Nat.reduceEqDiff, tload, rowOf, partT, List.getElem?_map] <;> exact rfl) | exact rfl))); (with_reducible refine TO.here ?_)) | ((with_reducible apply TX.region); (focus (simp only [zl] <;> exact rfl)); (focus rfl); (try dsimp only)) | fail)
    obtain ⟨v8, h1, hr⟩ := Option.bind_eq_some_iff.1 hr
    try dsimp only at hr
    apply TO.cal (by first | rfl | (simp only [twant, z1, zp, zs]; done)) rfl goFn224 (array_way_square_spec h1) rfl rfl rfl
    (repeat (focus (show _ = _; first | exact k1 rfl | exact k2 rfl | (simp only [zz, y18, Nat.reduceAdd, Nat.reduceMul, Nat.reduceLeDiff, Nat.reduceEqDiff, shift, kill, killB, frz, frzB, view, tml, tmlc, List.length_set] <;> exact rfl) | exact rfl)))
    with_reducible apply TO.here
    repeat (first | (with_reducible first | refine mv ?_ | refine m12 rfl ?_ | refine TO.nil ?_) | ((with_reducible first | apply TO.bin); (repeat (focus (show _ = _; first | exact k1 rfl | exact k2 rfl | (simp only [zz, y18, Nat.reduceAdd, Nat.reduceMul, Nat.reduceLeDiff, Nat.reduceEqDiff] <;> exact rfl) | exact rfl))); (with_reducible refine TO.here ?_)) | ((with_reducible apply TX.region); (focus (simp only [zl] <;> exact rfl)); (focus rfl); (try dsimp only)) | fail)
    obtain ⟨⟨v9, v10⟩, h2, hr⟩ := Option.bind_eq_some_iff.1 hr
    try dsimp only at hr
    apply TO.cal (by first | rfl | (simp only [twant, z1, zp, zs]; done)) rfl goFn223 (array_refuse_spec h2) rfl rfl rfl
    (repeat (focus (show _ = _; first | exact k1 rfl | exact k2 rfl | (simp only [zz, y18, Nat.reduceAdd, Nat.reduceMul, Nat.reduceLeDiff, Nat.reduceEqDiff, shift, kill, killB, frz, frzB, view, tml, tmlc, List.length_set] <;> exact rfl) | exact rfl)))
    with_reducible apply TO.here
    repeat (first | (with_reducible first | refine mv ?_ | refine m12 rfl ?_ | refine TO.nil ?_) | ((with_reducible apply TX.region); (focus (simp only [zl] <;> exact rfl)); (focus rfl); (try dsimp only)) | fail)
    obtain ⟨v11, h3, hr⟩ := Option.bind_eq_some_iff.1 hr
    try dsimp only at hr
    apply TO.cal (by first | rfl | (simp only [twant, z1, zp, zs]; done)) rfl goFn244 (array_refuse_c1_11f9_spec h3) rfl rfl rfl
    (repeat (focus (show _ = _; first | exact k1 rfl | exact k2 rfl | (simp only [zz, y18, Nat.reduceAdd, Nat.reduceMul, Nat.reduceLeDiff, Nat.reduceEqDiff, shift, kill, killB, frz, frzB, view, tml, tmlc, List.length_set] <;> exact rfl) | exact rfl)))
    with_reducible apply TO.here
    repeat (first | (with_reducible first | refine mv ?_ | refine m12 rfl ?_ | refine TO.nil ?_) | ((with_reducible first | apply TO.asg); (repeat (focus (show _ = _; first | exact k1 rfl | exact k2 rfl | (simp only [zz, y18, Nat.reduceAdd, Nat.reduceMul, Nat.reduceLeDiff, Nat.reduceEqDiff] <;> exact rfl) | exact rfl))); (with_reducible refine TO.here ?_)) | ((with_reducible apply TX.region); (focus (simp only [zl] <;> exact rfl)); (focus rfl); (try dsimp only)) | fail)
    cases hr
    refine ⟨.inr rfl, _, (by simp only [zy, y18, tresAll, tres, tload, rowOf, partT]; exact rfl), ?_⟩
    exact wr [] rfl .nil
  rfl

end Go.Rex

namespace Go.Rex
open Go.Proofs
open Go Go.Rex Go.RowKit
set_option maxRecDepth 100000
def y19 := an @ag173 <| an @ag89 <| an @ag98 <| an @cs173 <| an @cs98 <| an @fd171_0 <| an @fd173_0 <| an @fd91_2 <| an @ok173 <| an @ok98 <| @so89
theorem array_heard_seated_c1_09d0_spec {v1 : Int} {v2 : Int} {v3 : Int} {v4 : (List (Int × Int × Int × Int × Int))} {v5 : Int} {v6 : Int} {v7 : Int} {v8 : Int} (hr : array_heard_seated_c1_09d0 v1 v2 v3 v4 v5 v6 v7 = some (v8)) : Spec (lim Try.prog) 191 [.v (.int .i64 v1), .fptr true [.v (.int .i64 v2), .v (.int .i64 v3), .list 5 (v4.map e_iiiii), .v (.int .i64 v5), .v (.int .i64 v6), .v (.int .i64 v7)] 0] ⟨[.v (.int .i64 v8)], []⟩ := by
  unfold array_heard_seated_c1_09d0 at hr
  apply Spec.fn Try.func191 rfl
  focus (simp [Try.f191] <;> exact rfl)
  focus
    repeat (first | (with_reducible first | refine mv ?_ | refine m12 rfl ?_ | refine TO.nil ?_) | ((with_reducible first | apply TO.asg); (repeat (focus (show _ = _; first | exact k1 rfl | exact k2 rfl | (simp only [zz, y19, e_iiiii, Nat.reduceAdd, Nat.reduceMul, Nat.reduceLeDiff, Nat.reduceEqDiff] <;> exact rfl) | exact rfl))); (with_reducible refine TO.here ?_)) | ((with_reducible apply TX.region); (focus (simp only [zl] <;> exact rfl)); (focus rfl); (try dsimp only)) | with_reducible refine TD.nil ?_ | ((with_reducible first | apply TD.ld | apply TD.ldw | apply TD.fa | apply TD.mv); (repeat (focus (show _ = _; first | exact k1 rfl | exact k2 rfl | (simp only [zz, y19, e_iiiii, Nat.reduceAdd, Nat.reduceMul, Nat.reduceLeDiff, Nat.reduceEqDiff, tload, rowOf, partT, List.getElem?_map, tfieldAddr] <;> exact rfl) | exact rfl))); (with_reducible refine TD.here ?_)) | ((with_reducible apply TX.drawn); (focus decide +kernel); (focus (simp only [zl] <;> exact rfl)); (focus exact rfl); (try dsimp only)) | fail)
    obtain ⟨⟨v9, v10, v11, v12, v13⟩, h1, hr⟩ := Option.bind_eq_some_iff.1 hr
    try dsimp only at hr
    have h1m := tidx_map (f := e_iiiii) h1
    have h1l := getI_lt h1
    try simp only [List.length_set] at h1l
    have h1a := getI_at h1
    repeat (first | (with_reducible first | refine mv ?_ | refine m12 rfl ?_ | refine TD.nil ?_) | ((with_reducible first | apply TD.ia | apply TD.ld | apply TD.ldw); (repeat (focus (show _ = _; first | exact k1 rfl | exact k2 rfl | (simp only [zz, y19, e_iiiii, Nat.reduceAdd, Nat.reduceMul, Nat.reduceLeDiff, Nat.reduceEqDiff, tindexAddr, Nat.zero_add, tload, rowOf, partT, List.getElem?_map, h1m, h1l, h1a] <;> exact rfl) | exact rfl))); (with_reducible refine TD.here ?_)) | ((with_reducible apply TX.drawn); (focus decide +kernel); (focus (simp only [zl] <;> exact rfl)); (focus exact rfl); (try dsimp only)) | fail)
    obtain ⟨⟨v14, v15, v16, v17, v18, v19⟩, h2, hr⟩ := Option.bind_eq_some_iff.1 hr
    try dsimp only at hr
    first | apply TD.cal (by first | rfl | (simp only [twant, z1, zp, zs, h1m, h1l, h1a]; done)) rfl goFn192 (array_heard_wayFrom_spec h2) rfl rfl rfl | apply TD.calw (by first | rfl | (simp only [twant, z1, zp, zs, h1m, h1l, h1a]; done)) rfl goFn192 (array_heard_wayFrom_spec h2) rfl rfl rfl rfl
    (repeat (focus (show _ = _; first | exact k1 rfl | exact k2 rfl | (simp only [zz, y19, e_iiiii, Nat.reduceAdd, Nat.reduceMul, Nat.reduceLeDiff, Nat.reduceEqDiff, shift, kill, killB, frz, frzB, view, tml, tmlc, List.length_set, h1m, h1l, h1a] <;> exact rfl) | exact rfl)))
    with_reducible apply TD.here
    repeat (first | (with_reducible first | refine mv ?_ | refine m12 rfl ?_ | refine TD.nil ?_) | ((with_reducible apply TX.drawn); (focus decide +kernel); (focus (simp only [zl] <;> exact rfl)); (focus exact rfl); (try dsimp only)) | fail)
    obtain ⟨v20, h3, hr⟩ := Option.bind_eq_some_iff.1 hr
    try dsimp only at hr
    first | apply TD.cal (by first | rfl | (simp only [twant, z1, zp, zs, h1m, h1l, h1a]; done)) rfl goFn193 (array_way_apart_spec h3) rfl rfl rfl | apply TD.calw (by first | rfl | (simp only [twant, z1, zp, zs, h1m, h1l, h1a]; done)) rfl goFn193 (array_way_apart_spec h3) rfl rfl rfl rfl
    (repeat (focus (show _ = _; first | exact k1 rfl | exact k2 rfl | (simp only [zz, y19, e_iiiii, Nat.reduceAdd, Nat.reduceMul, Nat.reduceLeDiff, Nat.reduceEqDiff, shift, kill, killB, frz, frzB, view, tml, tmlc, List.length_set, h1m, h1l, h1a] <;> exact rfl) | exact rfl)))
    with_reducible apply TD.here
    repeat (first | (with_reducible first | refine mv ?_ | refine m12 rfl ?_ | refine TD.nil ?_) | ((with_reducible first | apply TD.asg); (repeat (focus (show _ = _; first | exact k1 rfl | exact k2 rfl | (simp only [zz, y19, e_iiiii, Nat.reduceAdd, Nat.reduceMul, Nat.reduceLeDiff, Nat.reduceEqDiff, h1m, h1l, h1a] <;> exact rfl) | exact rfl))); (with_reducible refine TD.here ?_)) | ((with_reducible apply TX.drawn); (focus decide +kernel); (focus (simp only [zl] <;> exact rfl)); (focus exact rfl); (try dsimp only)) | fail)
    cases hr
    refine ⟨.inr rfl, _, (by simp only [zy, y19, e_iiiii, tresAll, tres, tload, rowOf, partT, h1m, h1l, h1a]; exact rfl), ?_⟩
    exact wr [] rfl .nil
  rfl

end Go.Rex

namespace Go.Rex
open Go.Proofs
open Go Go.Rex Go.RowKit
set_option maxRecDepth 100000
def y20 := an @ag157 <| an @ag3 <| @wi64_0a1
theorem array_each_c1_d3aa_spec {v1 : Int} {v2 : Int} {v3 : Int} {v4 : (List (Int × Int × Int × Int × Int))} {v5 : Int} {v6 : Int} {v7 : Int} {v8 : Int} (hr : array_each_c1_d3aa v1 v2 v3 v4 v5 v6 v7 = some (v8)) : Spec (lim Try.prog) 222 [.fptr true [.v (.int .i64 v1)] 0, .fptr true [.func 191 [] [.fptr true [.v (.int .i64 v2), .v (.int .i64 v3), .list 5 (v4.map e_iiiii), .v (.int .i64 v5), .v (.int .i64 v6), .v (.int .i64 v7)] 0]] 0] ⟨[.v (.int .i64 v8)], []⟩ := by
  unfold array_each_c1_d3aa at hr
  apply Spec.fn Try.func222 rfl
  focus (simp [Try.f222] <;> exact rfl)
  focus
    repeat (first | (with_reducible first | refine mv ?_ | refine m12 rfl ?_ | refine TO.nil ?_) | ((with_reducible first | apply TO.asg | apply TO.ld | apply TO.mv); (repeat (focus (show _ = _; first | exact k1 rfl | exact k2 rfl | (simp only [zz, y20, e_iiiii, Nat.reduceAdd, Nat.reduceMul, Nat.reduceLeDiff, Nat.reduceEqDiff, tload, rowOf, partT, List.getElem?_map] <;> exact rfl) | exact rfl))); (with_reducible refine TO.here ?_)) | ((with_reducible apply TX.region); (focus (simp only [zl] <;> exact rfl)); (focus rfl); (try dsimp only)) | fail)
    obtain ⟨v13, h7, hr⟩ := Option.bind_eq_some_iff.1 hr
    refine TX.loopE (step := array_each_c1_d3aa_l1 v1 v2 v3 v4 v5 v6 v7) (x := 0) h7 (fun v9 => ⟨.junk :: .fptr true [.func 191 [] [.fptr true [.v (.int .i64 v2), .v (.int .i64 v3), .list 5 (v4.map e_iiiii), .v (.int .i64 v5), .v (.int .i64 v6), .v (.int .i64 v7)] 0]] 0 :: .junk :: .junk :: .junk :: .v (.int .i64 v1) :: .v (.int .i64 v9) :: .junk :: .junk :: .junk :: .junk :: .junk :: .junk :: .junk :: .junk :: .junk :: [], []⟩) (fun e => match e with | (.inl v11) => (.ret, ⟨.junk :: .junk :: .v (.int .i64 v11) :: .junk :: .junk :: .junk :: .junk :: .junk :: .junk :: .junk :: .junk :: .junk :: .junk :: .junk :: .junk :: .junk :: [], []⟩) | (.inr _) => (.exit 0, ⟨.junk :: .junk :: .junk :: .junk :: .junk :: .junk :: .junk :: .junk :: .junk :: .junk :: .junk :: .junk :: .junk :: .junk :: .junk :: .junk :: [], []⟩)) ?_ ?_ ?_ ?_
    · rintro v9 v0 hr
      dsimp only [array_each_c1_d3aa_l1] at hr
      try dsimp only
      repeat (first | (with_reducible first | refine mv ?_ | refine m12 rfl ?_ | refine TO.nil ?_) | ((with_reducible first | apply TO.bin); (repeat (focus (show _ = _; first | exact k1 rfl | exact k2 rfl | (simp only [zz, y20, e_iiiii, Nat.reduceAdd, Nat.reduceMul, Nat.reduceLeDiff, Nat.reduceEqDiff] <;> exact rfl) | exact rfl))); (with_reducible refine TO.here ?_)) | ((with_reducible apply TX.region); (focus (simp only [zl] <;> exact rfl)); (focus rfl); (try dsimp only)) | ((with_reducible apply TX.cond_true); (focus rfl); (focus (first | rfl | (simp only [z1, zn]; done)))) | ((with_reducible apply TX.cond_false); (focus rfl); (focus (first | rfl | (simp only [z1, zn]; done)))) | fail)
      rcases Bool.eq_false_or_eq_true ((decide (v9 < v1))) with h4 | h4
      · rw [if_pos h4] at hr
        repeat (first | (with_reducible first | refine mv ?_ | refine m12 rfl ?_ | refine TO.nil ?_) | ((with_reducible first | apply TO.mv | apply TO.asg | apply TO.ld); (repeat (focus (show _ = _; first | exact k1 rfl | exact k2 rfl | (simp only [zz, y20, e_iiiii, Nat.reduceAdd, Nat.reduceMul, Nat.reduceLeDiff, Nat.reduceEqDiff, tload, rowOf, partT, List.getElem?_map, h4] <;> exact rfl) | exact rfl))); (with_reducible refine TO.here ?_)) | ((with_reducible apply TX.region); (focus (simp only [zl] <;> exact rfl)); (focus rfl); (try dsimp only)) | ((with_reducible apply TX.cond_true); (focus rfl); (focus (first | rfl | (simp only [z1, zn, h4]; done)))) | ((with_reducible apply TX.cond_false); (focus rfl); (focus (first | rfl | (simp only [z1, zn, h4]; done)))) | fail)
        obtain ⟨v12, h5, hr⟩ := Option.bind_eq_some_iff.1 hr
        try dsimp only at hr
        apply TO.cal (by first | rfl | (simp only [twant, z1, zp, zs, h4]; done)) rfl goFn191 (array_heard_seated_c1_09d0_spec h5) rfl rfl rfl
        (repeat (focus (show _ = _; first | exact k1 rfl | exact k2 rfl | (simp only [zz, y20, e_iiiii, Nat.reduceAdd, Nat.reduceMul, Nat.reduceLeDiff, Nat.reduceEqDiff, shift, kill, killB, frz, frzB, view, tml, tmlc, List.length_set, h4] <;> exact rfl) | exact rfl)))
        with_reducible apply TO.here
        repeat (first | (with_reducible first | refine mv ?_ | refine m12 rfl ?_ | refine TO.nil ?_) | ((with_reducible first | apply TO.asg | apply TO.mv | apply TO.bin); (repeat (focus (show _ = _; first | exact k1 rfl | exact k2 rfl | (simp only [zz, y20, e_iiiii, Nat.reduceAdd, Nat.reduceMul, Nat.reduceLeDiff, Nat.reduceEqDiff, h4] <;> exact rfl) | exact rfl))); (with_reducible refine TO.here ?_)) | ((with_reducible apply TX.region); (focus (simp only [zl] <;> exact rfl)); (focus rfl); (try dsimp only)) | ((with_reducible apply TX.cond_true); (focus rfl); (focus (first | rfl | (simp only [z1, zn, h4]; done)))) | ((with_reducible apply TX.cond_false); (focus rfl); (focus (first | rfl | (simp only [z1, zn, h4]; done)))) | fail)
        rcases Bool.eq_false_or_eq_true ((decide (v12 ≠ 0))) with h6 | h6
        · rw [if_pos h6] at hr
          repeat (first | (with_reducible first | refine mv ?_ | refine m12 rfl ?_ | refine TO.nil ?_) | ((with_reducible first | apply TO.mv | apply TO.asg); (repeat (focus (show _ = _; first | exact k1 rfl | exact k2 rfl | (simp only [zz, y20, e_iiiii, Nat.reduceAdd, Nat.reduceMul, Nat.reduceLeDiff, Nat.reduceEqDiff, h4, h6] <;> exact rfl) | exact rfl))); (with_reducible refine TO.here ?_)) | ((with_reducible apply TX.region); (focus (simp only [zl] <;> exact rfl)); (focus rfl); (try dsimp only)) | ((with_reducible apply TX.cond_true); (focus rfl); (focus (first | rfl | (simp only [z1, zn, h4, h6]; done)))) | ((with_reducible apply TX.cond_false); (focus rfl); (focus (first | rfl | (simp only [z1, zn, h4, h6]; done)))) | fail)
          cases hr
          refine ⟨rfl, ?_⟩
          exact Wk.ren [] rfl .nil (by (repeat (first | exact RNs.nil | refine RNs.cons .junk ?_ | refine RNs.cons (.keep rfl rfl) ?_ | refine RNs.cons (.lsl rfl rfl) ?_ | refine RNs.cons (.lsl rfl (by simp only [List.length_set])) ?_ | refine RNs.cons (.lptr rfl) ?_ | refine RNs.cons (.nil rfl) ?_ | refine RNs.cons .nl ?_ | refine RNs.cons (.keep (by simp only [h4, h6]) rfl) ?_ | refine RNs.cons (.tuple' ?_) ?_ | refine RNs.cons (.agg' ?_) ?_)))
        · rw [if_neg (by rw [h6]; exact Bool.false_ne_true)] at hr
          repeat (first | (with_reducible first | refine mv ?_ | refine m12 rfl ?_ | refine TO.nil ?_) | ((with_reducible first | apply TO.bin | apply TO.mv); (repeat (focus (show _ = _; first | exact k1 rfl | exact k2 rfl | (simp only [zz, y20, e_iiiii, Nat.reduceAdd, Nat.reduceMul, Nat.reduceLeDiff, Nat.reduceEqDiff, h4, h6] <;> exact rfl) | exact rfl))); (with_reducible refine TO.here ?_)) | ((with_reducible apply TX.region); (focus (simp only [zl] <;> exact rfl)); (focus rfl); (try dsimp only)) | ((with_reducible apply TX.cond_true); (focus rfl); (focus (first | rfl | (simp only [z1, zn, h4, h6]; done)))) | ((with_reducible apply TX.cond_false); (focus rfl); (focus (first | rfl | (simp only [z1, zn, h4, h6]; done)))) | fail)
          cases hr
          refine ⟨rfl, ?_⟩
          exact Wk.ren [] rfl .nil (by (repeat (first | exact RNs.nil | refine RNs.cons .junk ?_ | refine RNs.cons (.keep rfl rfl) ?_ | refine RNs.cons (.lsl rfl rfl) ?_ | refine RNs.cons (.lsl rfl (by simp only [List.length_set])) ?_ | refine RNs.cons (.lptr rfl) ?_ | refine RNs.cons (.nil rfl) ?_ | refine RNs.cons .nl ?_ | refine RNs.cons (.keep (by simp only [h4, h6]) rfl) ?_ | refine RNs.cons (.tuple' ?_) ?_ | refine RNs.cons (.agg' ?_) ?_)))
      · rw [if_neg (by rw [h4]; exact Bool.false_ne_true)] at hr
        repeat (first | (with_reducible first | refine mv ?_ | refine m12 rfl ?_) | ((with_reducible apply TX.cond_true); (focus rfl); (focus (first | rfl | (simp only [z1, zn, h4]; done)))) | ((with_reducible apply TX.cond_false); (focus rfl); (focus (first | rfl | (simp only [z1, zn, h4]; done)))) | fail)
        cases hr
        refine ⟨rfl, ?_⟩
        exact Wk.ren [] rfl .nil (by (repeat (first | exact RNs.nil | refine RNs.cons .junk ?_ | refine RNs.cons (.keep rfl rfl) ?_ | refine RNs.cons (.lsl rfl rfl) ?_ | refine RNs.cons (.lsl rfl (by simp only [List.length_set])) ?_ | refine RNs.cons (.lptr rfl) ?_ | refine RNs.cons (.nil rfl) ?_ | refine RNs.cons .nl ?_ | refine RNs.cons (.keep (by simp only [h4]) rfl) ?_ | refine RNs.cons (.tuple' ?_) ?_ | refine RNs.cons (.agg' ?_) ?_)))
    · intro e h; rcases e with _ | e <;> cases h
    · try dsimp only
      rcases v13 with v14 | _
      · try dsimp only at hr
        try dsimp only
        repeat (first | (with_reducible first | refine mv ?_ | refine m12 rfl ?_) | fail)
        cases hr
        refine ⟨.inr rfl, _, (by simp only [zy, y20, e_iiiii, tresAll, tres, tload, rowOf, partT]; exact rfl), ?_⟩
        exact wr [] rfl .nil
      · try dsimp only at hr
        try dsimp only
        repeat (first | (with_reducible first | refine mv ?_ | refine m12 rfl ?_ | refine TO.nil ?_) | ((with_reducible first | apply TO.asg); (repeat (focus (show _ = _; first | exact k1 rfl | exact k2 rfl | (simp only [zz, y20, e_iiiii, Nat.reduceAdd, Nat.reduceMul, Nat.reduceLeDiff, Nat.reduceEqDiff] <;> exact rfl) | exact rfl))); (with_reducible refine TO.here ?_)) | ((with_reducible apply TX.region); (focus (simp only [zl] <;> exact rfl)); (focus rfl); (try dsimp only)) | fail)
        cases hr
        refine ⟨.inr rfl, _, (by simp only [zy, y20, e_iiiii, tresAll, tres, tload, rowOf, partT]; exact rfl), ?_⟩
        exact wr [] rfl .nil
    · try dsimp only
      exact wr [] rfl .nil
  rfl

end Go.Rex
