/- Proofs that the program's functions do what these plain functions say. -/
import Derived.Test.YtncpkcngiaacaaaGB
import Derived.Test.YtncpkcngiaacaaaS
import Derived.Test.YtncpkcngiaacaaaG2
import Derived.Test.YtncpkcngiaacaaaG1
set_option linter.unusedSimpArgs false
set_option linter.unusedVariables false
set_option linter.defProp false
namespace Go.Rex
open Go.Proofs
open Go Go.Rex Go.RowKit
set_option maxRecDepth 100000
def ty_pulse_generator_states_c1_3283 := an @ag102 <| an @ag3 <| an @cs102 <| @ok102
theorem pulse_generator_states_c1_3283_ispec {v1 : Int} {v2 : Int} {v3 : (List Int)} : ISpec (lim Try.prog) 141 [] [.fptr true [.v (.int .i64 v1)] 0, .fptr true [.v (.int .i64 v2), .list 1 (v3.map e_i)] 0] (fun a0 => [.v (.int .i64 a0)]) (fun {X} => pulse_generator_states_c1_3283_it (X := X) v1 v2 v3) := by
  refine ISpec.fn (tms := fun l => [.v (.func (.yield l) #[] #[]), .fptr true [.v (.int .i64 v1)] 0, .fptr true [.v (.int .i64 v2), .list 1 (v3.map e_i)] 0, .junk, .junk, .junk, .junk, .junk, .junk, .junk, .junk, .junk]) Try.func141 rfl rfl (fun l => by simp [Try.f141] <;> exact rfl) ?_
  intro X O l H v4 xx hY hr
  dsimp only [pulse_generator_states_c1_3283_it] at hr
  try dsimp only
  repeat (first | with_reducible refine mv ?_ | with_reducible refine m12 rfl ?_ | fail)
  refine TI.of ?_
  repeat (first | with_reducible refine mv ?_ | with_reducible refine m12 rfl ?_ | with_reducible refine TO.nil ?_ | ((with_reducible first | apply TO.ld | apply TO.asg); (repeat (focus (show _ = _; first | exact k1 rfl | exact k2 rfl | (simp only [zz, ty_pulse_generator_states_c1_3283, e_i, Nat.reduceAdd, Nat.reduceMul, Nat.reduceLeDiff, tload, rowOf, partT, List.getElem?_map] <;> exact rfl) | exact rfl))); (with_reducible refine TO.here ?_)) | ((with_reducible apply TX.region); (focus (simp only [List.toList_toArray] <;> exact rfl)); (focus rfl); (try dsimp only)) | fail)
  refine ⟨[.v (.func (.yield l) #[] #[]), .fptr true [.v (.int .i64 v1)] 0, .fptr true [.v (.int .i64 v2), .list 1 (v3.map e_i)] 0, .junk, .v (.int .i64 v1), .v (.int .i64 v1), .junk, .junk, .junk, .junk, .junk, .junk], ?_, ?_⟩
  · exact wr [] rfl .nil
  repeat (first | with_reducible refine mv ?_ | with_reducible refine m12 rfl ?_ | fail)
  obtain ⟨v14, h7, hr⟩ := Option.bind_eq_some_iff.1 hr
  try dsimp only at hr
  refine TI.loopW (step := pulse_generator_states_c1_3283_l1 H v2 v3) (y := (v1, v4)) h7 (fun (v5, v6) => ([.v (.func (.yield l) #[] #[]), .junk, .fptr true [.v (.int .i64 v2), .list 1 (v3.map e_i)] 0, .junk, .v (.int .i64 v5), .junk, .junk, .junk, .junk, .junk, .junk, .junk], v6)) (fun v10 => (.exit 0, ([.junk, .junk, .junk, .junk, .junk, .junk, .junk, .junk, .junk, .junk, .junk, .junk], v10))) ?_ rfl ?_ ?_ ?_
  · try dsimp only
    exact wr [] rfl .nil
  · rintro ⟨v5, v6⟩ v0 hr
    dsimp only [pulse_generator_states_c1_3283_l1] at hr
    try dsimp only
    repeat (first | with_reducible refine mv ?_ | with_reducible refine m12 rfl ?_ | fail)
    refine TI.yield 2 hY (by simp only [List.toList_toArray] <;> exact rfl) (by simp only [List.take_succ_cons, List.take_zero] <;> exact rfl) (by exact rfl) ⟨⟨_, _, _, _, _, rfl⟩⟩ rfl ?_
    try dsimp only
    repeat (first | with_reducible refine mv ?_ | with_reducible refine m12 rfl ?_ | with_reducible refine TO.nil ?_ | ((with_reducible first | apply TO.mv); (repeat (focus (show _ = _; first | exact k1 rfl | exact k2 rfl | (simp only [zz, ty_pulse_generator_states_c1_3283, e_i, Nat.reduceAdd, Nat.reduceMul, Nat.reduceLeDiff] <;> exact rfl) | exact rfl))); (with_reducible refine TO.here ?_)) | ((with_reducible apply TX.region); (focus (simp only [List.toList_toArray] <;> exact rfl)); (focus rfl); (try dsimp only)) | fail)
    obtain ⟨⟨v11, v12⟩, h4, hr⟩ := Option.bind_eq_some_iff.1 hr
    try dsimp only at hr
    refine ⟨[.v (.func (.yield l) #[] #[]), .junk, .fptr true [.v (.int .i64 v2), .list 1 (v3.map e_i)] 0, .junk, .v (.int .i64 v5), .junk, .v (.func (.yield l) #[] #[]), .v (.int .i64 v5), .junk, .junk, .junk, .junk], ?_, .inl ⟨v5, v11, v12, by first | rfl | (simp only [twant, z1, List.getElem?_toArray, Option.bind_some]; done), rfl, rfl, h4, ?_⟩⟩
    · exact wr [] rfl .nil
    show TO _ _ _ _ ⟨.v (.func (.yield l) #[] #[]) :: .junk :: .fptr true [.v (.int .i64 v2), .list 1 (v3.map e_i)] 0 :: .junk :: .v (.int .i64 v5) :: .junk :: .v (.func (.yield l) #[] #[]) :: .v (.int .i64 v5) :: .v (.bool v11) :: .junk :: .junk :: .junk :: [], []⟩ _
    repeat (first | with_reducible refine mv ?_ | with_reducible refine m12 rfl ?_ | with_reducible refine TO.nil ?_ | ((with_reducible apply TX.region); (focus (simp only [List.toList_toArray] <;> exact rfl)); (focus rfl); (try dsimp only)) | fail)
    refine ⟨[.v (.func (.yield l) #[] #[]), .junk, .fptr true [.v (.int .i64 v2), .list 1 (v3.map e_i)] 0, .junk, .v (.int .i64 v5), .junk, .v (.func (.yield l) #[] #[]), .v (.int .i64 v5), .v (.bool v11), .junk, .junk, .junk], ?_, ?_⟩
    · exact wr [] rfl .nil
    repeat (first | with_reducible refine mv ?_ | with_reducible refine m12 rfl ?_ | ((with_reducible apply TX.cond_true); (focus rfl); (focus (first | rfl | (simp only [z1, Bool.not_true, Bool.not_false]; done)))) | ((with_reducible apply TX.cond_false); (focus rfl); (focus (first | rfl | (simp only [z1, Bool.not_true, Bool.not_false]; done)))) | ((with_reducible apply TI.cond_true); (focus rfl); (focus (first | rfl | (simp only [z1, Bool.not_true, Bool.not_false]; done)))) | ((with_reducible apply TI.cond_false); (focus rfl); (focus (first | rfl | (simp only [z1, Bool.not_true, Bool.not_false]; done)))) | fail)
    rcases Bool.eq_false_or_eq_true (v11) with h5 | h5
    · rw [if_pos h5] at hr
      repeat (first | with_reducible refine mv ?_ | with_reducible refine m12 rfl ?_ | ((with_reducible apply TX.cond_true); (focus rfl); (focus (first | rfl | (simp only [z1, Bool.not_true, Bool.not_false, h5]; done)))) | ((with_reducible apply TX.cond_false); (focus rfl); (focus (first | rfl | (simp only [z1, Bool.not_true, Bool.not_false, h5]; done)))) | ((with_reducible apply TI.cond_true); (focus rfl); (focus (first | rfl | (simp only [z1, Bool.not_true, Bool.not_false, h5]; done)))) | ((with_reducible apply TI.cond_false); (focus rfl); (focus (first | rfl | (simp only [z1, Bool.not_true, Bool.not_false, h5]; done)))) | fail)
      refine TI.of ?_
      repeat (first | with_reducible refine mv ?_ | with_reducible refine m12 rfl ?_ | with_reducible refine TO.nil ?_ | ((with_reducible first | apply TO.ld | apply TO.mv); (repeat (focus (show _ = _; first | exact k1 rfl | exact k2 rfl | (simp only [zz, ty_pulse_generator_states_c1_3283, e_i, Nat.reduceAdd, Nat.reduceMul, Nat.reduceLeDiff, tload, rowOf, partT, List.getElem?_map, h5] <;> exact rfl) | exact rfl))); (with_reducible refine TO.here ?_)) | ((with_reducible apply TX.region); (focus (simp only [List.toList_toArray] <;> exact rfl)); (focus rfl); (try dsimp only)) | fail)
      obtain ⟨v13, h6, hr⟩ := Option.bind_eq_some_iff.1 hr
      try dsimp only at hr
      apply TO.cal (by first | rfl | (simp only [twant, z1, List.getElem?_toArray, Option.bind_some, h5]; done)) rfl goFn116 (pulse_generator_next_spec h6) rfl rfl rfl
      (repeat (focus (show _ = _; first | exact k1 rfl | exact k2 rfl | (simp only [zz, ty_pulse_generator_states_c1_3283, e_i, Nat.reduceAdd, Nat.reduceMul, Nat.reduceLeDiff, shift, kill, killB, frz, frzB, view, tml, tmlc, List.length_set, h5] <;> exact rfl) | exact rfl)))
      with_reducible apply TO.here
      repeat (first | with_reducible refine mv ?_ | with_reducible refine m12 rfl ?_ | with_reducible refine TO.nil ?_ | ((with_reducible first | apply TO.asg); (repeat (focus (show _ = _; first | exact k1 rfl | exact k2 rfl | (simp only [zz, ty_pulse_generator_states_c1_3283, e_i, Nat.reduceAdd, Nat.reduceMul, Nat.reduceLeDiff, h5] <;> exact rfl) | exact rfl))); (with_reducible refine TO.here ?_)) | ((with_reducible apply TX.region); (focus (simp only [List.toList_toArray] <;> exact rfl)); (focus rfl); (try dsimp only)) | fail)
      refine ⟨[.v (.func (.yield l) #[] #[]), .junk, .fptr true [.v (.int .i64 v2), .list 1 (v3.map e_i)] 0, .junk, .v (.int .i64 v13), .junk, .v (.func (.yield l) #[] #[]), .v (.int .i64 v5), .v (.bool v11), .agg [.v (.int .i64 v2), .list 1 (v3.map e_i)], .v (.int .i64 v5), .v (.int .i64 v13)], ?_, ?_⟩
      · exact Wk.ren [] rfl .nil (by (repeat (first | exact RNs.nil | refine RNs.cons .junk ?_ | refine RNs.cons (.keep rfl rfl) ?_ | refine RNs.cons (.lsl rfl rfl) ?_ | refine RNs.cons (.lsl rfl (by simp only [List.length_set])) ?_ | refine RNs.cons (.lptr rfl) ?_ | refine RNs.cons (.nil rfl) ?_ | refine RNs.cons .nl ?_ | refine RNs.cons (.keep (by simp only [h5]) rfl) ?_ | refine RNs.cons (.tuple' ?_) ?_ | refine RNs.cons (.agg' ?_) ?_)))
      repeat (first | with_reducible refine mv ?_ | with_reducible refine m12 rfl ?_ | fail)
      cases hr
      refine ⟨rfl, ?_, rfl⟩
      exact Wk.ren [] rfl .nil (by (repeat (first | exact RNs.nil | refine RNs.cons .junk ?_ | refine RNs.cons (.keep rfl rfl) ?_ | refine RNs.cons (.lsl rfl rfl) ?_ | refine RNs.cons (.lsl rfl (by simp only [List.length_set])) ?_ | refine RNs.cons (.lptr rfl) ?_ | refine RNs.cons (.nil rfl) ?_ | refine RNs.cons .nl ?_ | refine RNs.cons (.keep (by simp only [h5]) rfl) ?_ | refine RNs.cons (.tuple' ?_) ?_ | refine RNs.cons (.agg' ?_) ?_)))
    · rw [if_neg (by rw [h5]; exact Bool.false_ne_true)] at hr
      repeat (first | with_reducible refine mv ?_ | with_reducible refine m12 rfl ?_ | ((with_reducible apply TX.cond_true); (focus rfl); (focus (first | rfl | (simp only [z1, Bool.not_true, Bool.not_false, h5]; done)))) | ((with_reducible apply TX.cond_false); (focus rfl); (focus (first | rfl | (simp only [z1, Bool.not_true, Bool.not_false, h5]; done)))) | ((with_reducible apply TI.cond_true); (focus rfl); (focus (first | rfl | (simp only [z1, Bool.not_true, Bool.not_false, h5]; done)))) | ((with_reducible apply TI.cond_false); (focus rfl); (focus (first | rfl | (simp only [z1, Bool.not_true, Bool.not_false, h5]; done)))) | fail)
      cases hr
      refine ⟨rfl, ?_, rfl⟩
      exact Wk.ren [] rfl .nil (by (repeat (first | exact RNs.nil | refine RNs.cons .junk ?_ | refine RNs.cons (.keep rfl rfl) ?_ | refine RNs.cons (.lsl rfl rfl) ?_ | refine RNs.cons (.lsl rfl (by simp only [List.length_set])) ?_ | refine RNs.cons (.lptr rfl) ?_ | refine RNs.cons (.nil rfl) ?_ | refine RNs.cons .nl ?_ | refine RNs.cons (.keep (by simp only [h5]) rfl) ?_ | refine RNs.cons (.tuple' ?_) ?_ | refine RNs.cons (.agg' ?_) ?_)))
  · intro e h; cases h
  · try dsimp only
    repeat (first | with_reducible refine mv ?_ | with_reducible refine m12 rfl ?_ | fail)
    cases hr
    exact ⟨.inl rfl, rfl⟩

end Go.Rex

namespace Go.Rex
open Go.Proofs
open Go Go.Rex Go.RowKit
set_option maxRecDepth 100000
def ty_pulse_generator_period := an @ag102 <| an @ag3 <| an @cs102 <| an @cs3 <| an @ok102 <| an @ok3 <| an @zc3 <| @wi64_1a1
theorem pulse_generator_period_spec {v1 : Int} {v2 : (List Int)} {v3 : Int} {v4 : Int} (hr : pulse_generator_period v1 v2 v3 = some (v4)) : Spec (lim Try.prog) 63 [.agg [.v (.int .i64 v1), .list 1 (v2.map e_i)], .v (.int .i64 v3)] ⟨[.v (.int .i64 v4)], []⟩ := by
  unfold pulse_generator_period at hr
  apply Spec.fnM Try.func63 rfl
  focus (simp [Try.f63] <;> exact rfl)
  focus
    repeat (first | with_reducible refine mv ?_ | with_reducible refine m12 rfl ?_ | with_reducible refine TO.nil ?_ | ((with_reducible first | apply TO.bf | apply TO.asg | apply TO.al | apply TO.sv); (repeat (focus (show _ = _; first | exact k1 rfl | exact k2 rfl | (simp only [zz, ty_pulse_generator_period, e_i, Nat.reduceAdd, Nat.reduceMul, Nat.reduceLeDiff] <;> exact rfl) | exact rfl))); (with_reducible refine TO.here ?_)) | ((with_reducible apply TX.region); (focus (simp only [List.toList_toArray] <;> exact rfl)); (focus rfl); (try dsimp only)) | with_reducible refine TD.nil ?_ | ((with_reducible first | apply TD.ld | apply TD.ldw); (repeat (focus (show _ = _; first | exact k1 rfl | exact k2 rfl | (simp only [zz, ty_pulse_generator_period, e_i, Nat.reduceAdd, Nat.reduceMul, Nat.reduceLeDiff, tload, rowOf, partT, List.getElem?_map] <;> exact rfl) | exact rfl))); (with_reducible refine TD.here ?_)) | ((with_reducible apply TX.drawn); (focus decide +kernel); (focus (simp only [List.toList_toArray] <;> exact rfl)); (focus exact rfl); (try dsimp only)) | fail)
    obtain ⟨v5, h1, hr⟩ := Option.bind_eq_some_iff.1 hr
    try dsimp only at hr
    first | apply TD.cal (by first | rfl | (simp only [twant, z1, List.getElem?_toArray, Option.bind_some]; done)) rfl goFn116 (pulse_generator_next_spec h1) rfl rfl rfl | apply TD.calw (by first | rfl | (simp only [twant, z1, List.getElem?_toArray, Option.bind_some]; done)) rfl goFn116 (pulse_generator_next_spec h1) rfl rfl rfl rfl
    (repeat (focus (show _ = _; first | exact k1 rfl | exact k2 rfl | (simp only [zz, ty_pulse_generator_period, e_i, Nat.reduceAdd, Nat.reduceMul, Nat.reduceLeDiff, shift, kill, killB, frz, frzB, view, tml, tmlc, List.length_set] <;> exact rfl) | exact rfl)))
    with_reducible apply TD.here
    repeat (first | with_reducible refine mv ?_ | with_reducible refine m12 rfl ?_ | with_reducible refine TD.nil ?_ | ((with_reducible apply TX.drawn); (focus decide +kernel); (focus (simp only [List.toList_toArray] <;> exact rfl)); (focus exact rfl); (try dsimp only)) | fail)
    obtain ⟨⟨v6, v7, v8⟩, h2, hr⟩ := Option.bind_eq_some_iff.1 hr
    try dsimp only at hr
    first | apply TD.cal (by first | rfl | (simp only [twant, z1, List.getElem?_toArray, Option.bind_some]; done)) rfl goFn115 (pulse_generator_states_spec h2) rfl rfl rfl | apply TD.calw (by first | rfl | (simp only [twant, z1, List.getElem?_toArray, Option.bind_some]; done)) rfl goFn115 (pulse_generator_states_spec h2) rfl rfl rfl rfl
    (repeat (focus (show _ = _; first | exact k1 rfl | exact k2 rfl | (simp only [zz, ty_pulse_generator_period, e_i, Nat.reduceAdd, Nat.reduceMul, Nat.reduceLeDiff, shift, kill, killB, frz, frzB, view, tml, tmlc, List.length_set] <;> exact rfl) | exact rfl)))
    with_reducible apply TD.here
    repeat (first | with_reducible refine mv ?_ | with_reducible refine m12 rfl ?_ | with_reducible refine TD.nil ?_ | ((with_reducible apply TX.drawn); (focus decide +kernel); (focus (simp only [List.toList_toArray] <;> exact rfl)); (focus exact rfl); (try dsimp only)) | fail)
    obtain ⟨v13, h5, hr⟩ := Option.bind_eq_some_iff.1 hr
    refine TM.weak (s' := ⟨.junk :: .junk :: .junk :: .fptr true [.v (.int .i64 v3)] 0 :: .junk :: .lptr 0 0 0 :: .junk :: .junk :: .junk :: .junk :: .junk :: .func 141 [] [.fptr true [.v (.int .i64 v6)] 0, .fptr true [.v (.int .i64 v7), .list 1 (v8.map e_i)] 0] :: .junk :: .junk :: .junk :: .junk :: .junk :: .junk :: .junk :: [], [.var [.v (.int .i64 1)]]⟩) ?_ ?_
    · exact wr [some 0] rfl (rv .nil rfl)
    refine TM.range (it := fun {X} => pulse_generator_states_c1_3283_it v6 v7 v8) (enc := fun a0 => [.v (.int .i64 a0)]) h5 (fun v9 => [.var [.v (.int .i64 v9)]]) (fun v11 => [.var [.v (.int .i64 v11)]]) (fun _ => .exit 0) rfl rfl goFn141 pulse_generator_states_c1_3283_ispec rfl rfl rfl (fun _ => rfl) (fun _ => .inr ⟨_, rfl⟩) ?_ ?_
    · rintro v12 v9 r hr
      dsimp only [pulse_generator_period_l1] at hr
      show TX _ _ _ ⟨.junk :: .junk :: .junk :: .fptr true [.v (.int .i64 v3)] 0 :: .junk :: .lptr 0 0 0 :: .junk :: .junk :: .junk :: .junk :: .junk :: .func 141 [] [.fptr true [.v (.int .i64 v6)] 0, .fptr true [.v (.int .i64 v7), .list 1 (v8.map e_i)] 0] :: .v (.int .i64 v12) :: .junk :: .junk :: .junk :: .junk :: .junk :: .junk :: [], [.var [.v (.int .i64 v9)]]⟩ _
      repeat (first | with_reducible refine mv ?_ | with_reducible refine m12 rfl ?_ | with_reducible refine TO.nil ?_ | ((with_reducible first | apply TO.asg); (repeat (focus (show _ = _; first | exact k1 rfl | exact k2 rfl | (simp only [zz, ty_pulse_generator_period, e_i, Nat.reduceAdd, Nat.reduceMul, Nat.reduceLeDiff] <;> exact rfl) | exact rfl))); (with_reducible refine TO.here ?_)) | ((with_reducible apply TX.region); (focus (simp only [List.toList_toArray] <;> exact rfl)); (focus rfl); (try dsimp only)) | fail)
      refine ⟨rfl, ?_⟩
      repeat (first | with_reducible refine mv ?_ | with_reducible refine m12 rfl ?_ | with_reducible refine TO.nil ?_ | ((with_reducible first | apply TO.mv | apply TO.ld | apply TO.bin); (repeat (focus (show _ = _; first | exact k1 rfl | exact k2 rfl | (simp only [zz, ty_pulse_generator_period, e_i, Nat.reduceAdd, Nat.reduceMul, Nat.reduceLeDiff, tload, rowOf, partT, List.getElem?_map] <;> exact rfl) | exact rfl))); (with_reducible refine TO.here ?_)) | ((with_reducible apply TX.region); (focus (simp only [List.toList_toArray] <;> exact rfl)); (focus rfl); (try dsimp only)) | ((with_reducible apply TX.cond_true); (focus rfl); (focus (first | rfl | (simp only [z1, Bool.not_true, Bool.not_false]; done)))) | ((with_reducible apply TX.cond_false); (focus rfl); (focus (first | rfl | (simp only [z1, Bool.not_true, Bool.not_false]; done)))) | ((with_reducible apply TM.cond_true); (focus rfl); (focus (first | rfl | (simp only [z1, Bool.not_true, Bool.not_false]; done)))) | ((with_reducible apply TM.cond_false); (focus rfl); (focus (first | rfl | (simp only [z1, Bool.not_true, Bool.not_false]; done)))) | fail)
      rcases Bool.eq_false_or_eq_true ((decide (v12 = v3))) with h4 | h4
      · rw [if_pos h4] at hr
        repeat (first | with_reducible refine mv ?_ | with_reducible refine m12 rfl ?_ | ((with_reducible apply TX.cond_true); (focus rfl); (focus (first | rfl | (simp only [z1, Bool.not_true, Bool.not_false, h4]; done)))) | ((with_reducible apply TX.cond_false); (focus rfl); (focus (first | rfl | (simp only [z1, Bool.not_true, Bool.not_false, h4]; done)))) | ((with_reducible apply TM.cond_true); (focus rfl); (focus (first | rfl | (simp only [z1, Bool.not_true, Bool.not_false, h4]; done)))) | ((with_reducible apply TM.cond_false); (focus rfl); (focus (first | rfl | (simp only [z1, Bool.not_true, Bool.not_false, h4]; done)))) | fail)
        cases hr
        refine ⟨rfl, ?_⟩
        exact Wk.ren [some 0] rfl (rv .nil rfl) (by (repeat (first | exact RNs.nil | refine RNs.cons .junk ?_ | refine RNs.cons (.keep rfl rfl) ?_ | refine RNs.cons (.lsl rfl rfl) ?_ | refine RNs.cons (.lsl rfl (by simp only [List.length_set])) ?_ | refine RNs.cons (.lptr rfl) ?_ | refine RNs.cons (.nil rfl) ?_ | refine RNs.cons .nl ?_ | refine RNs.cons (.keep (by simp only [h4]) rfl) ?_ | refine RNs.cons (.tuple' ?_) ?_ | refine RNs.cons (.agg' ?_) ?_)))
      · rw [if_neg (by rw [h4]; exact Bool.false_ne_true)] at hr
        repeat (first | with_reducible refine mv ?_ | with_reducible refine m12 rfl ?_ | with_reducible refine TO.nil ?_ | ((with_reducible first | apply TO.ld | apply TO.bin | apply TO.sv); (repeat (focus (show _ = _; first | exact k1 rfl | exact k2 rfl | (simp only [zz, ty_pulse_generator_period, e_i, Nat.reduceAdd, Nat.reduceMul, Nat.reduceLeDiff, tload, rowOf, partT, List.getElem?_map, h4] <;> exact rfl) | exact rfl))); (with_reducible refine TO.here ?_)) | ((with_reducible apply TX.region); (focus (simp only [List.toList_toArray] <;> exact rfl)); (focus rfl); (try dsimp only)) | ((with_reducible apply TX.cond_true); (focus rfl); (focus (first | rfl | (simp only [z1, Bool.not_true, Bool.not_false, h4]; done)))) | ((with_reducible apply TX.cond_false); (focus rfl); (focus (first | rfl | (simp only [z1, Bool.not_true, Bool.not_false, h4]; done)))) | ((with_reducible apply TM.cond_true); (focus rfl); (focus (first | rfl | (simp only [z1, Bool.not_true, Bool.not_false, h4]; done)))) | ((with_reducible apply TM.cond_false); (focus rfl); (focus (first | rfl | (simp only [z1, Bool.not_true, Bool.not_false, h4]; done)))) | fail)
        cases hr
        refine ⟨rfl, ?_⟩
        exact Wk.ren [some 0] rfl (rv .nil rfl) (by (repeat (first | exact RNs.nil | refine RNs.cons .junk ?_ | refine RNs.cons (.keep rfl rfl) ?_ | refine RNs.cons (.lsl rfl rfl) ?_ | refine RNs.cons (.lsl rfl (by simp only [List.length_set])) ?_ | refine RNs.cons (.lptr rfl) ?_ | refine RNs.cons (.nil rfl) ?_ | refine RNs.cons .nl ?_ | refine RNs.cons (.keep (by simp only [h4]) rfl) ?_ | refine RNs.cons (.tuple' ?_) ?_ | refine RNs.cons (.agg' ?_) ?_)))
    · rcases v13 with v14 | v15
      · try dsimp only at hr
        try dsimp only
        repeat (first | with_reducible refine mv ?_ | with_reducible refine m12 rfl ?_ | with_reducible refine TO.nil ?_ | ((with_reducible first | apply TO.ld | apply TO.asg); (repeat (focus (show _ = _; first | exact k1 rfl | exact k2 rfl | (simp only [zz, ty_pulse_generator_period, e_i, Nat.reduceAdd, Nat.reduceMul, Nat.reduceLeDiff, tload, rowOf, partT, List.getElem?_map] <;> exact rfl) | exact rfl))); (with_reducible refine TO.here ?_)) | ((with_reducible apply TX.region); (focus (simp only [List.toList_toArray] <;> exact rfl)); (focus rfl); (try dsimp only)) | fail)
        cases hr
        refine ⟨.inr rfl, _, (by simp only [zy, ty_pulse_generator_period, e_i, tresAll, tres, tload, rowOf, partT]; exact rfl), ?_⟩
        exact wr [] rfl .nil
      · try dsimp only at hr
        try dsimp only
        repeat (first | with_reducible refine mv ?_ | with_reducible refine m12 rfl ?_ | with_reducible refine TO.nil ?_ | ((with_reducible first | apply TO.ld | apply TO.asg); (repeat (focus (show _ = _; first | exact k1 rfl | exact k2 rfl | (simp only [zz, ty_pulse_generator_period, e_i, Nat.reduceAdd, Nat.reduceMul, Nat.reduceLeDiff, tload, rowOf, partT, List.getElem?_map] <;> exact rfl) | exact rfl))); (with_reducible refine TO.here ?_)) | ((with_reducible apply TX.region); (focus (simp only [List.toList_toArray] <;> exact rfl)); (focus rfl); (try dsimp only)) | fail)
        cases hr
        refine ⟨.inr rfl, _, (by simp only [zy, ty_pulse_generator_period, e_i, tresAll, tres, tload, rowOf, partT]; exact rfl), ?_⟩
        exact wr [] rfl .nil
  rfl

end Go.Rex

namespace Go.Rex
open Go.Proofs
open Go Go.Rex Go.RowKit
set_option maxRecDepth 100000
def ty_pulse_generator_fullPeriod := an @ag3 <| an @fd102_0 <| @fd24_0
theorem pulse_generator_fullPeriod_spec {v1 : Int} {v2 : (List Int)} {v3 : Int} (hr : pulse_generator_fullPeriod v1 v2 = some (v3)) : Spec (lim Try.prog) 75 [.agg [.v (.int .i64 v1), .list 1 (v2.map e_i)]] ⟨[.v (.int .i64 v3)], []⟩ := by
  unfold pulse_generator_fullPeriod at hr
  apply Spec.fn Try.func75 rfl
  focus (simp [Try.f75] <;> exact rfl)
  focus
    repeat (first | with_reducible refine mv ?_ | with_reducible refine m12 rfl ?_ | with_reducible refine TO.nil ?_ | ((with_reducible first | apply TO.bf | apply TO.asg | apply TO.fa | apply TO.ld); (repeat (focus (show _ = _; first | exact k1 rfl | exact k2 rfl | (simp only [zz, ty_pulse_generator_fullPeriod, e_i, Nat.reduceAdd, Nat.reduceMul, Nat.reduceLeDiff, tfieldAddr, tload, rowOf, partT, List.getElem?_map] <;> exact rfl) | exact rfl))); (with_reducible refine TO.here ?_)) | ((with_reducible apply TX.region); (focus (simp only [List.toList_toArray] <;> exact rfl)); (focus rfl); (try dsimp only)) | fail)
    obtain ⟨v4, h1, hr⟩ := Option.bind_eq_some_iff.1 hr
    try dsimp only at hr
    apply TO.pop1 (by first | rfl | (simp only [twant, z1, List.getElem?_toArray, Option.bind_some]; done)) (pop_shift rfl rfl (by decide) (h1))
    (repeat (focus (show _ = _; first | exact k1 rfl | exact k2 rfl | (simp only [zz, ty_pulse_generator_fullPeriod, e_i, Nat.reduceAdd, Nat.reduceMul, Nat.reduceLeDiff] <;> exact rfl) | exact rfl)))
    with_reducible apply TO.here
    repeat (first | with_reducible refine mv ?_ | with_reducible refine m12 rfl ?_ | with_reducible refine TO.nil ?_ | ((with_reducible first | apply TO.bin | apply TO.asg); (repeat (focus (show _ = _; first | exact k1 rfl | exact k2 rfl | (simp only [zz, ty_pulse_generator_fullPeriod, e_i, Nat.reduceAdd, Nat.reduceMul, Nat.reduceLeDiff] <;> exact rfl) | exact rfl))); (with_reducible refine TO.here ?_)) | ((with_reducible apply TX.region); (focus (simp only [List.toList_toArray] <;> exact rfl)); (focus rfl); (try dsimp only)) | fail)
    cases hr
    refine ⟨.inr rfl, _, (by simp only [zy, ty_pulse_generator_fullPeriod, e_i, tresAll, tres, tload, rowOf, partT]; exact rfl), ?_⟩
    exact wr [] rfl .nil
  rfl

end Go.Rex

namespace Go.Rex
open Go.Proofs
open Go Go.Rex Go.RowKit
set_option maxRecDepth 100000
def ty_pulse_generator_isMaximal := an @ag102 <| an @cs102 <| @ok102
theorem pulse_generator_isMaximal_spec {v1 : Int} {v2 : (List Int)} {v3 : Bool} (hr : pulse_generator_isMaximal v1 v2 = some (v3)) : Spec (lim Try.prog) 70 [.agg [.v (.int .i64 v1), .list 1 (v2.map e_i)]] ⟨[.v (.bool v3)], []⟩ := by
  unfold pulse_generator_isMaximal at hr
  apply Spec.fn Try.func70 rfl
  focus (simp [Try.f70] <;> exact rfl)
  focus
    repeat (first | with_reducible refine mv ?_ | with_reducible refine m12 rfl ?_ | with_reducible refine TO.nil ?_ | ((with_reducible first | apply TO.bf | apply TO.asg); (repeat (focus (show _ = _; first | exact k1 rfl | exact k2 rfl | (simp only [zz, ty_pulse_generator_isMaximal, e_i, Nat.reduceAdd, Nat.reduceMul, Nat.reduceLeDiff] <;> exact rfl) | exact rfl))); (with_reducible refine TO.here ?_)) | ((with_reducible apply TX.region); (focus (simp only [List.toList_toArray] <;> exact rfl)); (focus rfl); (try dsimp only)) | with_reducible refine TD.nil ?_ | ((with_reducible first | apply TD.ld | apply TD.ldw); (repeat (focus (show _ = _; first | exact k1 rfl | exact k2 rfl | (simp only [zz, ty_pulse_generator_isMaximal, e_i, Nat.reduceAdd, Nat.reduceMul, Nat.reduceLeDiff, tload, rowOf, partT, List.getElem?_map] <;> exact rfl) | exact rfl))); (with_reducible refine TD.here ?_)) | ((with_reducible apply TX.drawn); (focus decide +kernel); (focus (simp only [List.toList_toArray] <;> exact rfl)); (focus exact rfl); (try dsimp only)) | fail)
    obtain ⟨v4, h1, hr⟩ := Option.bind_eq_some_iff.1 hr
    try dsimp only at hr
    first | apply TD.cal (by first | rfl | (simp only [twant, z1, List.getElem?_toArray, Option.bind_some]; done)) rfl goFn63 (pulse_generator_period_spec h1) rfl rfl rfl | apply TD.calw (by first | rfl | (simp only [twant, z1, List.getElem?_toArray, Option.bind_some]; done)) rfl goFn63 (pulse_generator_period_spec h1) rfl rfl rfl rfl
    (repeat (focus (show _ = _; first | exact k1 rfl | exact k2 rfl | (simp only [zz, ty_pulse_generator_isMaximal, e_i, Nat.reduceAdd, Nat.reduceMul, Nat.reduceLeDiff, shift, kill, killB, frz, frzB, view, tml, tmlc, List.length_set] <;> exact rfl) | exact rfl)))
    with_reducible apply TD.here
    repeat (first | with_reducible refine mv ?_ | with_reducible refine m12 rfl ?_ | with_reducible refine TD.nil ?_ | ((with_reducible first | apply TD.ld | apply TD.ldw); (repeat (focus (show _ = _; first | exact k1 rfl | exact k2 rfl | (simp only [zz, ty_pulse_generator_isMaximal, e_i, Nat.reduceAdd, Nat.reduceMul, Nat.reduceLeDiff, tload, rowOf, partT, List.getElem?_map] <;> exact rfl) | exact rfl))); (with_reducible refine TD.here ?_)) | ((with_reducible apply TX.drawn); (focus decide +kernel); (focus (simp only [List.toList_toArray] <;> exact rfl)); (focus exact rfl); (try dsimp only)) | fail)
    obtain ⟨v5, h2, hr⟩ := Option.bind_eq_some_iff.1 hr
    try dsimp only at hr
    first | apply TD.cal (by first | rfl | (simp only [twant, z1, List.getElem?_toArray, Option.bind_some]; done)) rfl goFn75 (pulse_generator_fullPeriod_spec h2) rfl rfl rfl | apply TD.calw (by first | rfl | (simp only [twant, z1, List.getElem?_toArray, Option.bind_some]; done)) rfl goFn75 (pulse_generator_fullPeriod_spec h2) rfl rfl rfl rfl
    (repeat (focus (show _ = _; first | exact k1 rfl | exact k2 rfl | (simp only [zz, ty_pulse_generator_isMaximal, e_i, Nat.reduceAdd, Nat.reduceMul, Nat.reduceLeDiff, shift, kill, killB, frz, frzB, view, tml, tmlc, List.length_set] <;> exact rfl) | exact rfl)))
    with_reducible apply TD.here
    repeat (first | with_reducible refine mv ?_ | with_reducible refine m12 rfl ?_ | with_reducible refine TD.nil ?_ | ((with_reducible first | apply TD.bin | apply TD.asg); (repeat (focus (show _ = _; first | exact k1 rfl | exact k2 rfl | (simp only [zz, ty_pulse_generator_isMaximal, e_i, Nat.reduceAdd, Nat.reduceMul, Nat.reduceLeDiff] <;> exact rfl) | exact rfl))); (with_reducible refine TD.here ?_)) | ((with_reducible apply TX.drawn); (focus decide +kernel); (focus (simp only [List.toList_toArray] <;> exact rfl)); (focus exact rfl); (try dsimp only)) | fail)
    cases hr
    refine ⟨.inr rfl, _, (by simp only [zy, ty_pulse_generator_isMaximal, e_i, tresAll, tres, tload, rowOf, partT]; exact rfl), ?_⟩
    exact wr [] rfl .nil
  rfl

end Go.Rex

namespace Go.Rex
open Go.Proofs
open Go Go.Rex Go.RowKit
set_option maxRecDepth 100000
def ty_pulse_IsMaximal := an @ag102 <| an @ag24 <| an @cs102 <| an @cs24 <| an @ok102 <| an @ok24 <| an @st102 <| @zc102
theorem pulse_IsMaximal_spec {v1 : Int} {v2 : (List Int)} {v3 : Bool} {v4 : Int} (hr : pulse_IsMaximal v1 v2 = some (v3, v4)) : Spec (lim Try.prog) 26 [.agg [.v (.int .i64 v1), .list 1 (v2.map e_i)]] ⟨[.tuple [.v (.bool v3), .v (.int .i64 v4)]], []⟩ := by
  unfold pulse_IsMaximal at hr
  apply Spec.fn Try.func26 rfl
  focus (simp [Try.f26] <;> exact rfl)
  focus
    repeat (first | with_reducible refine mv ?_ | with_reducible refine m12 rfl ?_ | with_reducible refine TO.nil ?_ | ((with_reducible first | apply TO.bf | apply TO.asg | apply TO.ld | apply TO.bld | apply TO.al | apply TO.sv); (repeat (focus (show _ = _; first | exact k1 rfl | exact k2 rfl | (simp only [zz, ty_pulse_IsMaximal, e_i, Nat.reduceAdd, Nat.reduceMul, Nat.reduceLeDiff, tload, rowOf, partT, List.getElem?_map, tbuild, tfill] <;> exact rfl) | exact rfl))); (with_reducible refine TO.here ?_)) | ((with_reducible apply TX.region); (focus (simp only [List.toList_toArray] <;> exact rfl)); (focus rfl); (try dsimp only)) | fail)
    obtain ⟨v5, h1, hr⟩ := Option.bind_eq_some_iff.1 hr
    try dsimp only at hr
    apply TO.cal (by first | rfl | (simp only [twant, z1, List.getElem?_toArray, Option.bind_some]; done)) rfl goFn59 (pulse_generator_check_spec h1) rfl rfl rfl
    (repeat (focus (show _ = _; first | exact k1 rfl | exact k2 rfl | (simp only [zz, ty_pulse_IsMaximal, e_i, Nat.reduceAdd, Nat.reduceMul, Nat.reduceLeDiff, shift, kill, killB, frz, frzB, view, tml, tmlc, List.length_set] <;> exact rfl) | exact rfl)))
    with_reducible apply TO.here
    repeat (first | with_reducible refine mv ?_ | with_reducible refine m12 rfl ?_ | with_reducible refine TO.nil ?_ | ((with_reducible first | apply TO.asg | apply TO.mv | apply TO.bin); (repeat (focus (show _ = _; first | exact k1 rfl | exact k2 rfl | (simp only [zz, ty_pulse_IsMaximal, e_i, Nat.reduceAdd, Nat.reduceMul, Nat.reduceLeDiff] <;> exact rfl) | exact rfl))); (with_reducible refine TO.here ?_)) | ((with_reducible apply TX.region); (focus (simp only [List.toList_toArray] <;> exact rfl)); (focus rfl); (try dsimp only)) | ((with_reducible apply TX.cond_true); (focus rfl); (focus (first | rfl | (simp only [z1, Bool.not_true, Bool.not_false]; done)))) | ((with_reducible apply TX.cond_false); (focus rfl); (focus (first | rfl | (simp only [z1, Bool.not_true, Bool.not_false]; done)))) | fail)
    rcases Bool.eq_false_or_eq_true ((decide (v5 ≠ 0))) with h2 | h2
    · rw [if_pos h2] at hr
      repeat (first | with_reducible refine mv ?_ | with_reducible refine m12 rfl ?_ | with_reducible refine TO.nil ?_ | ((with_reducible first | apply TO.mv | apply TO.asg); (repeat (focus (show _ = _; first | exact k1 rfl | exact k2 rfl | (simp only [zz, ty_pulse_IsMaximal, e_i, Nat.reduceAdd, Nat.reduceMul, Nat.reduceLeDiff, h2] <;> exact rfl) | exact rfl))); (with_reducible refine TO.here ?_)) | ((with_reducible apply TX.region); (focus (simp only [List.toList_toArray] <;> exact rfl)); (focus rfl); (try dsimp only)) | ((with_reducible apply TX.cond_true); (focus rfl); (focus (first | rfl | (simp only [z1, Bool.not_true, Bool.not_false, h2]; done)))) | ((with_reducible apply TX.cond_false); (focus rfl); (focus (first | rfl | (simp only [z1, Bool.not_true, Bool.not_false, h2]; done)))) | fail)
      cases hr
      refine ⟨.inr rfl, _, (by simp only [zy, ty_pulse_IsMaximal, e_i, tresAll, tres, tload, rowOf, partT, h2]; exact rfl), ?_⟩
      exact Wk.ren [] rfl .nil (by (repeat (first | exact RNs.nil | refine RNs.cons .junk ?_ | refine RNs.cons (.keep rfl rfl) ?_ | refine RNs.cons (.lsl rfl rfl) ?_ | refine RNs.cons (.lsl rfl (by simp only [List.length_set])) ?_ | refine RNs.cons (.lptr rfl) ?_ | refine RNs.cons (.nil rfl) ?_ | refine RNs.cons .nl ?_ | refine RNs.cons (.keep (by simp only [h2]) rfl) ?_ | refine RNs.cons (.tuple' ?_) ?_ | refine RNs.cons (.agg' ?_) ?_)))
    · rw [if_neg (by rw [h2]; exact Bool.false_ne_true)] at hr
      repeat (first | with_reducible refine mv ?_ | with_reducible refine m12 rfl ?_ | with_reducible refine TO.nil ?_ | ((with_reducible first | apply TO.ld); (repeat (focus (show _ = _; first | exact k1 rfl | exact k2 rfl | (simp only [zz, ty_pulse_IsMaximal, e_i, Nat.reduceAdd, Nat.reduceMul, Nat.reduceLeDiff, tload, rowOf, partT, List.getElem?_map, h2] <;> exact rfl) | exact rfl))); (with_reducible refine TO.here ?_)) | ((with_reducible apply TX.region); (focus (simp only [List.toList_toArray] <;> exact rfl)); (focus rfl); (try dsimp only)) | ((with_reducible apply TX.cond_true); (focus rfl); (focus (first | rfl | (simp only [z1, Bool.not_true, Bool.not_false, h2]; done)))) | ((with_reducible apply TX.cond_false); (focus rfl); (focus (first | rfl | (simp only [z1, Bool.not_true, Bool.not_false, h2]; done)))) | fail)
      obtain ⟨v6, h3, hr⟩ := Option.bind_eq_some_iff.1 hr
      try dsimp only at hr
      apply TO.cal (by first | rfl | (simp only [twant, z1, List.getElem?_toArray, Option.bind_some, h2]; done)) rfl goFn70 (pulse_generator_isMaximal_spec h3) rfl rfl rfl
      (repeat (focus (show _ = _; first | exact k1 rfl | exact k2 rfl | (simp only [zz, ty_pulse_IsMaximal, e_i, Nat.reduceAdd, Nat.reduceMul, Nat.reduceLeDiff, shift, kill, killB, frz, frzB, view, tml, tmlc, List.length_set, h2] <;> exact rfl) | exact rfl)))
      with_reducible apply TO.here
      repeat (first | with_reducible refine mv ?_ | with_reducible refine m12 rfl ?_ | with_reducible refine TO.nil ?_ | ((with_reducible first | apply TO.asg); (repeat (focus (show _ = _; first | exact k1 rfl | exact k2 rfl | (simp only [zz, ty_pulse_IsMaximal, e_i, Nat.reduceAdd, Nat.reduceMul, Nat.reduceLeDiff, h2] <;> exact rfl) | exact rfl))); (with_reducible refine TO.here ?_)) | ((with_reducible apply TX.region); (focus (simp only [List.toList_toArray] <;> exact rfl)); (focus rfl); (try dsimp only)) | fail)
      cases hr
      refine ⟨.inr rfl, _, (by simp only [zy, ty_pulse_IsMaximal, e_i, tresAll, tres, tload, rowOf, partT, h2]; exact rfl), ?_⟩
      exact Wk.ren [] rfl .nil (by (repeat (first | exact RNs.nil | refine RNs.cons .junk ?_ | refine RNs.cons (.keep rfl rfl) ?_ | refine RNs.cons (.lsl rfl rfl) ?_ | refine RNs.cons (.lsl rfl (by simp only [List.length_set])) ?_ | refine RNs.cons (.lptr rfl) ?_ | refine RNs.cons (.nil rfl) ?_ | refine RNs.cons .nl ?_ | refine RNs.cons (.keep (by simp only [h2]) rfl) ?_ | refine RNs.cons (.tuple' ?_) ?_ | refine RNs.cons (.agg' ?_) ?_)))
  rfl

end Go.Rex

namespace Go.Rex
open Go.Proofs
open Go Go.Rex Go.RowKit
set_option maxRecDepth 100000
theorem pulse_generator_startsAt_spec {v1 : Int} {v2 : (List Int)} {v3 : Int} {v4 : Int} {v5 : Int} {v6 : (List Int)} (hr : pulse_generator_startsAt v1 v2 v3 = some (v4, v5, v6)) : Spec (lim Try.prog) 60 [.agg [.v (.int .i64 v1), .list 1 (v2.map e_i)], .v (.int .i64 v3)] ⟨[.func 114 [] [.fptr true [.v (.int .i64 v4)] 0, .fptr true [.v (.int .i64 v5), .list 1 (v6.map e_i)] 0]], []⟩ := by
  unfold pulse_generator_startsAt at hr
  apply Spec.fn Try.func60 rfl
  focus (simp [Try.f60] <;> exact rfl)
  focus
    repeat (first | with_reducible refine mv ?_ | with_reducible refine m12 rfl ?_ | with_reducible refine TO.nil ?_ | ((with_reducible first | apply TO.bf | apply TO.asg | apply TO.mf); (repeat (focus (show _ = _; first | exact k1 rfl | exact k2 rfl | (simp only [zz, e_i, Nat.reduceAdd, Nat.reduceMul, Nat.reduceLeDiff] <;> exact rfl) | exact rfl))); (with_reducible refine TO.here ?_)) | ((with_reducible apply TX.region); (focus (simp only [List.toList_toArray] <;> exact rfl)); (focus rfl); (try dsimp only)) | fail)
    cases hr
    refine ⟨.inr rfl, _, (by simp only [zy, e_i, tresAll, tres, tload, rowOf, partT]; exact rfl), ?_⟩
    exact wr [] rfl .nil
  rfl

end Go.Rex

namespace Go.Rex
open Go.Proofs
open Go Go.Rex Go.RowKit
set_option maxRecDepth 100000
def ty_pulse_generator_startsAt_c1_63b1 := an @ag102 <| an @ag3 <| an @cs102 <| @ok102
theorem pulse_generator_startsAt_c1_63b1_spec {v1 : Int} {v2 : Int} {v3 : (List Int)} {v4 : Int} (hr : pulse_generator_startsAt_c1_63b1 v1 v2 v3 = some (v4)) : Spec (lim Try.prog) 114 [.fptr true [.v (.int .i64 v1)] 0, .fptr true [.v (.int .i64 v2), .list 1 (v3.map e_i)] 0] ⟨[.v (.int .i64 v4)], []⟩ := by
  unfold pulse_generator_startsAt_c1_63b1 at hr
  apply Spec.fn Try.func114 rfl
  focus (simp [Try.f114] <;> exact rfl)
  focus
    repeat (first | with_reducible refine mv ?_ | with_reducible refine m12 rfl ?_ | with_reducible refine TO.nil ?_ | ((with_reducible first | apply TO.asg); (repeat (focus (show _ = _; first | exact k1 rfl | exact k2 rfl | (simp only [zz, ty_pulse_generator_startsAt_c1_63b1, e_i, Nat.reduceAdd, Nat.reduceMul, Nat.reduceLeDiff] <;> exact rfl) | exact rfl))); (with_reducible refine TO.here ?_)) | ((with_reducible apply TX.region); (focus (simp only [List.toList_toArray] <;> exact rfl)); (focus rfl); (try dsimp only)) | with_reducible refine TD.nil ?_ | ((with_reducible first | apply TD.ld | apply TD.ldw); (repeat (focus (show _ = _; first | exact k1 rfl | exact k2 rfl | (simp only [zz, ty_pulse_generator_startsAt_c1_63b1, e_i, Nat.reduceAdd, Nat.reduceMul, Nat.reduceLeDiff, tload, rowOf, partT, List.getElem?_map] <;> exact rfl) | exact rfl))); (with_reducible refine TD.here ?_)) | ((with_reducible apply TX.drawn); (focus decide +kernel); (focus (simp only [List.toList_toArray] <;> exact rfl)); (focus exact rfl); (try dsimp only)) | fail)
    obtain ⟨v5, h1, hr⟩ := Option.bind_eq_some_iff.1 hr
    try dsimp only at hr
    first | apply TD.cal (by first | rfl | (simp only [twant, z1, List.getElem?_toArray, Option.bind_some]; done)) rfl goFn75 (pulse_generator_fullPeriod_spec h1) rfl rfl rfl | apply TD.calw (by first | rfl | (simp only [twant, z1, List.getElem?_toArray, Option.bind_some]; done)) rfl goFn75 (pulse_generator_fullPeriod_spec h1) rfl rfl rfl rfl
    (repeat (focus (show _ = _; first | exact k1 rfl | exact k2 rfl | (simp only [zz, ty_pulse_generator_startsAt_c1_63b1, e_i, Nat.reduceAdd, Nat.reduceMul, Nat.reduceLeDiff, shift, kill, killB, frz, frzB, view, tml, tmlc, List.length_set] <;> exact rfl) | exact rfl)))
    with_reducible apply TD.here
    repeat (first | with_reducible refine mv ?_ | with_reducible refine m12 rfl ?_ | with_reducible refine TD.nil ?_ | ((with_reducible apply TX.drawn); (focus decide +kernel); (focus (simp only [List.toList_toArray] <;> exact rfl)); (focus exact rfl); (try dsimp only)) | fail)
    obtain ⟨⟨v6, v7⟩, h2, hr⟩ := Option.bind_eq_some_iff.1 hr
    try dsimp only at hr
    first | apply TD.cal (by first | rfl | (simp only [twant, z1, List.getElem?_toArray, Option.bind_some]; done)) rfl goFn61 (pulse_within_spec h2) rfl rfl rfl | apply TD.calw (by first | rfl | (simp only [twant, z1, List.getElem?_toArray, Option.bind_some]; done)) rfl goFn61 (pulse_within_spec h2) rfl rfl rfl rfl
    (repeat (focus (show _ = _; first | exact k1 rfl | exact k2 rfl | (simp only [zz, ty_pulse_generator_startsAt_c1_63b1, e_i, Nat.reduceAdd, Nat.reduceMul, Nat.reduceLeDiff, shift, kill, killB, frz, frzB, view, tml, tmlc, List.length_set] <;> exact rfl) | exact rfl)))
    with_reducible apply TD.here
    repeat (first | with_reducible refine mv ?_ | with_reducible refine m12 rfl ?_ | with_reducible refine TD.nil ?_ | ((with_reducible apply TX.drawn); (focus decide +kernel); (focus (simp only [List.toList_toArray] <;> exact rfl)); (focus exact rfl); (try dsimp only)) | fail)
    obtain ⟨v8, h3, hr⟩ := Option.bind_eq_some_iff.1 hr
    try dsimp only at hr
    first | apply TD.cal (by first | rfl | (simp only [twant, z1, List.getElem?_toArray, Option.bind_some]; done)) rfl goFn117 (pulse_refuse_c1_11f9_spec h3) rfl rfl rfl | apply TD.calw (by first | rfl | (simp only [twant, z1, List.getElem?_toArray, Option.bind_some]; done)) rfl goFn117 (pulse_refuse_c1_11f9_spec h3) rfl rfl rfl rfl
    (repeat (focus (show _ = _; first | exact k1 rfl | exact k2 rfl | (simp only [zz, ty_pulse_generator_startsAt_c1_63b1, e_i, Nat.reduceAdd, Nat.reduceMul, Nat.reduceLeDiff, shift, kill, killB, frz, frzB, view, tml, tmlc, List.length_set] <;> exact rfl) | exact rfl)))
    with_reducible apply TD.here
    repeat (first | with_reducible refine mv ?_ | with_reducible refine m12 rfl ?_ | with_reducible refine TD.nil ?_ | ((with_reducible first | apply TD.asg); (repeat (focus (show _ = _; first | exact k1 rfl | exact k2 rfl | (simp only [zz, ty_pulse_generator_startsAt_c1_63b1, e_i, Nat.reduceAdd, Nat.reduceMul, Nat.reduceLeDiff] <;> exact rfl) | exact rfl))); (with_reducible refine TD.here ?_)) | ((with_reducible apply TX.drawn); (focus decide +kernel); (focus (simp only [List.toList_toArray] <;> exact rfl)); (focus exact rfl); (try dsimp only)) | fail)
    cases hr
    refine ⟨.inr rfl, _, (by simp only [zy, ty_pulse_generator_startsAt_c1_63b1, e_i, tresAll, tres, tload, rowOf, partT]; exact rfl), ?_⟩
    exact wr [] rfl .nil
  rfl

end Go.Rex

namespace Go.Rex
open Go.Proofs
open Go Go.Rex Go.RowKit
set_option maxRecDepth 100000
def ty_pulse_firstError_1137 := an @ag105 <| an @cs105 <| an @ok105 <| an @so149 <| an @wi64_0a1 <| @wi64_1a1
theorem pulse_firstError_1137_spec {v1 : Int} {v2 : (List Int)} {v3 : Int} {v4 : Int} {v5 : (List Int)} {v6 : Int} (hr : pulse_firstError_1137 v1 v2 v3 v4 v5 = some (v6)) : Spec (lim Try.prog) 58 [.list 1 [[.func 59 [.agg [.v (.int .i64 v1), .list 1 (v2.map e_i)]] []], [.func 114 [] [.fptr true [.v (.int .i64 v3)] 0, .fptr true [.v (.int .i64 v4), .list 1 (v5.map e_i)] 0]]]] ⟨[.v (.int .i64 v6)], []⟩ := by
  unfold pulse_firstError_1137 at hr
  apply Spec.fn Try.func58 rfl
  focus (simp [Try.f58] <;> exact rfl)
  focus
    repeat (first | with_reducible refine mv ?_ | with_reducible refine m12 rfl ?_ | with_reducible refine TO.nil ?_ | ((with_reducible first | apply TO.asg | apply TO.mv | apply TO.len); (repeat (focus (show _ = _; first | exact k1 rfl | exact k2 rfl | (simp only [zz, ty_pulse_firstError_1137, e_i, Nat.reduceAdd, Nat.reduceMul, Nat.reduceLeDiff, tlen] <;> exact rfl) | exact rfl))); (with_reducible refine TO.here ?_)) | ((with_reducible apply TX.region); (focus (simp only [List.toList_toArray] <;> exact rfl)); (focus rfl); (try dsimp only)) | fail)
    refine TX.unroll ?_
    repeat (first | with_reducible refine mv ?_ | with_reducible refine m12 rfl ?_ | with_reducible refine TO.nil ?_ | ((with_reducible first | apply TO.bin | apply TO.ia | apply TO.ld | apply TO.asg | apply TO.mv); (repeat (focus (show _ = _; first | exact k1 rfl | exact k2 rfl | (simp only [zz, ty_pulse_firstError_1137, e_i, Nat.reduceAdd, Nat.reduceMul, Nat.reduceLeDiff, tindexAddr, z5, Int.reduceToNat, Int.reduceLE, Int.reduceLT, Int.cast_ofNat_Int, tload, rowOf, partT, List.getElem?_map] <;> exact rfl) | exact rfl))); (with_reducible refine TO.here ?_)) | ((with_reducible apply TX.region); (focus (simp only [List.toList_toArray] <;> exact rfl)); (focus rfl); (try dsimp only)) | ((with_reducible apply TX.cond_true); (focus rfl); (focus (first | rfl | (simp only [z1, Bool.not_true, Bool.not_false]; done)))) | ((with_reducible apply TX.cond_false); (focus rfl); (focus (first | rfl | (simp only [z1, Bool.not_true, Bool.not_false]; done)))) | fail)
    obtain ⟨v7, h1, hr⟩ := Option.bind_eq_some_iff.1 hr
    try dsimp only at hr
    apply TO.cal (by first | rfl | (simp only [twant, z1, List.getElem?_toArray, Option.bind_some]; done)) rfl goFn59 (pulse_generator_check_spec h1) rfl rfl rfl
    (repeat (focus (show _ = _; first | exact k1 rfl | exact k2 rfl | (simp only [zz, ty_pulse_firstError_1137, e_i, Nat.reduceAdd, Nat.reduceMul, Nat.reduceLeDiff, shift, kill, killB, frz, frzB, view, tml, tmlc, List.length_set] <;> exact rfl) | exact rfl)))
    with_reducible apply TO.here
    repeat (first | with_reducible refine mv ?_ | with_reducible refine m12 rfl ?_ | with_reducible refine TO.nil ?_ | ((with_reducible first | apply TO.asg | apply TO.mv | apply TO.bin); (repeat (focus (show _ = _; first | exact k1 rfl | exact k2 rfl | (simp only [zz, ty_pulse_firstError_1137, e_i, Nat.reduceAdd, Nat.reduceMul, Nat.reduceLeDiff] <;> exact rfl) | exact rfl))); (with_reducible refine TO.here ?_)) | ((with_reducible apply TX.region); (focus (simp only [List.toList_toArray] <;> exact rfl)); (focus rfl); (try dsimp only)) | ((with_reducible apply TX.cond_true); (focus rfl); (focus (first | rfl | (simp only [z1, Bool.not_true, Bool.not_false]; done)))) | ((with_reducible apply TX.cond_false); (focus rfl); (focus (first | rfl | (simp only [z1, Bool.not_true, Bool.not_false]; done)))) | fail)
    rcases Bool.eq_false_or_eq_true ((decide (v7 ≠ 0))) with h2 | h2
    · rw [if_pos h2] at hr
      repeat (first | with_reducible refine mv ?_ | with_reducible refine m12 rfl ?_ | with_reducible refine TO.nil ?_ | ((with_reducible first | apply TO.mv | apply TO.asg); (repeat (focus (show _ = _; first | exact k1 rfl | exact k2 rfl | (simp only [zz, ty_pulse_firstError_1137, e_i, Nat.reduceAdd, Nat.reduceMul, Nat.reduceLeDiff, h2] <;> exact rfl) | exact rfl))); (with_reducible refine TO.here ?_)) | ((with_reducible apply TX.region); (focus (simp only [List.toList_toArray] <;> exact rfl)); (focus rfl); (try dsimp only)) | ((with_reducible apply TX.cond_true); (focus rfl); (focus (first | rfl | (simp only [z1, Bool.not_true, Bool.not_false, h2]; done)))) | ((with_reducible apply TX.cond_false); (focus rfl); (focus (first | rfl | (simp only [z1, Bool.not_true, Bool.not_false, h2]; done)))) | fail)
      cases hr
      refine ⟨.inr rfl, _, (by simp only [zy, ty_pulse_firstError_1137, e_i, tresAll, tres, tload, rowOf, partT, h2]; exact rfl), ?_⟩
      exact Wk.ren [] rfl .nil (by (repeat (first | exact RNs.nil | refine RNs.cons .junk ?_ | refine RNs.cons (.keep rfl rfl) ?_ | refine RNs.cons (.lsl rfl rfl) ?_ | refine RNs.cons (.lsl rfl (by simp only [List.length_set])) ?_ | refine RNs.cons (.lptr rfl) ?_ | refine RNs.cons (.nil rfl) ?_ | refine RNs.cons .nl ?_ | refine RNs.cons (.keep (by simp only [h2]) rfl) ?_ | refine RNs.cons (.tuple' ?_) ?_ | refine RNs.cons (.agg' ?_) ?_)))
    · rw [if_neg (by rw [h2]; exact Bool.false_ne_true)] at hr
      repeat (first | with_reducible refine mv ?_ | with_reducible refine m12 rfl ?_ | with_reducible refine TO.nil ?_ | ((with_reducible first | apply TO.bin | apply TO.mv); (repeat (focus (show _ = _; first | exact k1 rfl | exact k2 rfl | (simp only [zz, ty_pulse_firstError_1137, e_i, Nat.reduceAdd, Nat.reduceMul, Nat.reduceLeDiff, h2] <;> exact rfl) | exact rfl))); (with_reducible refine TO.here ?_)) | ((with_reducible apply TX.region); (focus (simp only [List.toList_toArray] <;> exact rfl)); (focus rfl); (try dsimp only)) | ((with_reducible apply TX.cond_true); (focus rfl); (focus (first | rfl | (simp only [z1, Bool.not_true, Bool.not_false, h2]; done)))) | ((with_reducible apply TX.cond_false); (focus rfl); (focus (first | rfl | (simp only [z1, Bool.not_true, Bool.not_false, h2]; done)))) | fail)
      refine TX.unroll ?_
      repeat (first | with_reducible refine mv ?_ | with_reducible refine m12 rfl ?_ | with_reducible refine TO.nil ?_ | ((with_reducible first | apply TO.bin | apply TO.ia | apply TO.ld | apply TO.asg | apply TO.mv); (repeat (focus (show _ = _; first | exact k1 rfl | exact k2 rfl | (simp only [zz, ty_pulse_firstError_1137, e_i, Nat.reduceAdd, Nat.reduceMul, Nat.reduceLeDiff, tindexAddr, z5, Int.reduceToNat, Int.reduceLE, Int.reduceLT, Int.cast_ofNat_Int, tload, rowOf, partT, List.getElem?_map, h2] <;> exact rfl) | exact rfl))); (with_reducible refine TO.here ?_)) | ((with_reducible apply TX.region); (focus (simp only [List.toList_toArray] <;> exact rfl)); (focus rfl); (try dsimp only)) | ((with_reducible apply TX.cond_true); (focus rfl); (focus (first | rfl | (simp only [z1, Bool.not_true, Bool.not_false, h2]; done)))) | ((with_reducible apply TX.cond_false); (focus rfl); (focus (first | rfl | (simp only [z1, Bool.not_true, Bool.not_false, h2]; done)))) | fail)
      obtain ⟨v8, h3, hr⟩ := Option.bind_eq_some_iff.1 hr
      try dsimp only at hr
      apply TO.cal (by first | rfl | (simp only [twant, z1, List.getElem?_toArray, Option.bind_some, h2]; done)) rfl goFn114 (pulse_generator_startsAt_c1_63b1_spec h3) rfl rfl rfl
      (repeat (focus (show _ = _; first | exact k1 rfl | exact k2 rfl | (simp only [zz, ty_pulse_firstError_1137, e_i, Nat.reduceAdd, Nat.reduceMul, Nat.reduceLeDiff, shift, kill, killB, frz, frzB, view, tml, tmlc, List.length_set, h2] <;> exact rfl) | exact rfl)))
      with_reducible apply TO.here
      repeat (first | with_reducible refine mv ?_ | with_reducible refine m12 rfl ?_ | with_reducible refine TO.nil ?_ | ((with_reducible first | apply TO.asg | apply TO.mv | apply TO.bin); (repeat (focus (show _ = _; first | exact k1 rfl | exact k2 rfl | (simp only [zz, ty_pulse_firstError_1137, e_i, Nat.reduceAdd, Nat.reduceMul, Nat.reduceLeDiff, h2] <;> exact rfl) | exact rfl))); (with_reducible refine TO.here ?_)) | ((with_reducible apply TX.region); (focus (simp only [List.toList_toArray] <;> exact rfl)); (focus rfl); (try dsimp only)) | ((with_reducible apply TX.cond_true); (focus rfl); (focus (first | rfl | (simp only [z1, Bool.not_true, Bool.not_false, h2]; done)))) | ((with_reducible apply TX.cond_false); (focus rfl); (focus (first | rfl | (simp only [z1, Bool.not_true, Bool.not_false, h2]; done)))) | fail)
      rcases Bool.eq_false_or_eq_true ((decide (v8 ≠ 0))) with h4 | h4
      · rw [if_pos h4] at hr
        repeat (first | with_reducible refine mv ?_ | with_reducible refine m12 rfl ?_ | with_reducible refine TO.nil ?_ | ((with_reducible first | apply TO.mv | apply TO.asg); (repeat (focus (show _ = _; first | exact k1 rfl | exact k2 rfl | (simp only [zz, ty_pulse_firstError_1137, e_i, Nat.reduceAdd, Nat.reduceMul, Nat.reduceLeDiff, h2, h4] <;> exact rfl) | exact rfl))); (with_reducible refine TO.here ?_)) | ((with_reducible apply TX.region); (focus (simp only [List.toList_toArray] <;> exact rfl)); (focus rfl); (try dsimp only)) | ((with_reducible apply TX.cond_true); (focus rfl); (focus (first | rfl | (simp only [z1, Bool.not_true, Bool.not_false, h2, h4]; done)))) | ((with_reducible apply TX.cond_false); (focus rfl); (focus (first | rfl | (simp only [z1, Bool.not_true, Bool.not_false, h2, h4]; done)))) | fail)
        cases hr
        refine ⟨.inr rfl, _, (by simp only [zy, ty_pulse_firstError_1137, e_i, tresAll, tres, tload, rowOf, partT, h2, h4]; exact rfl), ?_⟩
        exact Wk.ren [] rfl .nil (by (repeat (first | exact RNs.nil | refine RNs.cons .junk ?_ | refine RNs.cons (.keep rfl rfl) ?_ | refine RNs.cons (.lsl rfl rfl) ?_ | refine RNs.cons (.lsl rfl (by simp only [List.length_set])) ?_ | refine RNs.cons (.lptr rfl) ?_ | refine RNs.cons (.nil rfl) ?_ | refine RNs.cons .nl ?_ | refine RNs.cons (.keep (by simp only [h2, h4]) rfl) ?_ | refine RNs.cons (.tuple' ?_) ?_ | refine RNs.cons (.agg' ?_) ?_)))
      · rw [if_neg (by rw [h4]; exact Bool.false_ne_true)] at hr
        repeat (first | with_reducible refine mv ?_ | with_reducible refine m12 rfl ?_ | with_reducible refine TO.nil ?_ | ((with_reducible first | apply TO.bin | apply TO.mv); (repeat (focus (show _ = _; first | exact k1 rfl | exact k2 rfl | (simp only [zz, ty_pulse_firstError_1137, e_i, Nat.reduceAdd, Nat.reduceMul, Nat.reduceLeDiff, h2, h4] <;> exact rfl) | exact rfl))); (with_reducible refine TO.here ?_)) | ((with_reducible apply TX.region); (focus (simp only [List.toList_toArray] <;> exact rfl)); (focus rfl); (try dsimp only)) | ((with_reducible apply TX.cond_true); (focus rfl); (focus (first | rfl | (simp only [z1, Bool.not_true, Bool.not_false, h2, h4]; done)))) | ((with_reducible apply TX.cond_false); (focus rfl); (focus (first | rfl | (simp only [z1, Bool.not_true, Bool.not_false, h2, h4]; done)))) | fail)
        refine TX.unroll ?_
        repeat (first | with_reducible refine mv ?_ | with_reducible refine m12 rfl ?_ | with_reducible refine TO.nil ?_ | ((with_reducible first | apply TO.bin | apply TO.asg); (repeat (focus (show _ = _; first | exact k1 rfl | exact k2 rfl | (simp only [zz, ty_pulse_firstError_1137, e_i, Nat.reduceAdd, Nat.reduceMul, Nat.reduceLeDiff, h2, h4] <;> exact rfl) | exact rfl))); (with_reducible refine TO.here ?_)) | ((with_reducible apply TX.region); (focus (simp only [List.toList_toArray] <;> exact rfl)); (focus rfl); (try dsimp only)) | ((with_reducible apply TX.cond_true); (focus rfl); (focus (first | rfl | (simp only [z1, Bool.not_true, Bool.not_false, h2, h4]; done)))) | ((with_reducible apply TX.cond_false); (focus rfl); (focus (first | rfl | (simp only [z1, Bool.not_true, Bool.not_false, h2, h4]; done)))) | fail)
        cases hr
        refine ⟨.inr rfl, _, (by simp only [zy, ty_pulse_firstError_1137, e_i, tresAll, tres, tload, rowOf, partT, h2, h4]; exact rfl), ?_⟩
        exact Wk.ren [] rfl .nil (by (repeat (first | exact RNs.nil | refine RNs.cons .junk ?_ | refine RNs.cons (.keep rfl rfl) ?_ | refine RNs.cons (.lsl rfl rfl) ?_ | refine RNs.cons (.lsl rfl (by simp only [List.length_set])) ?_ | refine RNs.cons (.lptr rfl) ?_ | refine RNs.cons (.nil rfl) ?_ | refine RNs.cons .nl ?_ | refine RNs.cons (.keep (by simp only [h2, h4]) rfl) ?_ | refine RNs.cons (.tuple' ?_) ?_ | refine RNs.cons (.agg' ?_) ?_)))
  rfl

end Go.Rex

namespace Go.Rex
open Go.Proofs
open Go Go.Rex Go.RowKit
set_option maxRecDepth 100000
def ty_pulse_Period := an @ag102 <| an @ag24 <| an @cs102 <| an @cs105 <| an @cs24 <| an @ok102 <| an @ok24 <| an @so149 <| an @st102 <| an @zc102 <| @zc105
theorem pulse_Period_spec {v1 : Int} {v2 : (List Int)} {v3 : Int} {v4 : Int} {v5 : Int} (hr : pulse_Period v1 v2 v3 = some (v4, v5)) : Spec (lim Try.prog) 14 [.agg [.v (.int .i64 v1), .list 1 (v2.map e_i)], .v (.int .i64 v3)] ⟨[.tuple [.v (.int .i64 v4), .v (.int .i64 v5)]], []⟩ := by
  unfold pulse_Period at hr
  apply Spec.fn Try.func14 rfl
  focus (simp [Try.f14] <;> exact rfl)
  focus
    repeat (first | with_reducible refine mv ?_ | with_reducible refine m12 rfl ?_ | with_reducible refine TO.nil ?_ | ((with_reducible first | apply TO.bf | apply TO.asg | apply TO.ld | apply TO.bld | apply TO.al | apply TO.sv); (repeat (focus (show _ = _; first | exact k1 rfl | exact k2 rfl | (simp only [zz, ty_pulse_Period, e_i, Nat.reduceAdd, Nat.reduceMul, Nat.reduceLeDiff, tload, rowOf, partT, List.getElem?_map, tbuild, tfill] <;> exact rfl) | exact rfl))); (with_reducible refine TO.here ?_)) | ((with_reducible apply TX.region); (focus (simp only [List.toList_toArray] <;> exact rfl)); (focus rfl); (try dsimp only)) | with_reducible refine TD.nil ?_ | ((with_reducible first | apply TD.ld | apply TD.ldw | apply TD.mf | apply TD.mv); (repeat (focus (show _ = _; first | exact k1 rfl | exact k2 rfl | (simp only [zz, ty_pulse_Period, e_i, Nat.reduceAdd, Nat.reduceMul, Nat.reduceLeDiff, tload, rowOf, partT, List.getElem?_map] <;> exact rfl) | exact rfl))); (with_reducible refine TD.here ?_)) | ((with_reducible apply TX.drawn); (focus decide +kernel); (focus (simp only [List.toList_toArray] <;> exact rfl)); (focus exact rfl); (try dsimp only)) | fail)
    obtain ⟨⟨v6, v7, v8⟩, h1, hr⟩ := Option.bind_eq_some_iff.1 hr
    try dsimp only at hr
    first | apply TD.cal (by first | rfl | (simp only [twant, z1, List.getElem?_toArray, Option.bind_some]; done)) rfl goFn60 (pulse_generator_startsAt_spec h1) rfl rfl rfl | apply TD.calw (by first | rfl | (simp only [twant, z1, List.getElem?_toArray, Option.bind_some]; done)) rfl goFn60 (pulse_generator_startsAt_spec h1) rfl rfl rfl rfl
    (repeat (focus (show _ = _; first | exact k1 rfl | exact k2 rfl | (simp only [zz, ty_pulse_Period, e_i, Nat.reduceAdd, Nat.reduceMul, Nat.reduceLeDiff, shift, kill, killB, frz, frzB, view, tml, tmlc, List.length_set] <;> exact rfl) | exact rfl)))
    with_reducible apply TD.here
    repeat (first | with_reducible refine mv ?_ | with_reducible refine m12 rfl ?_ | with_reducible refine TD.nil ?_ | ((with_reducible first | apply TD.bs); (repeat (focus (show _ = _; first | exact k1 rfl | exact k2 rfl | (simp only [zz, ty_pulse_Period, e_i, Nat.reduceAdd, Nat.reduceMul, Nat.reduceLeDiff, tslice, tparts] <;> exact rfl) | exact rfl))); (with_reducible refine TD.here ?_)) | ((with_reducible apply TX.drawn); (focus decide +kernel); (focus (simp only [List.toList_toArray] <;> exact rfl)); (focus exact rfl); (try dsimp only)) | fail)
    obtain ⟨v9, h2, hr⟩ := Option.bind_eq_some_iff.1 hr
    try dsimp only at hr
    first | apply TD.cal (by first | rfl | (simp only [twant, z1, List.getElem?_toArray, Option.bind_some]; done)) rfl goFn58 (pulse_firstError_1137_spec h2) rfl rfl rfl | apply TD.calw (by first | rfl | (simp only [twant, z1, List.getElem?_toArray, Option.bind_some]; done)) rfl goFn58 (pulse_firstError_1137_spec h2) rfl rfl rfl rfl
    (repeat (focus (show _ = _; first | exact k1 rfl | exact k2 rfl | (simp only [zz, ty_pulse_Period, e_i, Nat.reduceAdd, Nat.reduceMul, Nat.reduceLeDiff, shift, kill, killB, frz, frzB, view, tml, tmlc, List.length_set] <;> exact rfl) | exact rfl)))
    with_reducible apply TD.here
    repeat (first | with_reducible refine mv ?_ | with_reducible refine m12 rfl ?_ | with_reducible refine TO.nil ?_ | ((with_reducible first | apply TO.mv | apply TO.bin); (repeat (focus (show _ = _; first | exact k1 rfl | exact k2 rfl | (simp only [zz, ty_pulse_Period, e_i, Nat.reduceAdd, Nat.reduceMul, Nat.reduceLeDiff] <;> exact rfl) | exact rfl))); (with_reducible refine TO.here ?_)) | ((with_reducible apply TX.region); (focus (simp only [List.toList_toArray] <;> exact rfl)); (focus rfl); (try dsimp only)) | with_reducible refine TD.nil ?_ | ((with_reducible first | apply TD.asg); (repeat (focus (show _ = _; first | exact k1 rfl | exact k2 rfl | (simp only [zz, ty_pulse_Period, e_i, Nat.reduceAdd, Nat.reduceMul, Nat.reduceLeDiff] <;> exact rfl) | exact rfl))); (with_reducible refine TD.here ?_)) | ((with_reducible apply TX.drawn); (focus decide +kernel); (focus (simp only [List.toList_toArray] <;> exact rfl)); (focus exact rfl); (try dsimp only)) | ((with_reducible apply TX.cond_true); (focus rfl); (focus (first | rfl | (simp only [z1, Bool.not_true, Bool.not_false]; done)))) | ((with_reducible apply TX.cond_false); (focus rfl); (focus (first | rfl | (simp only [z1, Bool.not_true, Bool.not_false]; done)))) | fail)
    rcases Bool.eq_false_or_eq_true ((decide (v9 ≠ 0))) with h3 | h3
    · rw [if_pos h3] at hr
      repeat (first | with_reducible refine mv ?_ | with_reducible refine m12 rfl ?_ | with_reducible refine TO.nil ?_ | ((with_reducible first | apply TO.mv | apply TO.asg); (repeat (focus (show _ = _; first | exact k1 rfl | exact k2 rfl | (simp only [zz, ty_pulse_Period, e_i, Nat.reduceAdd, Nat.reduceMul, Nat.reduceLeDiff, h3] <;> exact rfl) | exact rfl))); (with_reducible refine TO.here ?_)) | ((with_reducible apply TX.region); (focus (simp only [List.toList_toArray] <;> exact rfl)); (focus rfl); (try dsimp only)) | ((with_reducible apply TX.cond_true); (focus rfl); (focus (first | rfl | (simp only [z1, Bool.not_true, Bool.not_false, h3]; done)))) | ((with_reducible apply TX.cond_false); (focus rfl); (focus (first | rfl | (simp only [z1, Bool.not_true, Bool.not_false, h3]; done)))) | fail)
      cases hr
      refine ⟨.inr rfl, _, (by simp only [zy, ty_pulse_Period, e_i, tresAll, tres, tload, rowOf, partT, h3]; exact rfl), ?_⟩
      exact Wk.ren [] rfl .nil (by (repeat (first | exact RNs.nil | refine RNs.cons .junk ?_ | refine RNs.cons (.keep rfl rfl) ?_ | refine RNs.cons (.lsl rfl rfl) ?_ | refine RNs.cons (.lsl rfl (by simp only [List.length_set])) ?_ | refine RNs.cons (.lptr rfl) ?_ | refine RNs.cons (.nil rfl) ?_ | refine RNs.cons .nl ?_ | refine RNs.cons (.keep (by simp only [h3]) rfl) ?_ | refine RNs.cons (.tuple' ?_) ?_ | refine RNs.cons (.agg' ?_) ?_)))
    · rw [if_neg (by rw [h3]; exact Bool.false_ne_true)] at hr
      repeat (first | with_reducible refine mv ?_ | with_reducible refine m12 rfl ?_ | with_reducible refine TO.nil ?_ | ((with_reducible first | apply TO.ld | apply TO.mv); (repeat (focus (show _ = _; first | exact k1 rfl | exact k2 rfl | (simp only [zz, ty_pulse_Period, e_i, Nat.reduceAdd, Nat.reduceMul, Nat.reduceLeDiff, tload, rowOf, partT, List.getElem?_map, h3] <;> exact rfl) | exact rfl))); (with_reducible refine TO.here ?_)) | ((with_reducible apply TX.region); (focus (simp only [List.toList_toArray] <;> exact rfl)); (focus rfl); (try dsimp only)) | ((with_reducible apply TX.cond_true); (focus rfl); (focus (first | rfl | (simp only [z1, Bool.not_true, Bool.not_false, h3]; done)))) | ((with_reducible apply TX.cond_false); (focus rfl); (focus (first | rfl | (simp only [z1, Bool.not_true, Bool.not_false, h3]; done)))) | fail)
      obtain ⟨v10, h4, hr⟩ := Option.bind_eq_some_iff.1 hr
      try dsimp only at hr
      apply TO.cal (by first | rfl | (simp only [twant, z1, List.getElem?_toArray, Option.bind_some, h3]; done)) rfl goFn63 (pulse_generator_period_spec h4) rfl rfl rfl
      (repeat (focus (show _ = _; first | exact k1 rfl | exact k2 rfl | (simp only [zz, ty_pulse_Period, e_i, Nat.reduceAdd, Nat.reduceMul, Nat.reduceLeDiff, shift, kill, killB, frz, frzB, view, tml, tmlc, List.length_set, h3] <;> exact rfl) | exact rfl)))
      with_reducible apply TO.here
      repeat (first | with_reducible refine mv ?_ | with_reducible refine m12 rfl ?_ | with_reducible refine TO.nil ?_ | ((with_reducible first | apply TO.asg); (repeat (focus (show _ = _; first | exact k1 rfl | exact k2 rfl | (simp only [zz, ty_pulse_Period, e_i, Nat.reduceAdd, Nat.reduceMul, Nat.reduceLeDiff, h3] <;> exact rfl) | exact rfl))); (with_reducible refine TO.here ?_)) | ((with_reducible apply TX.region); (focus (simp only [List.toList_toArray] <;> exact rfl)); (focus rfl); (try dsimp only)) | fail)
      cases hr
      refine ⟨.inr rfl, _, (by simp only [zy, ty_pulse_Period, e_i, tresAll, tres, tload, rowOf, partT, h3]; exact rfl), ?_⟩
      exact Wk.ren [] rfl .nil (by (repeat (first | exact RNs.nil | refine RNs.cons .junk ?_ | refine RNs.cons (.keep rfl rfl) ?_ | refine RNs.cons (.lsl rfl rfl) ?_ | refine RNs.cons (.lsl rfl (by simp only [List.length_set])) ?_ | refine RNs.cons (.lptr rfl) ?_ | refine RNs.cons (.nil rfl) ?_ | refine RNs.cons .nl ?_ | refine RNs.cons (.keep (by simp only [h3]) rfl) ?_ | refine RNs.cons (.tuple' ?_) ?_ | refine RNs.cons (.agg' ?_) ?_)))
  rfl

end Go.Rex

namespace Go.Rex
open Go.Proofs
open Go Go.Rex Go.RowKit
set_option maxRecDepth 100000
def ty_ref04_Primes := an @by3 <| an @cs3 <| an @ni22 <| an @so22 <| an @zc3 <| @wi64_2a1
theorem ref04_Primes_spec {v1 : Int} {v2 : (List Int)} (hr : ref04_Primes v1 = some (v2)) : Spec (lim Try.prog) 34 [.v (.int .i64 v1)] ⟨[.lsl 0 0 v2.length], [.rows 1 (v2.map e_i)]⟩ := by
  unfold ref04_Primes at hr
  apply Spec.fn Try.func34 rfl
  focus (simp [Try.f34] <;> exact rfl)
  focus
    repeat (first | with_reducible refine mv ?_ | with_reducible refine m12 rfl ?_ | with_reducible refine TO.nil ?_ | ((with_reducible first | apply TO.asg); (repeat (focus (show _ = _; first | exact k1 rfl | exact k2 rfl | (simp only [zz, ty_ref04_Primes, e_i, Nat.reduceAdd, Nat.reduceMul, Nat.reduceLeDiff] <;> exact rfl) | exact rfl))); (with_reducible refine TO.here ?_)) | ((with_reducible apply TX.region); (focus (simp only [List.toList_toArray] <;> exact rfl)); (focus rfl); (try dsimp only)) | fail)
    apply TX.vt (α := Int) e_i 3 1 rfl
    (repeat (focus (show _ = _; first | exact k1 rfl | exact k2 rfl | (simp only [zz, ty_ref04_Primes, e_i, Nat.reduceAdd, Nat.reduceMul, Nat.reduceLeDiff] <;> exact rfl) | exact rfl)))
    with_reducible apply TX.here
    repeat (first | with_reducible refine mv ?_ | with_reducible refine m12 rfl ?_ | fail)
    obtain ⟨v15, h17, hr⟩ := Option.bind_eq_some_iff.1 hr
    try dsimp only at hr
    refine TX.loopE (step := ref04_Primes_l1) (x := (v1, ([] : List Int), 2)) h17 (fun (v3, v4, v5) => ⟨.v (.int .i64 v3) :: .junk :: .junk :: .lsl 0 0 v4.length :: .v (.int .i64 v5) :: .junk :: .junk :: .junk :: .junk :: .junk :: .junk :: .junk :: .junk :: .junk :: .junk :: .junk :: .junk :: .junk :: .junk :: .junk :: .junk :: .junk :: .junk :: .junk :: .junk :: [], [.rows 1 (v4.map e_i)]⟩) (fun v10 => (.exit 0, ⟨.junk :: .junk :: .junk :: .lsl 0 0 v10.length :: .junk :: .junk :: .junk :: .junk :: .junk :: .junk :: .junk :: .junk :: .junk :: .junk :: .junk :: .junk :: .junk :: .junk :: .junk :: .junk :: .junk :: .junk :: .junk :: .junk :: .junk :: [], [.rows 1 (v10.map e_i)]⟩)) ?_ ?_ ?_ ?_
    · rintro ⟨v3, v4, v5⟩ v0 hr
      dsimp only [ref04_Primes_l1] at hr
      try dsimp only
      repeat (first | with_reducible refine mv ?_ | with_reducible refine m12 rfl ?_ | with_reducible refine TO.nil ?_ | ((with_reducible first | apply TO.mv | apply TO.bin); (repeat (focus (show _ = _; first | exact k1 rfl | exact k2 rfl | (simp only [zz, ty_ref04_Primes, e_i, Nat.reduceAdd, Nat.reduceMul, Nat.reduceLeDiff] <;> exact rfl) | exact rfl))); (with_reducible refine TO.here ?_)) | ((with_reducible apply TX.region); (focus (simp only [List.toList_toArray] <;> exact rfl)); (focus rfl); (try dsimp only)) | ((with_reducible apply TX.cond_true); (focus rfl); (focus (first | rfl | (simp only [z1, Bool.not_true, Bool.not_false]; done)))) | ((with_reducible apply TX.cond_false); (focus rfl); (focus (first | rfl | (simp only [z1, Bool.not_true, Bool.not_false]; done)))) | fail)
      rcases Bool.eq_false_or_eq_true ((decide (v3 > 1))) with h9 | h9
      · rw [if_pos h9] at hr
        repeat (first | with_reducible refine mv ?_ | with_reducible refine m12 rfl ?_ | with_reducible refine TO.nil ?_ | ((with_reducible first | apply TO.mv); (repeat (focus (show _ = _; first | exact k1 rfl | exact k2 rfl | (simp only [zz, ty_ref04_Primes, e_i, Nat.reduceAdd, Nat.reduceMul, Nat.reduceLeDiff, h9] <;> exact rfl) | exact rfl))); (with_reducible refine TO.here ?_)) | ((with_reducible apply TX.region); (focus (simp only [List.toList_toArray] <;> exact rfl)); (focus rfl); (try dsimp only)) | ((with_reducible apply TX.cond_true); (focus rfl); (focus (first | rfl | (simp only [z1, Bool.not_true, Bool.not_false, h9]; done)))) | ((with_reducible apply TX.cond_false); (focus rfl); (focus (first | rfl | (simp only [z1, Bool.not_true, Bool.not_false, h9]; done)))) | fail)
        by_cases h10 : v5 = 0
        · rw [if_pos h10] at hr
          cases hr
        · rw [if_neg h10] at hr
          repeat (first | with_reducible refine mv ?_ | with_reducible refine m12 rfl ?_ | with_reducible refine TO.nil ?_ | ((with_reducible first | apply TO.bin); (repeat (focus (show _ = _; first | exact k1 rfl | exact k2 rfl | (simp only [zz, ty_ref04_Primes, e_i, Nat.reduceAdd, Nat.reduceMul, Nat.reduceLeDiff, h9, h10] <;> exact rfl) | exact rfl))); (with_reducible refine TO.here ?_)) | ((with_reducible apply TX.region); (focus (simp only [List.toList_toArray] <;> exact rfl)); (focus rfl); (try dsimp only)) | ((with_reducible apply TX.cond_true); (focus rfl); (focus (first | rfl | (simp only [z1, Bool.not_true, Bool.not_false, h9, h10]; done)))) | ((with_reducible apply TX.cond_false); (focus rfl); (focus (first | rfl | (simp only [z1, Bool.not_true, Bool.not_false, h9, h10]; done)))) | fail)
          rcases Bool.eq_false_or_eq_true ((decide ((v3.tmod v5) = 0))) with h11 | h11
          · rw [if_pos h11] at hr
            repeat (first | with_reducible refine mv ?_ | with_reducible refine m12 rfl ?_ | with_reducible refine TO.nil ?_ | ((with_reducible first | apply TO.mv); (repeat (focus (show _ = _; first | exact k1 rfl | exact k2 rfl | (simp only [zz, ty_ref04_Primes, e_i, Nat.reduceAdd, Nat.reduceMul, Nat.reduceLeDiff, h9, h10, h11] <;> exact rfl) | exact rfl))); (with_reducible refine TO.here ?_)) | ((with_reducible apply TX.region); (focus (simp only [List.toList_toArray] <;> exact rfl)); (focus rfl); (try dsimp only)) | ((with_reducible apply TX.cond_true); (focus rfl); (focus (first | rfl | (simp only [z1, Bool.not_true, Bool.not_false, h9, h10, h11]; done)))) | ((with_reducible apply TX.cond_false); (focus rfl); (focus (first | rfl | (simp only [z1, Bool.not_true, Bool.not_false, h9, h10, h11]; done)))) | fail)
            apply TO.bm e_i ([v5] : List Int) (by first | rfl | (simp only [twant, z1, List.getElem?_toArray, Option.bind_some, h9, h10, h11]; done)) rfl (by simp only [zz, ty_ref04_Primes, e_i, Nat.reduceAdd, Nat.reduceMul, Nat.reduceLeDiff, tslice, tparts, h9, h10, h11]; exact rfl) rfl
            (repeat (focus (show _ = _; first | exact k1 rfl | exact k2 rfl | (simp only [zz, ty_ref04_Primes, e_i, Nat.reduceAdd, Nat.reduceMul, Nat.reduceLeDiff, tslice, tparts, h9, h10, h11] <;> exact rfl) | exact rfl)))
            with_reducible apply TO.here
            repeat (first | with_reducible refine mv ?_ | with_reducible refine m12 rfl ?_ | with_reducible refine TO.nil ?_ | ((with_reducible apply TX.region); (focus (simp only [List.toList_toArray] <;> exact rfl)); (focus rfl); (try dsimp only)) | fail)
            obtain ⟨v11, h12, hr⟩ := Option.bind_eq_some_iff.1 hr
            try dsimp only at hr
            apply TO.ap (f := e_i) (xs := v4) (ys := ([v5] : List Int)) (by first | rfl | (simp only [twant, z1, List.getElem?_toArray, Option.bind_some, h9, h10, h11]; done)) rfl rfl (by first | rfl | simp only [List.length_set]) rfl rfl so22 ni22 zc3 rfl (by rw [by3]; exact h12) (fun _ => ⟨rfl, rfl, rfl⟩)
            (repeat (focus (show _ = _; first | exact k1 rfl | exact k2 rfl | (simp only [zz, ty_ref04_Primes, e_i, Nat.reduceAdd, Nat.reduceMul, Nat.reduceLeDiff, shift, kill, killB, frz, frzB, view, tml, tmlc, List.length_set, h9, h10, h11] <;> exact rfl) | exact rfl)))
            with_reducible apply TO.here
            repeat (first | with_reducible refine mv ?_ | with_reducible refine m12 rfl ?_ | with_reducible refine TO.nil ?_ | ((with_reducible first | apply TO.asg); (repeat (focus (show _ = _; first | exact k1 rfl | exact k2 rfl | (simp only [zz, ty_ref04_Primes, e_i, Nat.reduceAdd, Nat.reduceMul, Nat.reduceLeDiff, h9, h10, h11] <;> exact rfl) | exact rfl))); (with_reducible refine TO.here ?_)) | ((with_reducible apply TX.region); (focus (simp only [List.toList_toArray] <;> exact rfl)); (focus rfl); (try dsimp only)) | fail)
            obtain ⟨v14, h15, hr⟩ := Option.bind_eq_some_iff.1 hr
            try dsimp only at hr
            refine TX.loopE (step := ref04_Primes_l2 v5) (x := v3) h15 (fun v12 => ⟨.v (.int .i64 v12) :: .junk :: .junk :: .lsl 0 0 v11.length :: .v (.int .i64 v5) :: .junk :: .junk :: .junk :: .junk :: .junk :: .junk :: .junk :: .junk :: .junk :: .junk :: .junk :: .junk :: .junk :: .junk :: .junk :: .junk :: .junk :: .junk :: .junk :: .junk :: [], [.rows 1 (v11.map e_i)]⟩) (fun v13 => (.exit 2, ⟨.v (.int .i64 v13) :: .junk :: .junk :: .lsl 0 0 v11.length :: .v (.int .i64 v5) :: .junk :: .junk :: .junk :: .junk :: .junk :: .junk :: .junk :: .junk :: .junk :: .junk :: .junk :: .junk :: .junk :: .junk :: .junk :: .junk :: .junk :: .junk :: .junk :: .junk :: [], [.rows 1 (v11.map e_i)]⟩)) ?_ ?_ ?_ ?_
            · rintro v12 v0 hr
              dsimp only [ref04_Primes_l2] at hr
              try dsimp only
              repeat (first | with_reducible refine mv ?_ | with_reducible refine m12 rfl ?_ | with_reducible refine TO.nil ?_ | ((with_reducible first | apply TO.mv | apply TO.bin); (repeat (focus (show _ = _; first | exact k1 rfl | exact k2 rfl | (simp only [zz, ty_ref04_Primes, e_i, Nat.reduceAdd, Nat.reduceMul, Nat.reduceLeDiff, h9, h10, h11] <;> exact rfl) | exact rfl))); (with_reducible refine TO.here ?_)) | ((with_reducible apply TX.region); (focus (simp only [List.toList_toArray] <;> exact rfl)); (focus rfl); (try dsimp only)) | ((with_reducible apply TX.cond_true); (focus rfl); (focus (first | rfl | (simp only [z1, Bool.not_true, Bool.not_false, h9, h10, h11]; done)))) | ((with_reducible apply TX.cond_false); (focus rfl); (focus (first | rfl | (simp only [z1, Bool.not_true, Bool.not_false, h9, h10, h11]; done)))) | fail)
              rcases Bool.eq_false_or_eq_true ((decide ((v12.tmod v5) = 0))) with h14 | h14
              · rw [if_pos h14] at hr
                repeat (first | with_reducible refine mv ?_ | with_reducible refine m12 rfl ?_ | with_reducible refine TO.nil ?_ | ((with_reducible first | apply TO.mv | apply TO.bin | apply TO.asg); (repeat (focus (show _ = _; first | exact k1 rfl | exact k2 rfl | (simp only [zz, ty_ref04_Primes, e_i, Nat.reduceAdd, Nat.reduceMul, Nat.reduceLeDiff, h9, h10, h11, h14] <;> exact rfl) | exact rfl))); (with_reducible refine TO.here ?_)) | ((with_reducible apply TX.region); (focus (simp only [List.toList_toArray] <;> exact rfl)); (focus rfl); (try dsimp only)) | ((with_reducible apply TX.cond_true); (focus rfl); (focus (first | rfl | (simp only [z1, Bool.not_true, Bool.not_false, h9, h10, h11, h14]; done)))) | ((with_reducible apply TX.cond_false); (focus rfl); (focus (first | rfl | (simp only [z1, Bool.not_true, Bool.not_false, h9, h10, h11, h14]; done)))) | fail)
                cases hr
                refine ⟨rfl, ?_⟩
                exact Wk.ren [some 0] rfl (.rows .nil rfl rfl) (by (repeat (first | exact RNs.nil | refine RNs.cons .junk ?_ | refine RNs.cons (.keep rfl rfl) ?_ | refine RNs.cons (.lsl rfl rfl) ?_ | refine RNs.cons (.lsl rfl (by simp only [List.length_set])) ?_ | refine RNs.cons (.lptr rfl) ?_ | refine RNs.cons (.nil rfl) ?_ | refine RNs.cons .nl ?_ | refine RNs.cons (.keep (by simp only [h9, h11, h14]) rfl) ?_ | refine RNs.cons (.tuple' ?_) ?_ | refine RNs.cons (.agg' ?_) ?_)))
              · rw [if_neg (by rw [h14]; exact Bool.false_ne_true)] at hr
                repeat (first | with_reducible refine mv ?_ | with_reducible refine m12 rfl ?_ | ((with_reducible apply TX.cond_true); (focus rfl); (focus (first | rfl | (simp only [z1, Bool.not_true, Bool.not_false, h9, h10, h11, h14]; done)))) | ((with_reducible apply TX.cond_false); (focus rfl); (focus (first | rfl | (simp only [z1, Bool.not_true, Bool.not_false, h9, h10, h11, h14]; done)))) | fail)
                cases hr
                refine ⟨rfl, ?_⟩
                exact Wk.ren [some 0] rfl (.rows .nil rfl rfl) (by (repeat (first | exact RNs.nil | refine RNs.cons .junk ?_ | refine RNs.cons (.keep rfl rfl) ?_ | refine RNs.cons (.lsl rfl rfl) ?_ | refine RNs.cons (.lsl rfl (by simp only [List.length_set])) ?_ | refine RNs.cons (.lptr rfl) ?_ | refine RNs.cons (.nil rfl) ?_ | refine RNs.cons .nl ?_ | refine RNs.cons (.keep (by simp only [h9, h11, h14]) rfl) ?_ | refine RNs.cons (.tuple' ?_) ?_ | refine RNs.cons (.agg' ?_) ?_)))
            · intro e h; cases h
            · try dsimp only
              repeat (first | with_reducible refine mv ?_ | with_reducible refine m12 rfl ?_ | with_reducible refine TO.nil ?_ | ((with_reducible first | apply TO.mv | apply TO.bin | apply TO.asg); (repeat (focus (show _ = _; first | exact k1 rfl | exact k2 rfl | (simp only [zz, ty_ref04_Primes, e_i, Nat.reduceAdd, Nat.reduceMul, Nat.reduceLeDiff, h9, h10, h11] <;> exact rfl) | exact rfl))); (with_reducible refine TO.here ?_)) | ((with_reducible apply TX.region); (focus (simp only [List.toList_toArray] <;> exact rfl)); (focus rfl); (try dsimp only)) | fail)
              cases hr
              refine ⟨rfl, ?_⟩
              exact Wk.ren [some 0] rfl (.rows .nil rfl rfl) (by (repeat (first | exact RNs.nil | refine RNs.cons .junk ?_ | refine RNs.cons (.keep rfl rfl) ?_ | refine RNs.cons (.lsl rfl rfl) ?_ | refine RNs.cons (.lsl rfl (by simp only [List.length_set])) ?_ | refine RNs.cons (.lptr rfl) ?_ | refine RNs.cons (.nil rfl) ?_ | refine RNs.cons .nl ?_ | refine RNs.cons (.keep (by simp only [h9, h11]) rfl) ?_ | refine RNs.cons (.tuple' ?_) ?_ | refine RNs.cons (.agg' ?_) ?_)))
            · try dsimp only
              exact Wk.ren [some 0] rfl (.rows .nil rfl rfl) (by (repeat (first | exact RNs.nil | refine RNs.cons .junk ?_ | refine RNs.cons (.keep rfl rfl) ?_ | refine RNs.cons (.lsl rfl rfl) ?_ | refine RNs.cons (.lsl rfl (by simp only [List.length_set])) ?_ | refine RNs.cons (.lptr rfl) ?_ | refine RNs.cons (.nil rfl) ?_ | refine RNs.cons .nl ?_ | refine RNs.cons (.keep (by simp only [h9, h11]) rfl) ?_ | refine RNs.cons (.tuple' ?_) ?_ | refine RNs.cons (.agg' ?_) ?_)))
          · rw [if_neg (by rw [h11]; exact Bool.false_ne_true)] at hr
            repeat (first | with_reducible refine mv ?_ | with_reducible refine m12 rfl ?_ | ((with_reducible apply TX.cond_true); (focus rfl); (focus (first | rfl | (simp only [z1, Bool.not_true, Bool.not_false, h9, h10, h11]; done)))) | ((with_reducible apply TX.cond_false); (focus rfl); (focus (first | rfl | (simp only [z1, Bool.not_true, Bool.not_false, h9, h10, h11]; done)))) | fail)
            obtain ⟨_, h16, hr⟩ := Option.bind_eq_some_iff.1 hr
            try dsimp only at hr
            refine TX.loopE (step := ref04_Primes_l3) (x := ()) h16 (fun _ => ⟨.v (.int .i64 v3) :: .junk :: .junk :: .lsl 0 0 v4.length :: .v (.int .i64 v5) :: .junk :: .junk :: .junk :: .junk :: .junk :: .junk :: .junk :: .junk :: .junk :: .junk :: .junk :: .junk :: .junk :: .junk :: .junk :: .junk :: .junk :: .junk :: .junk :: .junk :: [], [.rows 1 (v4.map e_i)]⟩) (fun _ => (.exit 2, ⟨.v (.int .i64 v3) :: .junk :: .junk :: .lsl 0 0 v4.length :: .v (.int .i64 v5) :: .junk :: .junk :: .junk :: .junk :: .junk :: .junk :: .junk :: .junk :: .junk :: .junk :: .junk :: .junk :: .junk :: .junk :: .junk :: .junk :: .junk :: .junk :: .junk :: .junk :: [], [.rows 1 (v4.map e_i)]⟩)) ?_ ?_ ?_ ?_
            · rintro _ v0 hr
              dsimp only [ref04_Primes_l3] at hr
              try dsimp only
              repeat (first | with_reducible refine mv ?_ | with_reducible refine m12 rfl ?_ | with_reducible refine TO.nil ?_ | ((with_reducible first | apply TO.mv | apply TO.bin); (repeat (focus (show _ = _; first | exact k1 rfl | exact k2 rfl | (simp only [zz, ty_ref04_Primes, e_i, Nat.reduceAdd, Nat.reduceMul, Nat.reduceLeDiff, h9, h10, h11] <;> exact rfl) | exact rfl))); (with_reducible refine TO.here ?_)) | ((with_reducible apply TX.region); (focus (simp only [List.toList_toArray] <;> exact rfl)); (focus rfl); (try dsimp only)) | ((with_reducible apply TX.cond_true); (focus rfl); (focus (first | rfl | (simp only [z1, Bool.not_true, Bool.not_false, h9, h10, h11]; done)))) | ((with_reducible apply TX.cond_false); (focus rfl); (focus (first | rfl | (simp only [z1, Bool.not_true, Bool.not_false, h9, h10, h11]; done)))) | fail)
              cases hr
              refine ⟨rfl, ?_⟩
              exact Wk.ren [some 0] rfl (.rows .nil rfl rfl) (by (repeat (first | exact RNs.nil | refine RNs.cons .junk ?_ | refine RNs.cons (.keep rfl rfl) ?_ | refine RNs.cons (.lsl rfl rfl) ?_ | refine RNs.cons (.lsl rfl (by simp only [List.length_set])) ?_ | refine RNs.cons (.lptr rfl) ?_ | refine RNs.cons (.nil rfl) ?_ | refine RNs.cons .nl ?_ | refine RNs.cons (.keep (by simp only [h9, h11]) rfl) ?_ | refine RNs.cons (.tuple' ?_) ?_ | refine RNs.cons (.agg' ?_) ?_)))
            · intro e h; cases h
            · try dsimp only
              repeat (first | with_reducible refine mv ?_ | with_reducible refine m12 rfl ?_ | with_reducible refine TO.nil ?_ | ((with_reducible first | apply TO.mv | apply TO.bin | apply TO.asg); (repeat (focus (show _ = _; first | exact k1 rfl | exact k2 rfl | (simp only [zz, ty_ref04_Primes, e_i, Nat.reduceAdd, Nat.reduceMul, Nat.reduceLeDiff, h9, h10, h11] <;> exact rfl) | exact rfl))); (with_reducible refine TO.here ?_)) | ((with_reducible apply TX.region); (focus (simp only [List.toList_toArray] <;> exact rfl)); (focus rfl); (try dsimp only)) | fail)
              cases hr
              refine ⟨rfl, ?_⟩
              exact Wk.ren [some 0] rfl (.rows .nil rfl rfl) (by (repeat (first | exact RNs.nil | refine RNs.cons .junk ?_ | refine RNs.cons (.keep rfl rfl) ?_ | refine RNs.cons (.lsl rfl rfl) ?_ | refine RNs.cons (.lsl rfl (by simp only [List.length_set])) ?_ | refine RNs.cons (.lptr rfl) ?_ | refine RNs.cons (.nil rfl) ?_ | refine RNs.cons .nl ?_ | refine RNs.cons (.keep (by simp only [h9, h11]) rfl) ?_ | refine RNs.cons (.tuple' ?_) ?_ | refine RNs.cons (.agg' ?_) ?_)))
            · try dsimp only
              exact Wk.ren [some 0] rfl (.rows .nil rfl rfl) (by (repeat (first | exact RNs.nil | refine RNs.cons .junk ?_ | refine RNs.cons (.keep rfl rfl) ?_ | refine RNs.cons (.lsl rfl rfl) ?_ | refine RNs.cons (.lsl rfl (by simp only [List.length_set])) ?_ | refine RNs.cons (.lptr rfl) ?_ | refine RNs.cons (.nil rfl) ?_ | refine RNs.cons .nl ?_ | refine RNs.cons (.keep (by simp only [h9, h11]) rfl) ?_ | refine RNs.cons (.tuple' ?_) ?_ | refine RNs.cons (.agg' ?_) ?_)))
      · rw [if_neg (by rw [h9]; exact Bool.false_ne_true)] at hr
        repeat (first | with_reducible refine mv ?_ | with_reducible refine m12 rfl ?_ | ((with_reducible apply TX.cond_true); (focus rfl); (focus (first | rfl | (simp only [z1, Bool.not_true, Bool.not_false, h9]; done)))) | ((with_reducible apply TX.cond_false); (focus rfl); (focus (first | rfl | (simp only [z1, Bool.not_true, Bool.not_false, h9]; done)))) | fail)
        cases hr
        refine ⟨rfl, ?_⟩
        exact Wk.ren [some 0] rfl (.rows .nil rfl rfl) (by (repeat (first | exact RNs.nil | refine RNs.cons .junk ?_ | refine RNs.cons (.keep rfl rfl) ?_ | refine RNs.cons (.lsl rfl rfl) ?_ | refine RNs.cons (.lsl rfl (by simp only [List.length_set])) ?_ | refine RNs.cons (.lptr rfl) ?_ | refine RNs.cons (.nil rfl) ?_ | refine RNs.cons .nl ?_ | refine RNs.cons (.keep (by simp only [h9]) rfl) ?_ | refine RNs.cons (.tuple' ?_) ?_ | refine RNs.cons (.agg' ?_) ?_)))
    · intro e h; cases h
    · try dsimp only
      repeat (first | with_reducible refine mv ?_ | with_reducible refine m12 rfl ?_ | with_reducible refine TO.nil ?_ | ((with_reducible first | apply TO.mv | apply TO.asg); (repeat (focus (show _ = _; first | exact k1 rfl | exact k2 rfl | (simp only [zz, ty_ref04_Primes, e_i, Nat.reduceAdd, Nat.reduceMul, Nat.reduceLeDiff] <;> exact rfl) | exact rfl))); (with_reducible refine TO.here ?_)) | ((with_reducible apply TX.region); (focus (simp only [List.toList_toArray] <;> exact rfl)); (focus rfl); (try dsimp only)) | fail)
      cases hr
      refine ⟨.inr rfl, _, (by simp only [zy, ty_ref04_Primes, e_i, tresAll, tres, tload, rowOf, partT]; exact rfl), ?_⟩
      exact wr [some 0] rfl (.rows .nil rfl rfl)
    · try dsimp only
      exact wr [some 0] rfl (.rows .nil rfl rfl)
  rfl

end Go.Rex
