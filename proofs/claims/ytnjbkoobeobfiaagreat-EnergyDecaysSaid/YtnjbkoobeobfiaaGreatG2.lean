/- Proofs that the program's functions do what these plain functions say. -/
import Derived.Test.YtnjbkoobeobfiaaGreatGB
import Derived.Test.YtnjbkoobeobfiaaGreatS
import Derived.Test.YtnjbkoobeobfiaaGreatG1
import Derived.Test.YtnjbkoobeobfiaaGreatM
set_option linter.unusedSimpArgs false
set_option linter.unusedVariables false
set_option linter.defProp false
namespace Go.Rex
open Go.Proofs
open Go Go.Rex Go.RowKit
set_option maxRecDepth 100000
set_option maxHeartbeats 200000
def y23 := an @ag3 <| an @cs3 <| an @ok3 <| an @so44 <| @wi64_0a1
theorem energy_spread_9c9e_spec {v1 : (List Int)} {v2 : (List Int)} {v3 : Int} {v4 : (List Int)} (hr : energy_spread_9c9e v1 v2 v3 = some (v4)) : SpecO (lim Tryz.prog) 89 [.lsl 0 0 v1.length, .list 1 (v2.map e_i), .v (.int .i64 v3)] [.rows 1 (v1.map e_i)] (.tuple []) [.rows 1 (v4.map e_i)] := by
  unfold energy_spread_9c9e at hr
  apply SpecO.of (is := [0]) Tryz.func89 rfl rfl rfl rfl
  focus (simp [Tryz.f89] <;> exact rfl)
  focus rfl
  focus rfl
  focus rfl
  focus (simp [clTB, cl, e_i])
  focus
    repeat (first | (with_reducible first | refine mv ?_ | refine TO.nil ?_) | ((with_reducible first | apply TO.mv | apply TO.asg | apply TO.len); (repeat (focus (show _ = _; first | exact k2 rfl | (simp only [zz, y23, tlen] <;> exact rfl)))); (with_reducible refine TO.here ?_)) | ((with_reducible apply TX.region); (focus (simp only [] <;> exact rfl)); (focus rfl); (try dsimp only)))
    obtain ⟨⟨v16, v17⟩, h9, hr⟩ := Option.bind_eq_some_iff.1 hr
    try dsimp only at hr
    refine TX.loopE (step := energy_spread_9c9e_l1 v2 v3) (x := (v1, v3, 0)) h9 (fun (v5, v6, v7) => ⟨.lsl 0 0 v5.length :: .list 1 (v2.map e_i) :: .v (.int .i64 v3) :: .junk :: .junk :: .junk :: .v (.int .i64 v6) :: .junk :: .junk :: .junk :: .junk :: .list 1 (v2.map e_i) :: .v (.int .i64 (v2.length : Int)) :: .v (.int .i64 v7) :: .junk :: .junk :: .junk :: .junk :: .junk :: .junk :: .junk :: .junk :: .junk :: .junk :: .junk :: .junk :: .junk :: .junk :: .junk :: .junk :: .junk :: .junk :: .junk :: .junk :: .junk :: .junk :: .junk :: .junk :: .junk :: .junk :: .junk :: .junk :: .junk :: [], [.rows 1 (v5.map e_i)]⟩) (fun (v11, v12) => (.exit 0, ⟨.lsl 0 0 v11.length :: .list 1 (v2.map e_i) :: .junk :: .junk :: .junk :: .junk :: .v (.int .i64 v12) :: .junk :: .junk :: .junk :: .junk :: .junk :: .junk :: .junk :: .junk :: .junk :: .junk :: .junk :: .junk :: .junk :: .junk :: .junk :: .junk :: .junk :: .junk :: .junk :: .junk :: .junk :: .junk :: .junk :: .junk :: .junk :: .junk :: .junk :: .junk :: .junk :: .junk :: .junk :: .junk :: .junk :: .junk :: .junk :: .junk :: [], [.rows 1 (v11.map e_i)]⟩)) ?_ ?_ ?_ ?_
    · rintro ⟨v5, v6, v7⟩ v0 hr
      dsimp only [energy_spread_9c9e_l1] at hr
      try dsimp only
      repeat (first | (with_reducible first | refine mv ?_ | refine TO.nil ?_) | ((with_reducible apply TO.bin); (repeat (focus (show _ = _; first | exact k2 rfl | (simp only [zz] <;> exact rfl)))); (with_reducible refine TO.here ?_)) | ((with_reducible apply TX.region); (focus (simp only [] <;> exact rfl)); (focus rfl); (try dsimp only)))
      rcases Bool.eq_false_or_eq_true ((decide (v7 < (v2.length : Int)))) with h5 | h5
      · rw [if_pos h5] at hr
        repeat (first | with_reducible refine mv ?_ | ((with_reducible apply TO.mv); (repeat (focus (show _ = _; first | exact k2 rfl | (simp only [zz, h5] <;> exact rfl)))); (with_reducible refine TO.here ?_)) | ((with_reducible apply TX.region); (focus (simp only [] <;> exact rfl)); (focus rfl); (try dsimp only)) | ((with_reducible apply TX.cond_true); (focus rfl); (focus ((simp only [z1, h5]; done)))))
        obtain ⟨v13, h6, hr⟩ := Option.bind_eq_some_iff.1 hr
        try dsimp only at hr
        have h6m := tidx_map (f := e_i) h6
        have h6l := getI_lt h6
        try simp only [List.length_set] at h6l
        have h6a := getI_at h6
        repeat (first | (with_reducible first | refine mv ?_ | refine TO.nil ?_) | ((with_reducible first | apply TO.ia | apply TO.ld | apply TO.asg | apply TO.mv | apply TO.bin); (repeat (focus (show _ = _; first | exact k2 rfl | (simp only [zz, y23, e_i, tindexAddr, tload, rowOf, partT, h6m] <;> exact rfl) | exact rfl))); (with_reducible refine TO.here ?_)) | ((with_reducible apply TX.region); (focus (simp only [] <;> exact rfl)); (focus rfl); (try dsimp only)))
        obtain ⟨v14, h7, hr⟩ := Option.bind_eq_some_iff.1 hr
        try dsimp only at hr
        apply TO.cal (by first | rfl | (simp only [twant, z1, z7, h5, h6m, h6l, h6a] <;> rfl)) rfl goFn70 (energy_down_spec h7) rfl rfl rfl
        (repeat (focus (show _ = _; (simp only [zz, shift] <;> exact rfl))))
        with_reducible apply TO.here
        repeat (first | (with_reducible first | refine mv ?_ | refine TO.nil ?_) | ((with_reducible first | apply TO.asg | apply TO.mv); (repeat (focus (show _ = _; first | exact k2 rfl | (simp only [zz] <;> exact rfl)))); (with_reducible refine TO.here ?_)) | ((with_reducible apply TX.region); (focus (simp only [] <;> exact rfl)); (focus rfl); (try dsimp only)))
        obtain ⟨v15, h8, hr⟩ := Option.bind_eq_some_iff.1 hr
        try dsimp only at hr
        have h8m := tidx_map (f := e_i) h8
        have h8l := getI_lt h8
        try simp only [List.length_set] at h8l
        have h8a := getI_at h8
        repeat (first | ((with_reducible first | apply TO.ia | apply TO.ld | apply TO.mv | apply TO.bin); (repeat (focus (show _ = _; first | exact k2 rfl | (simp only [zz, y23, e_i, tindexAddr, Nat.zero_add, tload, rowOf, partT, List.getElem?_map, h6l, h8l, h8a] <;> exact rfl) | exact rfl))); (with_reducible refine TO.here ?_)))
        apply TO.sr e_i v5 v15 (IntKind.i64.wrap (v15 + v14)) h8a (by first | rfl | (simp only [twant, z1, z7, h5, h6m, h6l, h6a, h8m, h8l, h8a] <;> rfl)) rfl rfl rfl rfl rfl ok3 (by rw [cs3]; rfl) rfl rfl rfl rfl
        (repeat (focus (show _ = _; (simp only [zz] <;> exact rfl))))
        with_reducible apply TO.here
        repeat (first | (with_reducible first | refine mv ?_ | refine TO.nil ?_) | ((with_reducible first | apply TO.mv | apply TO.bin | apply TO.asg); (repeat (focus (show _ = _; first | exact k2 rfl | (simp only [zz] <;> exact rfl)))); (with_reducible refine TO.here ?_)) | ((with_reducible apply TX.region); (focus (simp only [] <;> exact rfl)); (focus rfl); (try dsimp only)))
        cases hr
        refine ⟨rfl, ?_⟩
        exact Wk.ren [some 0] rfl (.rows .nil rfl rfl) (by (repeat (first | exact RNs.nil | refine RNs.cons .junk ?_ | refine RNs.cons (.keep rfl rfl) ?_ | refine RNs.cons (.lsl rfl (by simp only [List.length_set])) ?_)))
      · rw [if_neg (by rw [h5]; exact Bool.false_ne_true)] at hr
        repeat (first | with_reducible refine mv ?_ | ((with_reducible apply TX.cond_false); (focus rfl); (focus ((simp only [z1, h5]; done)))))
        cases hr
        refine ⟨rfl, ?_⟩
        exact Wk.ren [some 0] rfl (.rows .nil rfl rfl) (by (repeat (first | exact RNs.nil | refine RNs.cons .junk ?_ | refine RNs.cons (.keep rfl rfl) ?_ | refine RNs.cons (.lsl rfl rfl) ?_)))
    · intro e h; cases h
    · try dsimp only
      repeat (first | with_reducible refine mv ?_ | ((with_reducible apply TO.mv); (repeat (focus (show _ = _; first | exact k2 rfl | (simp only [zz] <;> exact rfl)))); (with_reducible refine TO.here ?_)) | ((with_reducible apply TX.region); (focus (simp only [] <;> exact rfl)); (focus rfl); (try dsimp only)))
      obtain ⟨v18, h10, hr⟩ := Option.bind_eq_some_iff.1 hr
      try dsimp only at hr
      apply TO.cal (by first | rfl | (simp only [twant, z1, z7] <;> rfl)) rfl goFn67 (slices_Max_int_int_spec h10) rfl rfl rfl
      (repeat (focus (show _ = _; (simp only [zz, shift] <;> exact rfl))))
      with_reducible apply TO.here
      obtain ⟨v19, h11, hr⟩ := Option.bind_eq_some_iff.1 hr
      try dsimp only at hr
      apply TO.cal (by first | rfl | (simp only [twant, z1, z7] <;> rfl)) rfl goFn105 (slices_Index_int_int_spec h11) rfl rfl rfl
      (repeat (focus (show _ = _; (simp only [zz, shift] <;> exact rfl))))
      with_reducible apply TO.here
      obtain ⟨v20, h12, hr⟩ := Option.bind_eq_some_iff.1 hr
      try dsimp only at hr
      have h12m := tidx_map (f := e_i) h12
      have h12l := getI_lt h12
      try simp only [List.length_set] at h12l
      have h12a := getI_at h12
      repeat (first | ((with_reducible first | apply TO.ia | apply TO.ld | apply TO.mv | apply TO.bin); (repeat (focus (show _ = _; first | exact k2 rfl | (simp only [zz, y23, e_i, tindexAddr, Nat.zero_add, tload, rowOf, partT, List.getElem?_map, h12l, h12a] <;> exact rfl) | exact rfl))); (with_reducible refine TO.here ?_)))
      apply TO.sr e_i v16 v20 (IntKind.i64.wrap (v20 + v17)) h12a (by first | rfl | (simp only [twant, z1, z7, h12m, h12l, h12a] <;> rfl)) rfl rfl rfl rfl rfl ok3 (by rw [cs3]; rfl) rfl rfl rfl rfl
      (repeat (focus (show _ = _; (simp only [zz] <;> exact rfl))))
      with_reducible apply TO.here
      repeat (first | with_reducible refine TO.nil ?_)
      cases hr
      refine ⟨.inl rfl, _, (by simp only []; exact rfl), rfl, rfl, ⟨⟨_, _, rfl, rfl⟩, trivial⟩⟩
    · try dsimp only
      exact wr [some 0] rfl (.rows .nil rfl rfl)

end Go.Rex

namespace Go.Rex
open Go.Proofs
open Go Go.Rex Go.RowKit
set_option maxRecDepth 100000
set_option maxHeartbeats 200000
def y24 := an @ag3 <| an @ag43 <| an @ag44 <| an @by3 <| an @cs3 <| an @cs44 <| an @fd46_0 <| an @fd46_1 <| an @ok3 <| an @ok44 <| an @so43 <| an @so44 <| an @zc3 <| @wi64_0a1
theorem energy_stepFrom_spec {v1 : (List (List Int))} {v2 : (List Int)} {v3 : (List Int)} {v4 : (List Int)} {v5 : Int} (hr : energy_stepFrom v1 v2 v3 = some (v4, v5)) : Spec (lim Tryz.prog) 63 [.agg [.list 1 (v1.map e_Li_), .list 1 (v2.map e_i)], .list 1 (v3.map e_i)] ⟨[.tuple [.lsl 0 0 v4.length, .v (.int .i64 v5)]], [.rows 1 (v4.map e_i)]⟩ := by
  unfold energy_stepFrom at hr
  apply Spec.fn Tryz.func63 rfl
  focus (simp [Tryz.f63] <;> exact rfl)
  focus
    repeat (first | (with_reducible first | refine mv ?_ | refine TO.nil ?_) | ((with_reducible first | apply TO.bf | apply TO.asg | apply TO.mv | apply TO.len); (repeat (focus (show _ = _; first | exact k1 rfl | exact k2 rfl | (simp only [zz, y24, tlen] <;> exact rfl) | exact rfl))); (with_reducible refine TO.here ?_)) | ((with_reducible apply TX.region); (focus (simp only [] <;> exact rfl)); (focus rfl); (try dsimp only)))
    obtain ⟨v6, h1, hr⟩ := Option.bind_eq_some_iff.1 hr
    try dsimp only at hr
    apply TO.mk e_i h1 (by first | rfl | (simp only [twant, z1, z7] <;> rfl)) rfl rfl so44 zc3 by3 rfl rfl rfl
    (repeat (focus (show _ = _; (simp only [zz, Nat.reduceAdd] <;> exact rfl))))
    with_reducible apply TO.here
    repeat (first | (with_reducible first | refine mv ?_ | refine TO.nil ?_) | ((with_reducible first | apply TO.asg | apply TO.mv | apply TO.len); (repeat (focus (show _ = _; first | exact k2 rfl | (simp only [zz, y24, tlen] <;> exact rfl)))); (with_reducible refine TO.here ?_)) | ((with_reducible apply TX.region); (focus (simp only [] <;> exact rfl)); (focus rfl); (try dsimp only)))
    obtain ⟨⟨v22, v23⟩, h14, hr⟩ := Option.bind_eq_some_iff.1 hr
    try dsimp only at hr
    refine TX.loopE (step := energy_stepFrom_l1 v1 v2 v3) (x := (v6, 0, 0)) h14 (fun (v7, v8, v9) => ⟨.junk :: .junk :: .fptr true [.list 1 (v1.map e_Li_), .list 1 (v2.map e_i)] 0 :: .junk :: .junk :: .junk :: .lsl 0 0 v7.length :: .v (.int .i64 v8) :: .junk :: .junk :: .junk :: .junk :: .junk :: .junk :: .list 1 (v3.map e_i) :: .v (.int .i64 (v3.length : Int)) :: .v (.int .i64 v9) :: .junk :: .junk :: .junk :: .junk :: .junk :: .junk :: .junk :: .junk :: .junk :: .junk :: .junk :: .junk :: .junk :: .junk :: .junk :: .junk :: .junk :: .junk :: .junk :: .junk :: .junk :: .junk :: .junk :: .junk :: .junk :: .junk :: .junk :: .junk :: [], [.rows 1 (v7.map e_i)]⟩) (fun (v15, v16) => (.exit 0, ⟨.junk :: .junk :: .junk :: .junk :: .junk :: .junk :: .lsl 0 0 v15.length :: .v (.int .i64 v16) :: .junk :: .junk :: .junk :: .junk :: .junk :: .junk :: .junk :: .junk :: .junk :: .junk :: .junk :: .junk :: .junk :: .junk :: .junk :: .junk :: .junk :: .junk :: .junk :: .junk :: .junk :: .junk :: .junk :: .junk :: .junk :: .junk :: .junk :: .junk :: .junk :: .junk :: .junk :: .junk :: .junk :: .junk :: .junk :: .junk :: .junk :: [], [.rows 1 (v15.map e_i)]⟩)) ?_ ?_ ?_ ?_
    · rintro ⟨v7, v8, v9⟩ v0 hr
      dsimp only [energy_stepFrom_l1] at hr
      try dsimp only
      repeat (first | (with_reducible first | refine mv ?_ | refine TO.nil ?_) | ((with_reducible apply TO.bin); (repeat (focus (show _ = _; first | exact k2 rfl | (simp only [zz] <;> exact rfl)))); (with_reducible refine TO.here ?_)) | ((with_reducible apply TX.region); (focus (simp only [] <;> exact rfl)); (focus rfl); (try dsimp only)))
      rcases Bool.eq_false_or_eq_true ((decide (v9 < (v3.length : Int)))) with h8 | h8
      · rw [if_pos h8] at hr
        repeat (first | with_reducible refine mv ?_ | ((with_reducible apply TO.mv); (repeat (focus (show _ = _; first | exact k2 rfl | (simp only [zz, h8] <;> exact rfl)))); (with_reducible refine TO.here ?_)) | ((with_reducible apply TX.region); (focus (simp only [] <;> exact rfl)); (focus rfl); (try dsimp only)) | ((with_reducible apply TX.cond_true); (focus rfl); (focus ((simp only [z1, h8]; done)))))
        obtain ⟨v17, h9, hr⟩ := Option.bind_eq_some_iff.1 hr
        try dsimp only at hr
        have h9m := tidx_map (f := e_i) h9
        have h9l := getI_lt h9
        try simp only [List.length_set, lenAs_length] at h9l
        have h9a := getI_at h9
        repeat (first | (with_reducible first | refine mv ?_ | refine TO.nil ?_) | ((with_reducible first | apply TO.ia | apply TO.ld | apply TO.asg | apply TO.mv | apply TO.fa); (repeat (focus (show _ = _; first | exact k2 rfl | (simp only [zz, y24, e_i, tindexAddr, Nat.zero_add, tload, rowOf, partT, tfieldAddr, h9m] <;> exact rfl) | exact rfl))); (with_reducible refine TO.here ?_)) | ((with_reducible apply TX.region); (focus (simp only [] <;> exact rfl)); (focus rfl); (try dsimp only)))
        obtain ⟨v18, h10, hr⟩ := Option.bind_eq_some_iff.1 hr
        try dsimp only at hr
        have h10m := tidx_map (f := e_i) h10
        have h10l := getI_lt h10
        try simp only [List.length_set, lenAs_length] at h10l
        have h10a := getI_at h10
        repeat (first | ((with_reducible first | apply TO.ia | apply TO.ld | apply TO.bin); (repeat (focus (show _ = _; first | exact k2 rfl | (simp only [zz, y24, e_i, tindexAddr, tload, rowOf, partT, h10m] <;> exact rfl) | exact rfl))); (with_reducible refine TO.here ?_)))
        obtain ⟨v19, h11, hr⟩ := Option.bind_eq_some_iff.1 hr
        try dsimp only at hr
        apply TO.cal (by first | rfl | (simp only [twant, z1, z7, h8, h9m, h9l, h9a, h10m, h10l, h10a] <;> rfl)) rfl goFn69 (energy_up_spec h11) rfl rfl rfl
        (repeat (focus (show _ = _; (simp only [zz, shift] <;> exact rfl))))
        with_reducible apply TO.here
        repeat (first | (with_reducible first | refine mv ?_ | refine TO.nil ?_) | ((with_reducible first | apply TO.asg | apply TO.mv | apply TO.bin | apply TO.fa | apply TO.ld); (repeat (focus (show _ = _; first | exact k2 rfl | (simp only [zz, y24, Nat.reduceAdd, tfieldAddr, tload, rowOf, partT] <;> exact rfl) | exact rfl))); (with_reducible refine TO.here ?_)) | ((with_reducible apply TX.region); (focus (simp only [] <;> exact rfl)); (focus rfl); (try dsimp only)))
        obtain ⟨v20, h12, hr⟩ := Option.bind_eq_some_iff.1 hr
        try dsimp only at hr
        have h12m := tidx_map (f := e_Li_) h12
        have h12l := getI_lt h12
        try simp only [List.length_set, lenAs_length] at h12l
        have h12a := getI_at h12
        repeat (first | ((with_reducible first | apply TO.ia | apply TO.ld | apply TO.mv | apply TO.bin); (repeat (focus (show _ = _; first | exact k2 rfl | (simp only [zz, y24, e_Li_, tindexAddr, tload, rowOf, partT, h12m] <;> exact rfl) | exact rfl))); (with_reducible refine TO.here ?_)))
        obtain ⟨v21, h13, hr⟩ := Option.bind_eq_some_iff.1 hr
        try dsimp only at hr
        apply TO.ownl [0] (by first | rfl | (simp only [twant, z1, z7, h8, h9m, h9l, h9a, h10m, h10l, h10a, h12m, h12l, h12a] <;> rfl)) rfl goFn89 (energy_spread_9c9e_spec h13) (.cons .nil) rfl rfl (by decide) (by simp [clTB, cl, e_i])
        (repeat (focus (show _ = _; first | (simp only [zz] <;> exact rfl) | exact rfl)))
        with_reducible apply TO.here
        repeat (first | (with_reducible first | refine mv ?_ | refine TO.nil ?_) | ((with_reducible first | apply TO.bin | apply TO.mv); (repeat (focus (show _ = _; first | exact k2 rfl | (simp only [zz] <;> exact rfl)))); (with_reducible refine TO.here ?_)) | ((with_reducible apply TX.region); (focus (simp only [] <;> exact rfl)); (focus rfl); (try dsimp only)))
        cases hr
        refine ⟨rfl, ?_⟩
        exact Wk.ren [some 0] rfl (.rows .nil rfl rfl) (by (repeat (first | exact RNs.nil | refine RNs.cons .junk ?_ | refine RNs.cons (.keep rfl rfl) ?_ | refine RNs.cons (.lsl rfl (by simp only [lenAs_length])) ?_)))
      · rw [if_neg (by rw [h8]; exact Bool.false_ne_true)] at hr
        repeat (first | with_reducible refine mv ?_ | ((with_reducible apply TX.cond_false); (focus rfl); (focus ((simp only [z1, h8]; done)))))
        cases hr
        refine ⟨rfl, ?_⟩
        exact Wk.ren [some 0] rfl (.rows .nil rfl rfl) (by (repeat (first | exact RNs.nil | refine RNs.cons .junk ?_ | refine RNs.cons (.keep rfl rfl) ?_ | refine RNs.cons (.lsl rfl rfl) ?_)))
    · intro e h; cases h
    · try dsimp only
      repeat (first | (with_reducible first | refine mv ?_ | refine TO.nil ?_) | ((with_reducible first | apply TO.mv | apply TO.asg); (repeat (focus (show _ = _; first | exact k2 rfl | (simp only [zz] <;> exact rfl)))); (with_reducible refine TO.here ?_)) | ((with_reducible apply TX.region); (focus (simp only [] <;> exact rfl)); (focus rfl); (try dsimp only)))
      cases hr
      refine ⟨.inr rfl, _, (by simp only []; exact rfl), ?_⟩
      exact wr [some 0] rfl (.rows .nil rfl rfl)
    · try dsimp only
      exact wr [some 0] rfl (.rows .nil rfl rfl)
  rfl

end Go.Rex

namespace Go.Rex
open Go.Proofs
open Go Go.Rex Go.RowKit
set_option maxRecDepth 100000
set_option maxHeartbeats 1000000
def y25 := an @ag46 <| an @cs46 <| an @cs95 <| an @ok46 <| an @so136 <| an @zc95 <| @wi64_0a1
theorem energy_StepsTo_spec {v1 : (List (List Int))} {v2 : (List Int)} {v3 : (List Int)} {v4 : Int} {v5 : Int} {v6 : Int} (hr : energy_StepsTo v1 v2 v3 v4 = some (v5, v6)) : Spec (lim Tryz.prog) 36 [.agg [.list 1 (v1.map e_Li_), .list 1 (v2.map e_i)], .list 1 (v3.map e_i), .v (.int .i64 v4)] ⟨[.tuple [.v (.int .i64 v5), .v (.int .i64 v6)]], []⟩ := by
  unfold energy_StepsTo at hr
  apply Spec.fn Tryz.func36 rfl
  focus (simp [Tryz.f36] <;> exact rfl)
  focus
    repeat (first | (with_reducible first | refine mv ?_ | refine TO.nil ?_) | ((with_reducible first | apply TO.bf | apply TO.asg); (repeat (focus (show _ = _; first | exact k1 rfl | exact k2 rfl | (simp only [zz] <;> exact rfl) | exact rfl))); (with_reducible refine TO.here ?_)) | ((with_reducible apply TX.region); (focus (simp only [] <;> exact rfl)); (focus rfl); (try dsimp only)) | ((with_reducible apply TD.ld); (repeat (focus (show _ = _; first | exact k2 rfl | (simp only [zz, y25, Nat.reduceAdd, Nat.reduceLeDiff, tload, rowOf, partT] <;> exact rfl) | exact rfl))); (with_reducible refine TD.here ?_)) | ((with_reducible apply TX.drawn); (focus decide +kernel); (focus (simp only [] <;> exact rfl)); (focus exact rfl); (try dsimp only)))
    obtain ⟨v7, h1, hr⟩ := Option.bind_eq_some_iff.1 hr
    try dsimp only at hr
    first | apply TD.cal (by first | rfl | (simp only [twant, z1, z7] <;> rfl)) rfl goFn59 (energy_exchanged_spec h1) rfl rfl rfl | apply TD.calw (by first | rfl | (simp only [twant, z1, z7] <;> rfl)) rfl goFn59 (energy_exchanged_spec h1) rfl rfl rfl rfl
    (repeat (focus (show _ = _; (simp only [zz, shift] <;> exact rfl))))
    with_reducible apply TD.here
    repeat (first | ((with_reducible first | apply TD.ld | apply TD.mv); (repeat (focus (show _ = _; first | exact k2 rfl | (simp only [zz, y25, Nat.reduceAdd, Nat.reduceLeDiff, tload, rowOf, partT] <;> exact rfl) | exact rfl))); (with_reducible refine TD.here ?_)))
    obtain ⟨⟨v8, v9, v10, v11, v12⟩, h2, hr⟩ := Option.bind_eq_some_iff.1 hr
    try dsimp only at hr
    first | apply TD.cal (by first | rfl | (simp only [twant, z1, z7] <;> rfl)) rfl goFn60 (energy_energies_spec h2) rfl rfl rfl | apply TD.calw (by first | rfl | (simp only [twant, z1, z7] <;> rfl)) rfl goFn60 (energy_energies_spec h2) rfl rfl rfl rfl
    (repeat (focus (show _ = _; (simp only [zz, shift] <;> exact rfl))))
    with_reducible apply TD.here
    repeat (first | ((with_reducible apply TD.mv); (repeat (focus (show _ = _; first | exact k2 rfl | (simp only [zz] <;> exact rfl)))); (with_reducible refine TD.here ?_)))
    obtain ⟨⟨v13, v14⟩, h3, hr⟩ := Option.bind_eq_some_iff.1 hr
    try dsimp only at hr
    first | apply TD.cal (by first | rfl | (simp only [twant, z1, z7] <;> rfl)) rfl goFn57 (energy_within_spec h3) rfl rfl rfl | apply TD.calw (by first | rfl | (simp only [twant, z1, z7] <;> rfl)) rfl goFn57 (energy_within_spec h3) rfl rfl rfl rfl
    (repeat (focus (show _ = _; (simp only [zz, shift] <;> exact rfl))))
    with_reducible apply TD.here
    repeat (first | ((with_reducible apply TD.bs); (repeat (focus (show _ = _; first | exact k2 rfl | (simp only [zz, y25, Nat.reduceAdd, Nat.reduceMul, tslice, tparts] <;> exact rfl) | exact rfl))); (with_reducible refine TD.here ?_)))
    obtain ⟨v15, h4, hr⟩ := Option.bind_eq_some_iff.1 hr
    try dsimp only at hr
    first | apply TD.cal (by first | rfl | (simp only [twant, z1, z7] <;> rfl)) rfl goFn48 (energy_firstError_7416_spec h4) rfl rfl rfl | apply TD.calw (by first | rfl | (simp only [twant, z1, z7] <;> rfl)) rfl goFn48 (energy_firstError_7416_spec h4) rfl rfl rfl rfl
    (repeat (focus (show _ = _; (simp only [zz, shift] <;> exact rfl))))
    with_reducible apply TD.here
    repeat (first | (with_reducible first | refine mv ?_ | refine TO.nil ?_) | ((with_reducible first | apply TO.mv | apply TO.bin); (repeat (focus (show _ = _; first | exact k2 rfl | (simp only [zz] <;> exact rfl)))); (with_reducible refine TO.here ?_)) | ((with_reducible apply TX.region); (focus (simp only [] <;> exact rfl)); (focus rfl); (try dsimp only)) | with_reducible refine TD.nil ?_ | ((with_reducible apply TD.asg); (repeat (focus (show _ = _; first | exact k2 rfl | (simp only [zz] <;> exact rfl)))); (with_reducible refine TD.here ?_)))
    rcases Bool.eq_false_or_eq_true ((decide (v15 ≠ 0))) with h5 | h5
    · rw [if_pos h5] at hr
      repeat (first | (with_reducible first | refine mv ?_ | refine TO.nil ?_) | ((with_reducible first | apply TO.mv | apply TO.asg); (repeat (focus (show _ = _; first | exact k2 rfl | (simp only [zz, h5] <;> exact rfl)))); (with_reducible refine TO.here ?_)) | ((with_reducible apply TX.region); (focus (simp only [] <;> exact rfl)); (focus rfl); (try dsimp only)) | ((with_reducible apply TX.cond_true); (focus rfl); (focus ((simp only [z1, h5]; done)))))
      cases hr
      refine ⟨.inr rfl, _, (by simp only []; exact rfl), ?_⟩
      exact Wk.ren [] rfl .nil (by (repeat (first | exact RNs.nil | refine RNs.cons (.keep rfl rfl) ?_)))
    · rw [if_neg (by rw [h5]; exact Bool.false_ne_true)] at hr
      repeat (first | with_reducible refine mv ?_ | ((with_reducible apply TO.mv); (repeat (focus (show _ = _; first | exact k2 rfl | (simp only [zz, h5] <;> exact rfl)))); (with_reducible refine TO.here ?_)) | ((with_reducible apply TX.region); (focus (simp only [] <;> exact rfl)); (focus rfl); (try dsimp only)) | ((with_reducible apply TX.cond_false); (focus rfl); (focus ((simp only [z1, h5]; done)))))
      obtain ⟨v16, h6, hr⟩ := Option.bind_eq_some_iff.1 hr
      try dsimp only at hr
      apply TO.cal (by first | rfl | (simp only [twant, z1, z7, h5] <;> rfl)) rfl goFn56 (energy_sumOf_spec h6) rfl rfl rfl
      (repeat (focus (show _ = _; (simp only [zz, shift] <;> exact rfl))))
      with_reducible apply TO.here
      repeat (first | ((with_reducible apply TO.mv); (repeat (focus (show _ = _; first | exact k2 rfl | (simp only [zz] <;> exact rfl)))); (with_reducible refine TO.here ?_)))
      obtain ⟨v17, h7, hr⟩ := Option.bind_eq_some_iff.1 hr
      try dsimp only at hr
      apply TO.cal (by first | rfl | (simp only [twant, z1, z7, h5] <;> rfl)) rfl goFn71 (energy_partOf_spec h7) rfl rfl rfl
      (repeat (focus (show _ = _; (simp only [zz, shift] <;> exact rfl))))
      with_reducible apply TO.here
      repeat (first | (with_reducible first | refine mv ?_ | refine TO.nil ?_) | ((with_reducible first | apply TO.asg | apply TO.mv); (repeat (focus (show _ = _; first | exact k2 rfl | (simp only [zz] <;> exact rfl)))); (with_reducible refine TO.here ?_)) | ((with_reducible apply TX.region); (focus (simp only [] <;> exact rfl)); (focus rfl); (try dsimp only)))
      obtain ⟨v27, h16, hr⟩ := Option.bind_eq_some_iff.1 hr
      refine TX.loopE (step := energy_StepsTo_l1 v1 v2 v17) (x := (v3, 0)) h16 (fun (v18, v19) => ⟨.junk :: .list 1 (v18.map e_i) :: .junk :: .fptr true [.list 1 (v1.map e_Li_), .list 1 (v2.map e_i)] 0 :: .junk :: .junk :: .junk :: .junk :: .junk :: .v (.int .i64 v17) :: .junk :: .junk :: .junk :: .junk :: .junk :: .junk :: .junk :: .junk :: .junk :: .junk :: .junk :: .junk :: .junk :: .junk :: .junk :: .junk :: .junk :: .v (.int .i64 v19) :: .junk :: .junk :: .junk :: .junk :: .junk :: .junk :: .junk :: .junk :: .junk :: .junk :: .junk :: .junk :: .junk :: .junk :: [], []⟩) (fun e => match e with | (.inl v23) => (.ret, ⟨.junk :: .junk :: .junk :: .junk :: .junk :: .junk :: .v (.int .i64 v23) :: .v (.int .i64 0) :: .junk :: .junk :: .junk :: .junk :: .junk :: .junk :: .junk :: .junk :: .junk :: .junk :: .junk :: .junk :: .junk :: .junk :: .junk :: .junk :: .junk :: .junk :: .junk :: .junk :: .junk :: .junk :: .junk :: .junk :: .junk :: .junk :: .junk :: .junk :: .junk :: .junk :: .junk :: .junk :: .junk :: .junk :: [], []⟩) | (.inr _) => (.exit 0, ⟨.junk :: .junk :: .junk :: .junk :: .junk :: .junk :: .junk :: .junk :: .junk :: .junk :: .junk :: .junk :: .junk :: .junk :: .junk :: .junk :: .junk :: .junk :: .junk :: .junk :: .junk :: .junk :: .junk :: .junk :: .junk :: .junk :: .junk :: .junk :: .junk :: .junk :: .junk :: .junk :: .junk :: .junk :: .junk :: .junk :: .junk :: .junk :: .junk :: .junk :: .junk :: .junk :: [], []⟩)) ?_ ?_ ?_ ?_
      · rintro ⟨v18, v19⟩ v0 hr
        dsimp only [energy_StepsTo_l1] at hr
        try dsimp only
        repeat (first | (with_reducible first | refine mv ?_ | refine TO.nil ?_) | ((with_reducible apply TO.bin); (repeat (focus (show _ = _; first | exact k2 rfl | (simp only [zz] <;> exact rfl)))); (with_reducible refine TO.here ?_)) | ((with_reducible apply TX.region); (focus (simp only [] <;> exact rfl)); (focus rfl); (try dsimp only)))
        rcases Bool.eq_false_or_eq_true ((decide (v19 < 1001))) with h12 | h12
        · rw [if_pos h12] at hr
          repeat (first | (with_reducible first | refine mv ?_ | refine TO.nil ?_) | ((with_reducible first | apply TO.mv | apply TO.asg); (repeat (focus (show _ = _; first | exact k2 rfl | (simp only [zz, h12] <;> exact rfl)))); (with_reducible refine TO.here ?_)) | ((with_reducible apply TX.region); (focus (simp only [] <;> exact rfl)); (focus rfl); (try dsimp only)) | ((with_reducible apply TX.cond_true); (focus rfl); (focus ((simp only [z1, h12]; done)))))
          obtain ⟨v24, h13, hr⟩ := Option.bind_eq_some_iff.1 hr
          try dsimp only at hr
          apply TO.cal (by first | rfl | (simp only [twant, z1, z7, h5, h12] <;> rfl)) rfl goFn56 (energy_sumOf_spec h13) rfl rfl rfl
          (repeat (focus (show _ = _; (simp only [zz, shift] <;> exact rfl))))
          with_reducible apply TO.here
          repeat (first | (with_reducible first | refine mv ?_ | refine TO.nil ?_) | ((with_reducible first | apply TO.mv | apply TO.bin); (repeat (focus (show _ = _; first | exact k2 rfl | (simp only [zz] <;> exact rfl)))); (with_reducible refine TO.here ?_)))
          rcases Bool.eq_false_or_eq_true ((decide (v24 ≤ v17))) with h14 | h14
          · rw [if_pos h14] at hr
            repeat (first | (with_reducible first | refine mv ?_ | refine TO.nil ?_) | ((with_reducible first | apply TO.mv | apply TO.asg); (repeat (focus (show _ = _; first | exact k2 rfl | (simp only [zz, h14] <;> exact rfl)))); (with_reducible refine TO.here ?_)) | ((with_reducible apply TX.region); (focus (simp only [] <;> exact rfl)); (focus rfl); (try dsimp only)) | ((with_reducible apply TX.cond_true); (focus rfl); (focus ((simp only [z1, h14]; done)))))
            cases hr
            refine ⟨rfl, ?_⟩
            exact Wk.ren [] rfl .nil (by (repeat (first | exact RNs.nil | refine RNs.cons .junk ?_ | refine RNs.cons (.keep rfl rfl) ?_)))
          · rw [if_neg (by rw [h14]; exact Bool.false_ne_true)] at hr
            repeat (first | with_reducible refine mv ?_ | ((with_reducible first | apply TO.ld | apply TO.mv); (repeat (focus (show _ = _; first | exact k2 rfl | (simp only [zz, y25, Nat.reduceAdd, Nat.reduceLeDiff, tload, rowOf, partT, h14] <;> exact rfl) | exact rfl))); (with_reducible refine TO.here ?_)) | ((with_reducible apply TX.region); (focus (simp only [] <;> exact rfl)); (focus rfl); (try dsimp only)) | ((with_reducible apply TX.cond_false); (focus rfl); (focus ((simp only [z1, h14]; done)))))
            obtain ⟨⟨v25, v26⟩, h15, hr⟩ := Option.bind_eq_some_iff.1 hr
            try dsimp only at hr
            apply TO.cal (by first | rfl | (simp only [twant, z1, z7, h5, h12, h14] <;> rfl)) rfl goFn63 (energy_stepFrom_spec h15) rfl rfl rfl
            (repeat (focus (show _ = _; (simp only [zz, Nat.reduceAdd, shift] <;> exact rfl))))
            with_reducible apply TO.here
            repeat (first | (with_reducible first | refine mv ?_ | refine TO.nil ?_) | ((with_reducible first | apply TO.mv | apply TO.ext | apply TO.asg | apply TO.bin); (repeat (focus (show _ = _; first | exact k2 rfl | (simp only [zz] <;> exact rfl)))); (with_reducible refine TO.here ?_)) | ((with_reducible apply TX.region); (focus (simp only [] <;> exact rfl)); (focus rfl); (try dsimp only)))
            cases hr
            refine ⟨rfl, ?_⟩
            apply wf 0 rfl rfl
            (repeat (focus (show _ = _; (simp only [zz, frz, frzB, tmlc] <;> exact rfl))))
            exact Wk.ren [] rfl .nil (by (repeat (first | exact RNs.nil | refine RNs.cons .junk ?_ | refine RNs.cons (.keep rfl rfl) ?_)))
        · rw [if_neg (by rw [h12]; exact Bool.false_ne_true)] at hr
          repeat (first | with_reducible refine mv ?_ | ((with_reducible apply TX.cond_false); (focus rfl); (focus ((simp only [z1, h12]; done)))))
          cases hr
          refine ⟨rfl, ?_⟩
          exact Wk.ren [] rfl .nil (by (repeat (first | exact RNs.nil | refine RNs.cons .junk ?_)))
      · intro e h; rcases e with _ | e <;> cases h
      · try dsimp only
        rcases v27 with v28 | _
        · try dsimp only at hr
          try dsimp only
          repeat (first | with_reducible refine mv ?_)
          cases hr
          refine ⟨.inr rfl, _, (by simp only []; exact rfl), ?_⟩
          exact Wk.ren [] rfl .nil (by (repeat (first | exact RNs.nil | refine RNs.cons (.keep rfl rfl) ?_)))
        · try dsimp only at hr
          try dsimp only
          repeat (first | (with_reducible first | refine mv ?_ | refine TO.nil ?_) | ((with_reducible apply TO.asg); (repeat (focus (show _ = _; first | exact k2 rfl | (simp only [zz] <;> exact rfl)))); (with_reducible refine TO.here ?_)) | ((with_reducible apply TX.region); (focus (simp only [] <;> exact rfl)); (focus rfl); (try dsimp only)))
          cases hr
          refine ⟨.inr rfl, _, (by simp only []; exact rfl), ?_⟩
          exact Wk.ren [] rfl .nil (by (repeat (first | exact RNs.nil | refine RNs.cons (.keep rfl rfl) ?_)))
      · try dsimp only
        exact Wk.ren [] rfl .nil (by (repeat (first | exact RNs.nil | refine RNs.cons .junk ?_ | refine RNs.cons (.keep rfl rfl) ?_)))
  rfl

end Go.Rex

namespace Go.Rex
open Go.Proofs
open Go Go.Rex Go.RowKit
set_option maxRecDepth 100000
set_option maxHeartbeats 200000
theorem base_Within_spec {v1 : Int} {v2 : Int} {v3 : Int} {v4 : Bool} (hr : base_Within v1 v2 v3 = some (v4)) : Spec (lim Tryz.prog) 31 [.v (.int .i64 v1), .v (.int .i64 v2), .v (.int .i64 v3)] ⟨[.v (.bool v4)], []⟩ := by
  unfold base_Within at hr
  apply Spec.fn Tryz.func31 rfl
  focus (simp [Tryz.f31] <;> exact rfl)
  focus
    repeat (first | (with_reducible first | refine mv ?_ | refine TO.nil ?_) | ((with_reducible first | apply TO.asg | apply TO.mv | apply TO.bin); (repeat (focus (show _ = _; first | exact k2 rfl | (simp only [zz] <;> exact rfl)))); (with_reducible refine TO.here ?_)) | ((with_reducible apply TX.region); (focus (simp only [] <;> exact rfl)); (focus rfl); (try dsimp only)))
    rcases Bool.eq_false_or_eq_true ((decide (v2 ≤ v1))) with h1 | h1
    · rw [if_pos h1] at hr
      repeat (first | (with_reducible first | refine mv ?_ | refine TO.nil ?_) | ((with_reducible first | apply TO.mv | apply TO.bin | apply TO.pk | apply TO.asg); (repeat (focus (show _ = _; first | exact k2 rfl | (simp only [zz, h1] <;> exact rfl)))); (with_reducible refine TO.here ?_)))
      cases hr
      refine ⟨.inr rfl, _, (by simp only []; exact rfl), ?_⟩
      exact Wk.ren [] rfl .nil (by (repeat (first | exact RNs.nil | refine RNs.cons (.keep rfl rfl) ?_)))
    · rw [if_neg (by rw [h1]; exact Bool.false_ne_true)] at hr
      repeat (first | (with_reducible first | refine mv ?_ | refine TO.nil ?_) | ((with_reducible first | apply TO.pk | apply TO.asg); (repeat (focus (show _ = _; first | exact k2 rfl | (simp only [zz] <;> exact rfl)))); (with_reducible refine TO.here ?_)) | ((with_reducible apply TO.skip1); (repeat (focus (show _ = _; (simp only [zz, twant, zp, zs, h1] <;> exact rfl)))); (with_reducible refine TO.here ?_)))
      cases hr
      refine ⟨.inr rfl, _, (by simp only []; exact rfl), ?_⟩
      exact Wk.ren [] rfl .nil (by (repeat (first | exact RNs.nil | refine RNs.cons (.keep rfl rfl) ?_)))
  rfl

end Go.Rex

namespace Go.Rex
open Go.Proofs
open Go Go.Rex Go.RowKit
set_option maxRecDepth 100000
set_option maxHeartbeats 1000000
def y26 := an @ag3 <| an @ag43 <| an @ag44 <| an @cs3 <| an @cs44 <| an @fd46_0 <| an @fd46_1 <| an @ok3 <| an @ok44 <| an @so43 <| an @so44 <| @wi64_0a1
theorem ref03_CheckExchange_spec {v1 : (List (List Int))} {v2 : (List Int)} {v3 : Int} {v4 : Int} (hr : ref03_CheckExchange v1 v2 = some (v3, v4)) : Spec (lim Tryz.prog) 25 [.agg [.list 1 (v1.map e_Li_), .list 1 (v2.map e_i)]] ⟨[.tuple [.v (.int .i64 v3), .v (.int .i64 v4)]], []⟩ := by
  unfold ref03_CheckExchange at hr
  apply Spec.fn Tryz.func25 rfl
  focus (simp [Tryz.f25] <;> exact rfl)
  focus
    repeat (first | (with_reducible first | refine mv ?_ | refine TO.nil ?_) | ((with_reducible first | apply TO.bf | apply TO.asg | apply TO.fa | apply TO.ld | apply TO.len | apply TO.mv | apply TO.bin); (repeat (focus (show _ = _; first | exact k1 rfl | exact k2 rfl | (simp only [zz, y26, Nat.reduceAdd, tfieldAddr, tload, rowOf, partT, tlen] <;> exact rfl) | exact rfl))); (with_reducible refine TO.here ?_)) | ((with_reducible apply TX.region); (focus (simp only [] <;> exact rfl)); (focus rfl); (try dsimp only)))
    rcases Bool.eq_false_or_eq_true ((decide ((v1.length : Int) = 0))) with h1 | h1
    · rw [if_pos h1] at hr
      repeat (first | (with_reducible first | refine mv ?_ | refine TO.nil ?_) | ((with_reducible apply TO.asg); (repeat (focus (show _ = _; first | exact k2 rfl | (simp only [zz, h1] <;> exact rfl)))); (with_reducible refine TO.here ?_)) | ((with_reducible apply TX.region); (focus (simp only [] <;> exact rfl)); (focus rfl); (try dsimp only)) | ((with_reducible apply TX.cond_true); (focus rfl); (focus ((simp only [z1, h1]; done)))))
      cases hr
      refine ⟨.inr rfl, _, (by simp only []; exact rfl), ?_⟩
      exact Wk.ren [] rfl .nil (by (repeat (first | exact RNs.nil | refine RNs.cons (.keep rfl rfl) ?_)))
    · rw [if_neg (by rw [h1]; exact Bool.false_ne_true)] at hr
      repeat (first | (with_reducible first | refine mv ?_ | refine TO.nil ?_) | ((with_reducible first | apply TO.mv | apply TO.bin); (repeat (focus (show _ = _; first | exact k2 rfl | (simp only [zz, h1] <;> exact rfl)))); (with_reducible refine TO.here ?_)) | ((with_reducible apply TX.region); (focus (simp only [] <;> exact rfl)); (focus rfl); (try dsimp only)) | ((with_reducible apply TX.cond_false); (focus rfl); (focus ((simp only [z1, h1]; done)))))
      rcases Bool.eq_false_or_eq_true ((decide ((v1.length : Int) > 12))) with h2 | h2
      · rw [if_pos h2] at hr
        repeat (first | (with_reducible first | refine mv ?_ | refine TO.nil ?_) | ((with_reducible apply TO.asg); (repeat (focus (show _ = _; first | exact k2 rfl | (simp only [zz, h2] <;> exact rfl)))); (with_reducible refine TO.here ?_)) | ((with_reducible apply TX.region); (focus (simp only [] <;> exact rfl)); (focus rfl); (try dsimp only)) | ((with_reducible apply TX.cond_true); (focus rfl); (focus ((simp only [z1, h2]; done)))))
        cases hr
        refine ⟨.inr rfl, _, (by simp only []; exact rfl), ?_⟩
        exact Wk.ren [] rfl .nil (by (repeat (first | exact RNs.nil | refine RNs.cons (.keep rfl rfl) ?_)))
      · rw [if_neg (by rw [h2]; exact Bool.false_ne_true)] at hr
        repeat (first | (with_reducible first | refine mv ?_ | refine TO.nil ?_) | ((with_reducible first | apply TO.fa | apply TO.ld | apply TO.len | apply TO.mv | apply TO.bin); (repeat (focus (show _ = _; first | exact k2 rfl | (simp only [zz, y26, Nat.reduceAdd, tfieldAddr, tload, rowOf, partT, tlen, h2] <;> exact rfl) | exact rfl))); (with_reducible refine TO.here ?_)) | ((with_reducible apply TX.region); (focus (simp only [] <;> exact rfl)); (focus rfl); (try dsimp only)) | ((with_reducible apply TX.cond_false); (focus rfl); (focus ((simp only [z1, h2]; done)))))
        rcases Bool.eq_false_or_eq_true ((decide ((v2.length : Int) ≠ (v1.length : Int)))) with h3 | h3
        · rw [if_pos h3] at hr
          repeat (first | (with_reducible first | refine mv ?_ | refine TO.nil ?_) | ((with_reducible apply TO.asg); (repeat (focus (show _ = _; first | exact k2 rfl | (simp only [zz, h3] <;> exact rfl)))); (with_reducible refine TO.here ?_)) | ((with_reducible apply TX.region); (focus (simp only [] <;> exact rfl)); (focus rfl); (try dsimp only)) | ((with_reducible apply TX.cond_true); (focus rfl); (focus ((simp only [z1, h3]; done)))))
          cases hr
          refine ⟨.inr rfl, _, (by simp only []; exact rfl), ?_⟩
          exact Wk.ren [] rfl .nil (by (repeat (first | exact RNs.nil | refine RNs.cons (.keep rfl rfl) ?_)))
        · rw [if_neg (by rw [h3]; exact Bool.false_ne_true)] at hr
          repeat (first | (with_reducible first | refine mv ?_ | refine TO.nil ?_) | ((with_reducible apply TO.asg); (repeat (focus (show _ = _; first | exact k2 rfl | (simp only [zz, h3] <;> exact rfl)))); (with_reducible refine TO.here ?_)) | ((with_reducible apply TX.region); (focus (simp only [] <;> exact rfl)); (focus rfl); (try dsimp only)) | ((with_reducible apply TX.cond_false); (focus rfl); (focus ((simp only [z1, h3]; done)))))
          obtain ⟨v32, h36, hr⟩ := Option.bind_eq_some_iff.1 hr
          refine TX.loopE (step := ref03_CheckExchange_l1 v1 v2) (x := 0) h36 (fun v5 => ⟨.junk :: .fptr true [.list 1 (v1.map e_Li_), .list 1 (v2.map e_i)] 0 :: .junk :: .junk :: .v (.int .i64 (v1.length : Int)) :: .v (.int .i64 v5) :: .junk :: .junk :: .junk :: .junk :: .junk :: .junk :: .junk :: .junk :: .junk :: .junk :: .junk :: .junk :: .junk :: .junk :: .junk :: .junk :: .junk :: .junk :: .junk :: .junk :: .junk :: .junk :: .junk :: .junk :: .junk :: .junk :: .junk :: .junk :: .junk :: .junk :: .junk :: .junk :: .junk :: .junk :: .junk :: .junk :: .junk :: .junk :: .junk :: .junk :: .junk :: .junk :: .junk :: .junk :: .junk :: .junk :: .junk :: .junk :: .junk :: .junk :: .junk :: .junk :: .junk :: .junk :: .junk :: .junk :: .junk :: .junk :: .junk :: .junk :: .junk :: .junk :: .junk :: .junk :: .junk :: [], []⟩) (fun e => match e with | (.inl (v18, v19)) => (.ret, ⟨.junk :: .junk :: .v (.int .i64 v18) :: .v (.int .i64 v19) :: .junk :: .junk :: .junk :: .junk :: .junk :: .junk :: .junk :: .junk :: .junk :: .junk :: .junk :: .junk :: .junk :: .junk :: .junk :: .junk :: .junk :: .junk :: .junk :: .junk :: .junk :: .junk :: .junk :: .junk :: .junk :: .junk :: .junk :: .junk :: .junk :: .junk :: .junk :: .junk :: .junk :: .junk :: .junk :: .junk :: .junk :: .junk :: .junk :: .junk :: .junk :: .junk :: .junk :: .junk :: .junk :: .junk :: .junk :: .junk :: .junk :: .junk :: .junk :: .junk :: .junk :: .junk :: .junk :: .junk :: .junk :: .junk :: .junk :: .junk :: .junk :: .junk :: .junk :: .junk :: .junk :: .junk :: .junk :: [], []⟩) | (.inr _) => (.exit 0, ⟨.junk :: .junk :: .junk :: .junk :: .junk :: .junk :: .junk :: .junk :: .junk :: .junk :: .junk :: .junk :: .junk :: .junk :: .junk :: .junk :: .junk :: .junk :: .junk :: .junk :: .junk :: .junk :: .junk :: .junk :: .junk :: .junk :: .junk :: .junk :: .junk :: .junk :: .junk :: .junk :: .junk :: .junk :: .junk :: .junk :: .junk :: .junk :: .junk :: .junk :: .junk :: .junk :: .junk :: .junk :: .junk :: .junk :: .junk :: .junk :: .junk :: .junk :: .junk :: .junk :: .junk :: .junk :: .junk :: .junk :: .junk :: .junk :: .junk :: .junk :: .junk :: .junk :: .junk :: .junk :: .junk :: .junk :: .junk :: .junk :: .junk :: .junk :: .junk :: [], []⟩)) ?_ ?_ ?_ ?_
          · rintro v5 v0 hr
            dsimp only [ref03_CheckExchange_l1] at hr
            try dsimp only
            repeat (first | (with_reducible first | refine mv ?_ | refine TO.nil ?_) | ((with_reducible first | apply TO.mv | apply TO.bin); (repeat (focus (show _ = _; first | exact k2 rfl | (simp only [zz] <;> exact rfl)))); (with_reducible refine TO.here ?_)) | ((with_reducible apply TX.region); (focus (simp only [] <;> exact rfl)); (focus rfl); (try dsimp only)))
            rcases Bool.eq_false_or_eq_true ((decide (v5 < (v1.length : Int)))) with h20 | h20
            · rw [if_pos h20] at hr
              repeat (first | with_reducible refine mv ?_ | ((with_reducible first | apply TO.fa | apply TO.ld | apply TO.mv); (repeat (focus (show _ = _; first | exact k2 rfl | (simp only [zz, y26, Nat.reduceAdd, tfieldAddr, tload, rowOf, partT, h20] <;> exact rfl) | exact rfl))); (with_reducible refine TO.here ?_)) | ((with_reducible apply TX.region); (focus (simp only [] <;> exact rfl)); (focus rfl); (try dsimp only)) | ((with_reducible apply TX.cond_true); (focus rfl); (focus ((simp only [z1, h20]; done)))))
              obtain ⟨v20, h21, hr⟩ := Option.bind_eq_some_iff.1 hr
              try dsimp only at hr
              have h21m := tidx_map (f := e_Li_) h21
              have h21l := getI_lt h21
              try simp only [List.length_set] at h21l
              have h21a := getI_at h21
              repeat (first | (with_reducible first | refine mv ?_ | refine TO.nil ?_) | ((with_reducible first | apply TO.ia | apply TO.ld | apply TO.len | apply TO.mv | apply TO.bin); (repeat (focus (show _ = _; first | exact k2 rfl | (simp only [zz, y26, e_Li_, tindexAddr, tload, rowOf, partT, tlen, h21m] <;> exact rfl) | exact rfl))); (with_reducible refine TO.here ?_)))
              rcases Bool.eq_false_or_eq_true ((decide ((v20.length : Int) ≠ (v1.length : Int)))) with h22 | h22
              · rw [if_pos h22] at hr
                repeat (first | (with_reducible first | refine mv ?_ | refine TO.nil ?_) | ((with_reducible first | apply TO.mv | apply TO.asg); (repeat (focus (show _ = _; first | exact k2 rfl | (simp only [zz, h22] <;> exact rfl)))); (with_reducible refine TO.here ?_)) | ((with_reducible apply TX.region); (focus (simp only [] <;> exact rfl)); (focus rfl); (try dsimp only)) | ((with_reducible apply TX.cond_true); (focus rfl); (focus ((simp only [z1, h22]; done)))))
                cases hr
                refine ⟨rfl, ?_⟩
                exact Wk.ren [] rfl .nil (by (repeat (first | exact RNs.nil | refine RNs.cons .junk ?_ | refine RNs.cons (.keep rfl rfl) ?_)))
              · rw [if_neg (by rw [h22]; exact Bool.false_ne_true)] at hr
                repeat (first | (with_reducible first | refine mv ?_ | refine TO.nil ?_) | ((with_reducible apply TO.asg); (repeat (focus (show _ = _; first | exact k2 rfl | (simp only [zz, h22] <;> exact rfl)))); (with_reducible refine TO.here ?_)) | ((with_reducible apply TX.region); (focus (simp only [] <;> exact rfl)); (focus rfl); (try dsimp only)) | ((with_reducible apply TX.cond_false); (focus rfl); (focus ((simp only [z1, h22]; done)))))
                obtain ⟨v28, h31, hr⟩ := Option.bind_eq_some_iff.1 hr
                refine TX.loopE (step := ref03_CheckExchange_l2 v1 v20) (x := (0, 0)) h31 (fun (v21, v22) => ⟨.junk :: .fptr true [.list 1 (v1.map e_Li_), .list 1 (v2.map e_i)] 0 :: .junk :: .junk :: .v (.int .i64 (v1.length : Int)) :: .v (.int .i64 v5) :: .v (.int .i64 v21) :: .v (.int .i64 v22) :: .junk :: .junk :: .junk :: .junk :: .junk :: .junk :: .junk :: .junk :: .junk :: .junk :: .junk :: .junk :: .junk :: .junk :: .junk :: .junk :: .junk :: .junk :: .junk :: .junk :: .junk :: .junk :: .junk :: .junk :: .junk :: .junk :: .junk :: .junk :: .junk :: .junk :: .junk :: .junk :: .junk :: .junk :: .junk :: .junk :: .junk :: .junk :: .junk :: .junk :: .junk :: .junk :: .junk :: .junk :: .junk :: .junk :: .junk :: .junk :: .junk :: .junk :: .junk :: .junk :: .junk :: .junk :: .junk :: .junk :: .junk :: .junk :: .junk :: .junk :: .junk :: .junk :: .junk :: [], []⟩) (fun e => match e with | (.inl _) => (.ret, ⟨.junk :: .junk :: .v (.int .i64 v5) :: .v (.int .i64 2) :: .junk :: .junk :: .junk :: .junk :: .junk :: .junk :: .junk :: .junk :: .junk :: .junk :: .junk :: .junk :: .junk :: .junk :: .junk :: .junk :: .junk :: .junk :: .junk :: .junk :: .junk :: .junk :: .junk :: .junk :: .junk :: .junk :: .junk :: .junk :: .junk :: .junk :: .junk :: .junk :: .junk :: .junk :: .junk :: .junk :: .junk :: .junk :: .junk :: .junk :: .junk :: .junk :: .junk :: .junk :: .junk :: .junk :: .junk :: .junk :: .junk :: .junk :: .junk :: .junk :: .junk :: .junk :: .junk :: .junk :: .junk :: .junk :: .junk :: .junk :: .junk :: .junk :: .junk :: .junk :: .junk :: .junk :: .junk :: [], []⟩) | (.inr v25) => (.exit 2, ⟨.junk :: .fptr true [.list 1 (v1.map e_Li_), .list 1 (v2.map e_i)] 0 :: .junk :: .junk :: .v (.int .i64 (v1.length : Int)) :: .v (.int .i64 v5) :: .v (.int .i64 v25) :: .junk :: .junk :: .junk :: .junk :: .junk :: .junk :: .junk :: .junk :: .junk :: .junk :: .junk :: .junk :: .junk :: .junk :: .junk :: .junk :: .junk :: .junk :: .junk :: .junk :: .junk :: .junk :: .junk :: .junk :: .junk :: .junk :: .junk :: .junk :: .junk :: .junk :: .junk :: .junk :: .junk :: .junk :: .junk :: .junk :: .junk :: .junk :: .junk :: .junk :: .junk :: .junk :: .junk :: .junk :: .junk :: .junk :: .junk :: .junk :: .junk :: .junk :: .junk :: .junk :: .junk :: .junk :: .junk :: .junk :: .junk :: .junk :: .junk :: .junk :: .junk :: .junk :: .junk :: .junk :: [], []⟩)) ?_ ?_ ?_ ?_
                · rintro ⟨v21, v22⟩ v0 hr
                  dsimp only [ref03_CheckExchange_l2] at hr
                  try dsimp only
                  repeat (first | (with_reducible first | refine mv ?_ | refine TO.nil ?_) | ((with_reducible first | apply TO.mv | apply TO.bin); (repeat (focus (show _ = _; first | exact k2 rfl | (simp only [zz] <;> exact rfl)))); (with_reducible refine TO.here ?_)) | ((with_reducible apply TX.region); (focus (simp only [] <;> exact rfl)); (focus rfl); (try dsimp only)))
                  rcases Bool.eq_false_or_eq_true ((decide (v22 < (v1.length : Int)))) with h27 | h27
                  · rw [if_pos h27] at hr
                    repeat (first | with_reducible refine mv ?_ | ((with_reducible first | apply TO.fa | apply TO.ld | apply TO.mv | apply TO.ia); (repeat (focus (show _ = _; first | exact k2 rfl | (simp only [zz, y26, e_Li_, tfieldAddr, tload, rowOf, partT, tindexAddr, Nat.zero_add, h21m, h27] <;> exact rfl) | exact rfl))); (with_reducible refine TO.here ?_)) | ((with_reducible apply TX.region); (focus (simp only [] <;> exact rfl)); (focus rfl); (try dsimp only)) | ((with_reducible apply TX.cond_true); (focus rfl); (focus ((simp only [z1, h27]; done)))))
                    obtain ⟨v26, h28, hr⟩ := Option.bind_eq_some_iff.1 hr
                    try dsimp only at hr
                    have h28m := tidx_map (f := e_i) h28
                    have h28l := getI_lt h28
                    try simp only [List.length_set] at h28l
                    have h28a := getI_at h28
                    repeat (first | ((with_reducible first | apply TO.ia | apply TO.ld); (repeat (focus (show _ = _; first | exact k2 rfl | (simp only [zz, y26, e_i, tindexAddr, tload, rowOf, partT, h28m] <;> exact rfl) | exact rfl))); (with_reducible refine TO.here ?_)))
                    obtain ⟨v27, h29, hr⟩ := Option.bind_eq_some_iff.1 hr
                    try dsimp only at hr
                    apply TO.cal (by first | rfl | (simp only [twant, z1, z7, h1, h2, h3, h20, h21m, h21l, h21a, h22, h27, h28m, h28l, h28a] <;> rfl)) rfl goFn31 (base_Within_spec h29) rfl rfl rfl
                    (repeat (focus (show _ = _; (simp only [zz, shift] <;> exact rfl))))
                    with_reducible apply TO.here
                    apply TO.pop1 (by first | rfl | (simp only [twant, z1, z7, h1, h2, h3, h20, h21m, h21l, h21a, h22, h27, h28m, h28l, h28a] <;> rfl)) (pop_not rfl)
                    (repeat (focus (show _ = _; (simp only [zz] <;> exact rfl))))
                    with_reducible apply TO.here
                    repeat (first | (with_reducible first | refine mv ?_ | refine TO.nil ?_))
                    rcases Bool.eq_false_or_eq_true (v27) with h30 | h30
                    · rw [if_pos h30] at hr
                      repeat (first | (with_reducible first | refine mv ?_ | refine TO.nil ?_) | ((with_reducible first | apply TO.mv | apply TO.fa | apply TO.ld | apply TO.ia | apply TO.bin | apply TO.asg); (repeat (focus (show _ = _; first | exact k2 rfl | (simp only [zz, y26, e_Li_, e_i, tfieldAddr, tload, rowOf, partT, tindexAddr, Nat.zero_add, h21m, h28m, h30] <;> exact rfl) | exact rfl))); (with_reducible refine TO.here ?_)) | ((with_reducible apply TX.region); (focus (simp only [] <;> exact rfl)); (focus rfl); (try dsimp only)) | ((with_reducible apply TX.cond_false); (focus rfl); (focus ((simp only [z1, Bool.not_true, h30]; done)))))
                      cases hr
                      refine ⟨rfl, ?_⟩
                      exact Wk.ren [] rfl .nil (by (repeat (first | exact RNs.nil | refine RNs.cons .junk ?_ | refine RNs.cons (.keep rfl rfl) ?_)))
                    · rw [if_neg (by rw [h30]; exact Bool.false_ne_true)] at hr
                      repeat (first | (with_reducible first | refine mv ?_ | refine TO.nil ?_) | ((with_reducible first | apply TO.mv | apply TO.asg); (repeat (focus (show _ = _; first | exact k2 rfl | (simp only [zz, h30] <;> exact rfl)))); (with_reducible refine TO.here ?_)) | ((with_reducible apply TX.region); (focus (simp only [] <;> exact rfl)); (focus rfl); (try dsimp only)) | ((with_reducible apply TX.cond_true); (focus rfl); (focus ((simp only [z1, Bool.not_false, h30]; done)))))
                      cases hr
                      refine ⟨rfl, ?_⟩
                      exact Wk.ren [] rfl .nil (by (repeat (first | exact RNs.nil | refine RNs.cons .junk ?_ | refine RNs.cons (.keep rfl rfl) ?_)))
                  · rw [if_neg (by rw [h27]; exact Bool.false_ne_true)] at hr
                    repeat (first | with_reducible refine mv ?_ | ((with_reducible apply TX.cond_false); (focus rfl); (focus ((simp only [z1, h27]; done)))))
                    cases hr
                    refine ⟨rfl, ?_⟩
                    exact Wk.ren [] rfl .nil (by (repeat (first | exact RNs.nil | refine RNs.cons .junk ?_ | refine RNs.cons (.keep rfl rfl) ?_)))
                · intro e h; rcases e with _ | e <;> cases h
                · try dsimp only
                  rcases v28 with _ | v29
                  · try dsimp only at hr
                    try dsimp only
                    repeat (first | with_reducible refine mv ?_)
                    cases hr
                    refine ⟨rfl, ?_⟩
                    exact Wk.ren [] rfl .nil (by (repeat (first | exact RNs.nil | refine RNs.cons .junk ?_ | refine RNs.cons (.keep rfl rfl) ?_)))
                  · try dsimp only at hr
                    try dsimp only
                    repeat (first | (with_reducible first | refine mv ?_ | refine TO.nil ?_) | ((with_reducible first | apply TO.mv | apply TO.bin); (repeat (focus (show _ = _; first | exact k2 rfl | (simp only [zz] <;> exact rfl)))); (with_reducible refine TO.here ?_)) | ((with_reducible apply TX.region); (focus (simp only [] <;> exact rfl)); (focus rfl); (try dsimp only)))
                    rcases Bool.eq_false_or_eq_true ((decide (v29 ≠ 1000))) with h32 | h32
                    · rw [if_pos h32] at hr
                      repeat (first | (with_reducible first | refine mv ?_ | refine TO.nil ?_) | ((with_reducible first | apply TO.mv | apply TO.asg); (repeat (focus (show _ = _; first | exact k2 rfl | (simp only [zz, h32] <;> exact rfl)))); (with_reducible refine TO.here ?_)) | ((with_reducible apply TX.region); (focus (simp only [] <;> exact rfl)); (focus rfl); (try dsimp only)) | ((with_reducible apply TX.cond_true); (focus rfl); (focus ((simp only [z1, h32]; done)))))
                      cases hr
                      refine ⟨rfl, ?_⟩
                      exact Wk.ren [] rfl .nil (by (repeat (first | exact RNs.nil | refine RNs.cons .junk ?_ | refine RNs.cons (.keep rfl rfl) ?_)))
                    · rw [if_neg (by rw [h32]; exact Bool.false_ne_true)] at hr
                      repeat (first | with_reducible refine mv ?_ | ((with_reducible first | apply TO.fa | apply TO.ld | apply TO.mv); (repeat (focus (show _ = _; first | exact k2 rfl | (simp only [zz, y26, Nat.reduceAdd, tfieldAddr, tload, rowOf, partT, h32] <;> exact rfl) | exact rfl))); (with_reducible refine TO.here ?_)) | ((with_reducible apply TX.region); (focus (simp only [] <;> exact rfl)); (focus rfl); (try dsimp only)) | ((with_reducible apply TX.cond_false); (focus rfl); (focus ((simp only [z1, h32]; done)))))
                      obtain ⟨v30, h33, hr⟩ := Option.bind_eq_some_iff.1 hr
                      try dsimp only at hr
                      have h33m := tidx_map (f := e_i) h33
                      have h33l := getI_lt h33
                      try simp only [List.length_set] at h33l
                      have h33a := getI_at h33
                      repeat (first | ((with_reducible first | apply TO.ia | apply TO.ld); (repeat (focus (show _ = _; first | exact k2 rfl | (simp only [zz, y26, e_i, tindexAddr, tload, rowOf, partT, h33m] <;> exact rfl) | exact rfl))); (with_reducible refine TO.here ?_)))
                      obtain ⟨v31, h34, hr⟩ := Option.bind_eq_some_iff.1 hr
                      try dsimp only at hr
                      apply TO.cal (by first | rfl | (simp only [twant, z1, z7, h1, h2, h3, h20, h21m, h21l, h21a, h22, h32, h33m, h33l, h33a] <;> rfl)) rfl goFn31 (base_Within_spec h34) rfl rfl rfl
                      (repeat (focus (show _ = _; (simp only [zz, shift] <;> exact rfl))))
                      with_reducible apply TO.here
                      apply TO.pop1 (by first | rfl | (simp only [twant, z1, z7, h1, h2, h3, h20, h21m, h21l, h21a, h22, h32, h33m, h33l, h33a] <;> rfl)) (pop_not rfl)
                      (repeat (focus (show _ = _; (simp only [zz] <;> exact rfl))))
                      with_reducible apply TO.here
                      repeat (first | (with_reducible first | refine mv ?_ | refine TO.nil ?_))
                      rcases Bool.eq_false_or_eq_true (v31) with h35 | h35
                      · rw [if_pos h35] at hr
                        repeat (first | (with_reducible first | refine mv ?_ | refine TO.nil ?_) | ((with_reducible first | apply TO.mv | apply TO.bin | apply TO.asg); (repeat (focus (show _ = _; first | exact k2 rfl | (simp only [zz, h35] <;> exact rfl)))); (with_reducible refine TO.here ?_)) | ((with_reducible apply TX.region); (focus (simp only [] <;> exact rfl)); (focus rfl); (try dsimp only)) | ((with_reducible apply TX.cond_false); (focus rfl); (focus ((simp only [z1, Bool.not_true, h35]; done)))))
                        cases hr
                        refine ⟨rfl, ?_⟩
                        exact Wk.ren [] rfl .nil (by (repeat (first | exact RNs.nil | refine RNs.cons .junk ?_ | refine RNs.cons (.keep rfl rfl) ?_)))
                      · rw [if_neg (by rw [h35]; exact Bool.false_ne_true)] at hr
                        repeat (first | (with_reducible first | refine mv ?_ | refine TO.nil ?_) | ((with_reducible first | apply TO.mv | apply TO.asg); (repeat (focus (show _ = _; first | exact k2 rfl | (simp only [zz, h35] <;> exact rfl)))); (with_reducible refine TO.here ?_)) | ((with_reducible apply TX.region); (focus (simp only [] <;> exact rfl)); (focus rfl); (try dsimp only)) | ((with_reducible apply TX.cond_true); (focus rfl); (focus ((simp only [z1, Bool.not_false, h35]; done)))))
                        cases hr
                        refine ⟨rfl, ?_⟩
                        exact Wk.ren [] rfl .nil (by (repeat (first | exact RNs.nil | refine RNs.cons .junk ?_ | refine RNs.cons (.keep rfl rfl) ?_)))
                · try dsimp only
                  exact Wk.ren [] rfl .nil (by (repeat (first | exact RNs.nil | refine RNs.cons .junk ?_ | refine RNs.cons (.keep rfl rfl) ?_)))
            · rw [if_neg (by rw [h20]; exact Bool.false_ne_true)] at hr
              repeat (first | with_reducible refine mv ?_ | ((with_reducible apply TX.cond_false); (focus rfl); (focus ((simp only [z1, h20]; done)))))
              cases hr
              refine ⟨rfl, ?_⟩
              exact Wk.ren [] rfl .nil (by (repeat (first | exact RNs.nil | refine RNs.cons .junk ?_)))
          · intro e h; rcases e with _ | e <;> cases h
          · try dsimp only
            rcases v32 with ⟨v33, v34⟩ | _
            · try dsimp only at hr
              try dsimp only
              repeat (first | with_reducible refine mv ?_)
              cases hr
              refine ⟨.inr rfl, _, (by simp only []; exact rfl), ?_⟩
              exact Wk.ren [] rfl .nil (by (repeat (first | exact RNs.nil | refine RNs.cons (.keep rfl rfl) ?_)))
            · try dsimp only at hr
              try dsimp only
              repeat (first | (with_reducible first | refine mv ?_ | refine TO.nil ?_) | ((with_reducible apply TO.asg); (repeat (focus (show _ = _; first | exact k2 rfl | (simp only [zz] <;> exact rfl)))); (with_reducible refine TO.here ?_)) | ((with_reducible apply TX.region); (focus (simp only [] <;> exact rfl)); (focus rfl); (try dsimp only)))
              cases hr
              refine ⟨.inr rfl, _, (by simp only []; exact rfl), ?_⟩
              exact Wk.ren [] rfl .nil (by (repeat (first | exact RNs.nil | refine RNs.cons (.keep rfl rfl) ?_)))
          · try dsimp only
            exact Wk.ren [] rfl .nil (by (repeat (first | exact RNs.nil | refine RNs.cons .junk ?_ | refine RNs.cons (.keep rfl rfl) ?_)))
  rfl

end Go.Rex

namespace Go.Rex
open Go.Proofs
open Go Go.Rex Go.RowKit
set_option maxRecDepth 100000
set_option maxHeartbeats 200000
def y27 := an @ag3 <| an @ag43 <| an @cs3 <| an @fd46_0 <| an @ok3 <| an @so43 <| an @so44 <| @wi64_0a1
theorem ref03_EnergiesErr_spec {v1 : (List (List Int))} {v2 : (List Int)} {v3 : (List Int)} {v4 : Int} (hr : ref03_EnergiesErr v1 v2 v3 = some (v4)) : Spec (lim Tryz.prog) 33 [.agg [.list 1 (v1.map e_Li_), .list 1 (v2.map e_i)], .list 1 (v3.map e_i)] ⟨[.v (.int .i64 v4)], []⟩ := by
  unfold ref03_EnergiesErr at hr
  apply Spec.fn Tryz.func33 rfl
  focus (simp [Tryz.f33] <;> exact rfl)
  focus
    repeat (first | (with_reducible first | refine mv ?_ | refine TO.nil ?_) | ((with_reducible first | apply TO.bf | apply TO.asg | apply TO.mv | apply TO.len | apply TO.fa | apply TO.ld | apply TO.bin); (repeat (focus (show _ = _; first | exact k1 rfl | exact k2 rfl | (simp only [zz, y27, Nat.reduceAdd, tlen, tfieldAddr, tload, rowOf, partT] <;> exact rfl) | exact rfl))); (with_reducible refine TO.here ?_)) | ((with_reducible apply TX.region); (focus (simp only [] <;> exact rfl)); (focus rfl); (try dsimp only)))
    rcases Bool.eq_false_or_eq_true ((decide ((v3.length : Int) ≠ (v1.length : Int)))) with h1 | h1
    · rw [if_pos h1] at hr
      repeat (first | (with_reducible first | refine mv ?_ | refine TO.nil ?_) | ((with_reducible apply TO.asg); (repeat (focus (show _ = _; first | exact k2 rfl | (simp only [zz, h1] <;> exact rfl)))); (with_reducible refine TO.here ?_)) | ((with_reducible apply TX.region); (focus (simp only [] <;> exact rfl)); (focus rfl); (try dsimp only)) | ((with_reducible apply TX.cond_true); (focus rfl); (focus ((simp only [z1, h1]; done)))))
      cases hr
      refine ⟨.inr rfl, _, (by simp only []; exact rfl), ?_⟩
      exact Wk.ren [] rfl .nil (by (repeat (first | exact RNs.nil | refine RNs.cons (.keep rfl rfl) ?_)))
    · rw [if_neg (by rw [h1]; exact Bool.false_ne_true)] at hr
      repeat (first | (with_reducible first | refine mv ?_ | refine TO.nil ?_) | ((with_reducible apply TO.asg); (repeat (focus (show _ = _; first | exact k2 rfl | (simp only [zz, h1] <;> exact rfl)))); (with_reducible refine TO.here ?_)) | ((with_reducible apply TX.region); (focus (simp only [] <;> exact rfl)); (focus rfl); (try dsimp only)) | ((with_reducible apply TX.cond_false); (focus rfl); (focus ((simp only [z1, h1]; done)))))
      obtain ⟨v10, h10, hr⟩ := Option.bind_eq_some_iff.1 hr
      refine TX.loopE (step := ref03_EnergiesErr_l1 v3) (x := 0) h10 (fun v5 => ⟨.junk :: .list 1 (v3.map e_i) :: .junk :: .junk :: .junk :: .v (.int .i64 v5) :: .junk :: .junk :: .junk :: .junk :: .junk :: .junk :: .junk :: .junk :: .junk :: .junk :: .junk :: .junk :: .junk :: .junk :: .junk :: .junk :: .junk :: .junk :: [], []⟩) (fun e => match e with | (.inl _) => (.ret, ⟨.junk :: .junk :: .junk :: .junk :: .v (.int .i64 2) :: .junk :: .junk :: .junk :: .junk :: .junk :: .junk :: .junk :: .junk :: .junk :: .junk :: .junk :: .junk :: .junk :: .junk :: .junk :: .junk :: .junk :: .junk :: .junk :: [], []⟩) | (.inr _) => (.exit 0, ⟨.junk :: .junk :: .junk :: .junk :: .junk :: .junk :: .junk :: .junk :: .junk :: .junk :: .junk :: .junk :: .junk :: .junk :: .junk :: .junk :: .junk :: .junk :: .junk :: .junk :: .junk :: .junk :: .junk :: .junk :: [], []⟩)) ?_ ?_ ?_ ?_
      · rintro v5 v0 hr
        dsimp only [ref03_EnergiesErr_l1] at hr
        try dsimp only
        repeat (first | (with_reducible first | refine mv ?_ | refine TO.nil ?_) | ((with_reducible first | apply TO.mv | apply TO.len | apply TO.bin); (repeat (focus (show _ = _; first | exact k2 rfl | (simp only [zz, y27, tlen] <;> exact rfl)))); (with_reducible refine TO.here ?_)) | ((with_reducible apply TX.region); (focus (simp only [] <;> exact rfl)); (focus rfl); (try dsimp only)))
        rcases Bool.eq_false_or_eq_true ((decide (v5 < (v3.length : Int)))) with h6 | h6
        · rw [if_pos h6] at hr
          repeat (first | with_reducible refine mv ?_ | ((with_reducible apply TO.mv); (repeat (focus (show _ = _; first | exact k2 rfl | (simp only [zz, h6] <;> exact rfl)))); (with_reducible refine TO.here ?_)) | ((with_reducible apply TX.region); (focus (simp only [] <;> exact rfl)); (focus rfl); (try dsimp only)) | ((with_reducible apply TX.cond_true); (focus rfl); (focus ((simp only [z1, h6]; done)))))
          obtain ⟨v8, h7, hr⟩ := Option.bind_eq_some_iff.1 hr
          try dsimp only at hr
          have h7m := tidx_map (f := e_i) h7
          have h7l := getI_lt h7
          try simp only [List.length_set] at h7l
          have h7a := getI_at h7
          repeat (first | ((with_reducible first | apply TO.ia | apply TO.ld); (repeat (focus (show _ = _; first | exact k2 rfl | (simp only [zz, y27, e_i, tindexAddr, tload, rowOf, partT, h7m] <;> exact rfl) | exact rfl))); (with_reducible refine TO.here ?_)))
          obtain ⟨v9, h8, hr⟩ := Option.bind_eq_some_iff.1 hr
          try dsimp only at hr
          apply TO.cal (by first | rfl | (simp only [twant, z1, z7, h1, h6, h7m, h7l, h7a] <;> rfl)) rfl goFn31 (base_Within_spec h8) rfl rfl rfl
          (repeat (focus (show _ = _; (simp only [zz, shift] <;> exact rfl))))
          with_reducible apply TO.here
          apply TO.pop1 (by first | rfl | (simp only [twant, z1, z7, h1, h6, h7m, h7l, h7a] <;> rfl)) (pop_not rfl)
          (repeat (focus (show _ = _; (simp only [zz] <;> exact rfl))))
          with_reducible apply TO.here
          repeat (first | (with_reducible first | refine mv ?_ | refine TO.nil ?_))
          rcases Bool.eq_false_or_eq_true (v9) with h9 | h9
          · rw [if_pos h9] at hr
            repeat (first | (with_reducible first | refine mv ?_ | refine TO.nil ?_) | ((with_reducible first | apply TO.mv | apply TO.bin | apply TO.asg); (repeat (focus (show _ = _; first | exact k2 rfl | (simp only [zz, h9] <;> exact rfl)))); (with_reducible refine TO.here ?_)) | ((with_reducible apply TX.region); (focus (simp only [] <;> exact rfl)); (focus rfl); (try dsimp only)) | ((with_reducible apply TX.cond_false); (focus rfl); (focus ((simp only [z1, Bool.not_true, h9]; done)))))
            cases hr
            refine ⟨rfl, ?_⟩
            exact Wk.ren [] rfl .nil (by (repeat (first | exact RNs.nil | refine RNs.cons .junk ?_ | refine RNs.cons (.keep rfl rfl) ?_)))
          · rw [if_neg (by rw [h9]; exact Bool.false_ne_true)] at hr
            repeat (first | (with_reducible first | refine mv ?_ | refine TO.nil ?_) | ((with_reducible apply TO.asg); (repeat (focus (show _ = _; first | exact k2 rfl | (simp only [zz, h9] <;> exact rfl)))); (with_reducible refine TO.here ?_)) | ((with_reducible apply TX.region); (focus (simp only [] <;> exact rfl)); (focus rfl); (try dsimp only)) | ((with_reducible apply TX.cond_true); (focus rfl); (focus ((simp only [z1, Bool.not_false, h9]; done)))))
            cases hr
            refine ⟨rfl, ?_⟩
            exact Wk.ren [] rfl .nil (by (repeat (first | exact RNs.nil | refine RNs.cons .junk ?_ | refine RNs.cons (.keep rfl rfl) ?_)))
        · rw [if_neg (by rw [h6]; exact Bool.false_ne_true)] at hr
          repeat (first | with_reducible refine mv ?_ | ((with_reducible apply TX.cond_false); (focus rfl); (focus ((simp only [z1, h6]; done)))))
          cases hr
          refine ⟨rfl, ?_⟩
          exact Wk.ren [] rfl .nil (by (repeat (first | exact RNs.nil | refine RNs.cons .junk ?_)))
      · intro e h; rcases e with _ | e <;> cases h
      · try dsimp only
        rcases v10 with _ | _
        · try dsimp only at hr
          try dsimp only
          repeat (first | with_reducible refine mv ?_)
          cases hr
          refine ⟨.inr rfl, _, (by simp only []; exact rfl), ?_⟩
          exact Wk.ren [] rfl .nil (by (repeat (first | exact RNs.nil | refine RNs.cons (.keep rfl rfl) ?_)))
        · try dsimp only at hr
          try dsimp only
          repeat (first | (with_reducible first | refine mv ?_ | refine TO.nil ?_) | ((with_reducible apply TO.asg); (repeat (focus (show _ = _; first | exact k2 rfl | (simp only [zz] <;> exact rfl)))); (with_reducible refine TO.here ?_)) | ((with_reducible apply TX.region); (focus (simp only [] <;> exact rfl)); (focus rfl); (try dsimp only)))
          cases hr
          refine ⟨.inr rfl, _, (by simp only []; exact rfl), ?_⟩
          exact Wk.ren [] rfl .nil (by (repeat (first | exact RNs.nil | refine RNs.cons (.keep rfl rfl) ?_)))
      · try dsimp only
        exact Wk.ren [] rfl .nil (by (repeat (first | exact RNs.nil | refine RNs.cons .junk ?_ | refine RNs.cons (.keep rfl rfl) ?_)))
  rfl

end Go.Rex

namespace Go.Rex
open Go.Proofs
open Go Go.Rex Go.RowKit
set_option maxRecDepth 100000
set_option maxHeartbeats 200000
def y28 := an @ag46 <| an @cs46 <| @ok46
theorem law03_exchangeErr_spec {v1 : (List (List Int))} {v2 : (List Int)} {v3 : (List Int)} {v4 : Int} (hr : law03_exchangeErr v1 v2 v3 = some (v4)) : Spec (lim Tryz.prog) 26 [.agg [.list 1 (v1.map e_Li_), .list 1 (v2.map e_i)], .list 1 (v3.map e_i)] ⟨[.v (.int .i64 v4)], []⟩ := by
  unfold law03_exchangeErr at hr
  apply Spec.fn Tryz.func26 rfl
  focus (simp [Tryz.f26] <;> exact rfl)
  focus
    repeat (first | (with_reducible first | refine mv ?_ | refine TO.nil ?_) | ((with_reducible first | apply TO.bf | apply TO.asg | apply TO.ld); (repeat (focus (show _ = _; first | exact k1 rfl | exact k2 rfl | (simp only [zz, y28, Nat.reduceAdd, Nat.reduceLeDiff, tload, rowOf, partT] <;> exact rfl) | exact rfl))); (with_reducible refine TO.here ?_)) | ((with_reducible apply TX.region); (focus (simp only [] <;> exact rfl)); (focus rfl); (try dsimp only)))
    obtain ⟨⟨v5, v6⟩, h1, hr⟩ := Option.bind_eq_some_iff.1 hr
    try dsimp only at hr
    apply TO.cal (by first | rfl | (simp only [twant, z1, z7] <;> rfl)) rfl goFn25 (ref03_CheckExchange_spec h1) rfl rfl rfl
    (repeat (focus (show _ = _; (simp only [zz, shift] <;> exact rfl))))
    with_reducible apply TO.here
    repeat (first | (with_reducible first | refine mv ?_ | refine TO.nil ?_) | ((with_reducible first | apply TO.mv | apply TO.ext | apply TO.asg | apply TO.bin); (repeat (focus (show _ = _; first | exact k2 rfl | (simp only [zz] <;> exact rfl)))); (with_reducible refine TO.here ?_)) | ((with_reducible apply TX.region); (focus (simp only [] <;> exact rfl)); (focus rfl); (try dsimp only)))
    rcases Bool.eq_false_or_eq_true ((decide (v6 ≠ 0))) with h2 | h2
    · rw [if_pos h2] at hr
      repeat (first | (with_reducible first | refine mv ?_ | refine TO.nil ?_) | ((with_reducible first | apply TO.mv | apply TO.asg); (repeat (focus (show _ = _; first | exact k2 rfl | (simp only [zz, h2] <;> exact rfl)))); (with_reducible refine TO.here ?_)) | ((with_reducible apply TX.region); (focus (simp only [] <;> exact rfl)); (focus rfl); (try dsimp only)) | ((with_reducible apply TX.cond_true); (focus rfl); (focus ((simp only [z1, h2]; done)))))
      cases hr
      refine ⟨.inr rfl, _, (by simp only []; exact rfl), ?_⟩
      exact Wk.ren [] rfl .nil (by (repeat (first | exact RNs.nil | refine RNs.cons (.keep rfl rfl) ?_)))
    · rw [if_neg (by rw [h2]; exact Bool.false_ne_true)] at hr
      repeat (first | with_reducible refine mv ?_ | ((with_reducible first | apply TO.ld | apply TO.mv); (repeat (focus (show _ = _; first | exact k2 rfl | (simp only [zz, y28, Nat.reduceAdd, Nat.reduceLeDiff, tload, rowOf, partT, h2] <;> exact rfl) | exact rfl))); (with_reducible refine TO.here ?_)) | ((with_reducible apply TX.region); (focus (simp only [] <;> exact rfl)); (focus rfl); (try dsimp only)) | ((with_reducible apply TX.cond_false); (focus rfl); (focus ((simp only [z1, h2]; done)))))
      obtain ⟨v7, h3, hr⟩ := Option.bind_eq_some_iff.1 hr
      try dsimp only at hr
      apply TO.cal (by first | rfl | (simp only [twant, z1, z7, h2] <;> rfl)) rfl goFn33 (ref03_EnergiesErr_spec h3) rfl rfl rfl
      (repeat (focus (show _ = _; (simp only [zz, shift] <;> exact rfl))))
      with_reducible apply TO.here
      repeat (first | (with_reducible first | refine mv ?_ | refine TO.nil ?_) | ((with_reducible apply TO.asg); (repeat (focus (show _ = _; first | exact k2 rfl | (simp only [zz] <;> exact rfl)))); (with_reducible refine TO.here ?_)))
      cases hr
      refine ⟨.inr rfl, _, (by simp only []; exact rfl), ?_⟩
      exact Wk.ren [] rfl .nil (by (repeat (first | exact RNs.nil | refine RNs.cons (.keep rfl rfl) ?_)))
  rfl

end Go.Rex

namespace Go.Rex
open Go.Proofs
open Go Go.Rex Go.RowKit
set_option maxRecDepth 100000
set_option maxHeartbeats 200000
def y29 := an @ag3 <| an @cs3 <| an @ok3 <| an @so44 <| @wi64_0a1
theorem ref03_Total_spec {v1 : (List Int)} {v2 : Int} (hr : ref03_Total v1 = some (v2)) : Spec (lim Tryz.prog) 32 [.list 1 (v1.map e_i)] ⟨[.v (.int .i64 v2)], []⟩ := by
  unfold ref03_Total at hr
  apply Spec.fn Tryz.func32 rfl
  focus (simp [Tryz.f32] <;> exact rfl)
  focus
    repeat (first | (with_reducible first | refine mv ?_ | refine TO.nil ?_) | ((with_reducible apply TO.asg); (repeat (focus (show _ = _; first | exact k2 rfl | (simp only [zz] <;> exact rfl)))); (with_reducible refine TO.here ?_)) | ((with_reducible apply TX.region); (focus (simp only [] <;> exact rfl)); (focus rfl); (try dsimp only)))
    obtain ⟨v8, h5, hr⟩ := Option.bind_eq_some_iff.1 hr
    try dsimp only at hr
    refine TX.loopE (step := ref03_Total_l1 v1) (x := (0, 0)) h5 (fun (v3, v4) => ⟨.list 1 (v1.map e_i) :: .junk :: .junk :: .v (.int .i64 v3) :: .v (.int .i64 v4) :: .junk :: .junk :: .junk :: .junk :: .junk :: .junk :: .junk :: .junk :: .junk :: .junk :: .junk :: .junk :: .junk :: [], []⟩) (fun v6 => (.exit 0, ⟨.junk :: .junk :: .junk :: .v (.int .i64 v6) :: .junk :: .junk :: .junk :: .junk :: .junk :: .junk :: .junk :: .junk :: .junk :: .junk :: .junk :: .junk :: .junk :: .junk :: [], []⟩)) ?_ ?_ ?_ ?_
    · rintro ⟨v3, v4⟩ v0 hr
      dsimp only [ref03_Total_l1] at hr
      try dsimp only
      repeat (first | (with_reducible first | refine mv ?_ | refine TO.nil ?_) | ((with_reducible first | apply TO.mv | apply TO.len | apply TO.bin); (repeat (focus (show _ = _; first | exact k2 rfl | (simp only [zz, y29, tlen] <;> exact rfl)))); (with_reducible refine TO.here ?_)) | ((with_reducible apply TX.region); (focus (simp only [] <;> exact rfl)); (focus rfl); (try dsimp only)))
      rcases Bool.eq_false_or_eq_true ((decide (v4 < (v1.length : Int)))) with h3 | h3
      · rw [if_pos h3] at hr
        repeat (first | with_reducible refine mv ?_ | ((with_reducible apply TO.mv); (repeat (focus (show _ = _; first | exact k2 rfl | (simp only [zz, h3] <;> exact rfl)))); (with_reducible refine TO.here ?_)) | ((with_reducible apply TX.region); (focus (simp only [] <;> exact rfl)); (focus rfl); (try dsimp only)) | ((with_reducible apply TX.cond_true); (focus rfl); (focus ((simp only [z1, h3]; done)))))
        obtain ⟨v7, h4, hr⟩ := Option.bind_eq_some_iff.1 hr
        try dsimp only at hr
        have h4m := tidx_map (f := e_i) h4
        have h4l := getI_lt h4
        try simp only [List.length_set] at h4l
        have h4a := getI_at h4
        repeat (first | (with_reducible first | refine mv ?_ | refine TO.nil ?_) | ((with_reducible first | apply TO.ia | apply TO.ld | apply TO.bin | apply TO.asg | apply TO.mv); (repeat (focus (show _ = _; first | exact k2 rfl | (simp only [zz, y29, e_i, tindexAddr, tload, rowOf, partT, h4m] <;> exact rfl) | exact rfl))); (with_reducible refine TO.here ?_)) | ((with_reducible apply TX.region); (focus (simp only [] <;> exact rfl)); (focus rfl); (try dsimp only)))
        cases hr
        refine ⟨rfl, ?_⟩
        exact Wk.ren [] rfl .nil (by (repeat (first | exact RNs.nil | refine RNs.cons .junk ?_ | refine RNs.cons (.keep rfl rfl) ?_)))
      · rw [if_neg (by rw [h3]; exact Bool.false_ne_true)] at hr
        repeat (first | with_reducible refine mv ?_ | ((with_reducible apply TX.cond_false); (focus rfl); (focus ((simp only [z1, h3]; done)))))
        cases hr
        refine ⟨rfl, ?_⟩
        exact Wk.ren [] rfl .nil (by (repeat (first | exact RNs.nil | refine RNs.cons .junk ?_ | refine RNs.cons (.keep rfl rfl) ?_)))
    · intro e h; cases h
    · try dsimp only
      repeat (first | (with_reducible first | refine mv ?_ | refine TO.nil ?_) | ((with_reducible first | apply TO.mv | apply TO.asg); (repeat (focus (show _ = _; first | exact k2 rfl | (simp only [zz] <;> exact rfl)))); (with_reducible refine TO.here ?_)) | ((with_reducible apply TX.region); (focus (simp only [] <;> exact rfl)); (focus rfl); (try dsimp only)))
      cases hr
      refine ⟨.inr rfl, _, (by simp only []; exact rfl), ?_⟩
      exact wr [] rfl .nil
    · try dsimp only
      exact wr [] rfl .nil
  rfl

end Go.Rex

namespace Go.Rex
open Go.Proofs
open Go Go.Rex Go.RowKit
set_option maxRecDepth 100000
set_option maxHeartbeats 200000
theorem base_Floor_spec {v1 : Int} {v2 : Int} {v3 : Int} (hr : base_Floor v1 v2 = some (v3)) : Spec (lim Tryz.prog) 65 [.v (.int .i64 v1), .v (.int .i64 v2)] ⟨[.v (.int .i64 v3)], []⟩ := by
  unfold base_Floor at hr
  apply Spec.fn Tryz.func65 rfl
  focus (simp [Tryz.f65] <;> exact rfl)
  focus
    repeat (first | (with_reducible first | refine mv ?_ | refine TO.nil ?_) | ((with_reducible first | apply TO.asg | apply TO.mv); (repeat (focus (show _ = _; first | exact k2 rfl | (simp only [zz] <;> exact rfl)))); (with_reducible refine TO.here ?_)) | ((with_reducible apply TX.region); (focus (simp only [] <;> exact rfl)); (focus rfl); (try dsimp only)))
    by_cases h1 : v2 = 0
    · rw [if_pos h1] at hr
      cases hr
    · rw [if_neg h1] at hr
      repeat (first | (with_reducible first | refine mv ?_ | refine TO.nil ?_) | ((with_reducible first | apply TO.bin | apply TO.asg | apply TO.mv); (repeat (focus (show _ = _; first | exact k2 rfl | (simp only [zz, h1] <;> exact rfl)))); (with_reducible refine TO.here ?_)) | ((with_reducible apply TX.region); (focus (simp only [] <;> exact rfl)); (focus rfl); (try dsimp only)))
      rcases Bool.eq_false_or_eq_true ((decide ((v1.tmod v2) < 0))) with h2 | h2
      · rw [if_pos h2] at hr
        repeat (first | (with_reducible first | refine mv ?_ | refine TO.nil ?_) | ((with_reducible first | apply TO.mv | apply TO.bin | apply TO.asg); (repeat (focus (show _ = _; first | exact k2 rfl | (simp only [zz, h2] <;> exact rfl)))); (with_reducible refine TO.here ?_)) | ((with_reducible apply TX.region); (focus (simp only [] <;> exact rfl)); (focus rfl); (try dsimp only)) | ((with_reducible apply TX.cond_true); (focus rfl); (focus ((simp only [z1, h2]; done)))))
        cases hr
        refine ⟨.inr rfl, _, (by simp only []; exact rfl), ?_⟩
        exact Wk.ren [] rfl .nil (by (repeat (first | exact RNs.nil | refine RNs.cons (.keep rfl rfl) ?_)))
      · rw [if_neg (by rw [h2]; exact Bool.false_ne_true)] at hr
        repeat (first | (with_reducible first | refine mv ?_ | refine TO.nil ?_) | ((with_reducible first | apply TO.mv | apply TO.asg); (repeat (focus (show _ = _; first | exact k2 rfl | (simp only [zz, h2] <;> exact rfl)))); (with_reducible refine TO.here ?_)) | ((with_reducible apply TX.region); (focus (simp only [] <;> exact rfl)); (focus rfl); (try dsimp only)) | ((with_reducible apply TX.cond_false); (focus rfl); (focus ((simp only [z1, h2]; done)))))
        cases hr
        refine ⟨.inr rfl, _, (by simp only []; exact rfl), ?_⟩
        exact Wk.ren [] rfl .nil (by (repeat (first | exact RNs.nil | refine RNs.cons (.keep rfl rfl) ?_)))
  rfl

end Go.Rex

namespace Go.Rex
open Go.Proofs
open Go Go.Rex Go.RowKit
set_option maxRecDepth 100000
set_option maxHeartbeats 200000
theorem base_Mod_spec {v1 : Int} {v2 : Int} {v3 : Int} (hr : base_Mod v1 v2 = some (v3)) : Spec (lim Tryz.prog) 72 [.v (.int .i64 v1), .v (.int .i64 v2)] ⟨[.v (.int .i64 v3)], []⟩ := by
  unfold base_Mod at hr
  apply Spec.fn Tryz.func72 rfl
  focus (simp [Tryz.f72] <;> exact rfl)
  focus
    repeat (first | (with_reducible first | refine mv ?_ | refine TO.nil ?_) | ((with_reducible first | apply TO.asg | apply TO.mv); (repeat (focus (show _ = _; first | exact k2 rfl | (simp only [zz] <;> exact rfl)))); (with_reducible refine TO.here ?_)) | ((with_reducible apply TX.region); (focus (simp only [] <;> exact rfl)); (focus rfl); (try dsimp only)))
    by_cases h1 : v2 = 0
    · rw [if_pos h1] at hr
      cases hr
    · rw [if_neg h1] at hr
      repeat (first | (with_reducible first | refine mv ?_ | refine TO.nil ?_) | ((with_reducible first | apply TO.bin | apply TO.asg | apply TO.mv); (repeat (focus (show _ = _; first | exact k2 rfl | (simp only [zz, h1] <;> exact rfl)))); (with_reducible refine TO.here ?_)) | ((with_reducible apply TX.region); (focus (simp only [] <;> exact rfl)); (focus rfl); (try dsimp only)))
      rcases Bool.eq_false_or_eq_true ((decide ((v1.tmod v2) < 0))) with h2 | h2
      · rw [if_pos h2] at hr
        repeat (first | (with_reducible first | refine mv ?_ | refine TO.nil ?_) | ((with_reducible first | apply TO.mv | apply TO.bin | apply TO.asg); (repeat (focus (show _ = _; first | exact k2 rfl | (simp only [zz, h2] <;> exact rfl)))); (with_reducible refine TO.here ?_)) | ((with_reducible apply TX.region); (focus (simp only [] <;> exact rfl)); (focus rfl); (try dsimp only)) | ((with_reducible apply TX.cond_true); (focus rfl); (focus ((simp only [z1, h2]; done)))))
        cases hr
        refine ⟨.inr rfl, _, (by simp only []; exact rfl), ?_⟩
        exact Wk.ren [] rfl .nil (by (repeat (first | exact RNs.nil | refine RNs.cons (.keep rfl rfl) ?_)))
      · rw [if_neg (by rw [h2]; exact Bool.false_ne_true)] at hr
        repeat (first | (with_reducible first | refine mv ?_ | refine TO.nil ?_) | ((with_reducible first | apply TO.mv | apply TO.asg); (repeat (focus (show _ = _; first | exact k2 rfl | (simp only [zz, h2] <;> exact rfl)))); (with_reducible refine TO.here ?_)) | ((with_reducible apply TX.region); (focus (simp only [] <;> exact rfl)); (focus rfl); (try dsimp only)) | ((with_reducible apply TX.cond_false); (focus rfl); (focus ((simp only [z1, h2]; done)))))
        cases hr
        refine ⟨.inr rfl, _, (by simp only []; exact rfl), ?_⟩
        exact Wk.ren [] rfl .nil (by (repeat (first | exact RNs.nil | refine RNs.cons (.keep rfl rfl) ?_)))
  rfl

end Go.Rex

namespace Go.Rex
open Go.Proofs
open Go Go.Rex Go.RowKit
set_option maxRecDepth 100000
set_option maxHeartbeats 200000
theorem base_Ceil_spec {v1 : Int} {v2 : Int} {v3 : Int} (hr : base_Ceil v1 v2 = some (v3)) : Spec (lim Tryz.prog) 64 [.v (.int .i64 v1), .v (.int .i64 v2)] ⟨[.v (.int .i64 v3)], []⟩ := by
  unfold base_Ceil at hr
  apply Spec.fn Tryz.func64 rfl
  focus (simp [Tryz.f64] <;> exact rfl)
  focus
    repeat (first | (with_reducible first | refine mv ?_ | refine TO.nil ?_) | ((with_reducible first | apply TO.asg | apply TO.mv); (repeat (focus (show _ = _; first | exact k2 rfl | (simp only [zz] <;> exact rfl)))); (with_reducible refine TO.here ?_)) | ((with_reducible apply TX.region); (focus (simp only [] <;> exact rfl)); (focus rfl); (try dsimp only)))
    apply TO.pop1 (by first | rfl | (simp only [twant, z1, z7] <;> rfl)) (pop_neg rfl)
    (repeat (focus (show _ = _; (simp only [zz] <;> exact rfl))))
    with_reducible apply TO.here
    repeat (first | ((with_reducible apply TO.mv); (repeat (focus (show _ = _; first | exact k2 rfl | (simp only [zz] <;> exact rfl)))); (with_reducible refine TO.here ?_)))
    obtain ⟨v4, h1, hr⟩ := Option.bind_eq_some_iff.1 hr
    try dsimp only at hr
    apply TO.cal (by first | rfl | (simp only [twant, z1, z7] <;> rfl)) rfl goFn65 (base_Floor_spec h1) rfl rfl rfl
    (repeat (focus (show _ = _; (simp only [zz, shift] <;> exact rfl))))
    with_reducible apply TO.here
    apply TO.pop1 (by first | rfl | (simp only [twant, z1, z7] <;> rfl)) (pop_neg rfl)
    (repeat (focus (show _ = _; (simp only [zz] <;> exact rfl))))
    with_reducible apply TO.here
    repeat (first | (with_reducible first | refine mv ?_ | refine TO.nil ?_) | ((with_reducible apply TO.asg); (repeat (focus (show _ = _; first | exact k2 rfl | (simp only [zz] <;> exact rfl)))); (with_reducible refine TO.here ?_)))
    cases hr
    refine ⟨.inr rfl, _, (by simp only []; exact rfl), ?_⟩
    exact wr [] rfl .nil
  rfl

end Go.Rex

namespace Go.Rex
open Go.Proofs
open Go Go.Rex Go.RowKit
set_option maxRecDepth 100000
set_option maxHeartbeats 1000000
def y30 := an @ag3 <| an @ag43 <| an @ag44 <| an @by3 <| an @cs3 <| an @cs44 <| an @fd46_0 <| an @fd46_1 <| an @ok3 <| an @ok44 <| an @so43 <| an @so44 <| an @zc3 <| @wi64_0a1
theorem ref03_Step_spec {v1 : (List (List Int))} {v2 : (List Int)} {v3 : (List Int)} {v4 : (List Int)} {v5 : Int} (hr : ref03_Step v1 v2 v3 = some (v4, v5)) : Spec (lim Tryz.prog) 27 [.agg [.list 1 (v1.map e_Li_), .list 1 (v2.map e_i)], .list 1 (v3.map e_i)] ⟨[.tuple [.lsl 0 0 v4.length, .v (.int .i64 v5)]], [.rows 1 (v4.map e_i)]⟩ := by
  unfold ref03_Step at hr
  apply Spec.fn Tryz.func27 rfl
  focus (simp [Tryz.f27] <;> exact rfl)
  focus
    repeat (first | (with_reducible first | refine mv ?_ | refine TO.nil ?_) | ((with_reducible first | apply TO.bf | apply TO.asg | apply TO.mv | apply TO.len); (repeat (focus (show _ = _; first | exact k1 rfl | exact k2 rfl | (simp only [zz, y30, tlen] <;> exact rfl) | exact rfl))); (with_reducible refine TO.here ?_)) | ((with_reducible apply TX.region); (focus (simp only [] <;> exact rfl)); (focus rfl); (try dsimp only)))
    obtain ⟨v6, h1, hr⟩ := Option.bind_eq_some_iff.1 hr
    try dsimp only at hr
    apply TO.mk e_i h1 (by first | rfl | (simp only [twant, z1, z7] <;> rfl)) rfl rfl so44 zc3 by3 rfl rfl rfl
    (repeat (focus (show _ = _; (simp only [zz, Nat.reduceAdd] <;> exact rfl))))
    with_reducible apply TO.here
    repeat (first | (with_reducible first | refine mv ?_ | refine TO.nil ?_) | ((with_reducible apply TO.asg); (repeat (focus (show _ = _; first | exact k2 rfl | (simp only [zz] <;> exact rfl)))); (with_reducible refine TO.here ?_)) | ((with_reducible apply TX.region); (focus (simp only [] <;> exact rfl)); (focus rfl); (try dsimp only)))
    obtain ⟨⟨v60, v61⟩, h42, hr⟩ := Option.bind_eq_some_iff.1 hr
    try dsimp only at hr
    refine TX.loopE (step := ref03_Step_l1 v1 v2 v3) (x := (0, v6, 0)) h42 (fun (v7, v8, v9) => ⟨.junk :: .list 1 (v3.map e_i) :: .fptr true [.list 1 (v1.map e_Li_), .list 1 (v2.map e_i)] 0 :: .junk :: .junk :: .junk :: .v (.int .i64 (v3.length : Int)) :: .v (.int .i64 v7) :: .lsl 0 0 v8.length :: .v (.int .i64 v9) :: .junk :: .junk :: .junk :: .junk :: .junk :: .junk :: .junk :: .junk :: .junk :: .junk :: .junk :: .junk :: .junk :: .junk :: .junk :: .junk :: .junk :: .junk :: .junk :: .junk :: .junk :: .junk :: .junk :: .junk :: .junk :: .junk :: .junk :: .junk :: .junk :: .junk :: .junk :: .junk :: .junk :: .junk :: .junk :: .junk :: .junk :: .junk :: .junk :: .junk :: .junk :: .junk :: .junk :: .junk :: .junk :: .junk :: .junk :: .junk :: .junk :: .junk :: .junk :: .junk :: .junk :: .junk :: .junk :: .junk :: .junk :: .junk :: .junk :: .junk :: .junk :: .junk :: .junk :: .junk :: .junk :: .junk :: .junk :: .junk :: .junk :: .junk :: .junk :: .junk :: .junk :: .junk :: .junk :: .junk :: .junk :: .junk :: .junk :: .junk :: .junk :: .junk :: .junk :: .junk :: .junk :: .junk :: .junk :: .junk :: .junk :: .junk :: .junk :: .junk :: .junk :: [], [.rows 1 (v8.map e_i)]⟩) (fun (v34, v35) => (.exit 0, ⟨.junk :: .junk :: .junk :: .junk :: .junk :: .junk :: .junk :: .v (.int .i64 v34) :: .lsl 0 0 v35.length :: .junk :: .junk :: .junk :: .junk :: .junk :: .junk :: .junk :: .junk :: .junk :: .junk :: .junk :: .junk :: .junk :: .junk :: .junk :: .junk :: .junk :: .junk :: .junk :: .junk :: .junk :: .junk :: .junk :: .junk :: .junk :: .junk :: .junk :: .junk :: .junk :: .junk :: .junk :: .junk :: .junk :: .junk :: .junk :: .junk :: .junk :: .junk :: .junk :: .junk :: .junk :: .junk :: .junk :: .junk :: .junk :: .junk :: .junk :: .junk :: .junk :: .junk :: .junk :: .junk :: .junk :: .junk :: .junk :: .junk :: .junk :: .junk :: .junk :: .junk :: .junk :: .junk :: .junk :: .junk :: .junk :: .junk :: .junk :: .junk :: .junk :: .junk :: .junk :: .junk :: .junk :: .junk :: .junk :: .junk :: .junk :: .junk :: .junk :: .junk :: .junk :: .junk :: .junk :: .junk :: .junk :: .junk :: .junk :: .junk :: .junk :: .junk :: .junk :: .junk :: .junk :: .junk :: [], [.rows 1 (v35.map e_i)]⟩)) ?_ ?_ ?_ ?_
    · rintro ⟨v7, v8, v9⟩ v0 hr
      dsimp only [ref03_Step_l1] at hr
      try dsimp only
      repeat (first | (with_reducible first | refine mv ?_ | refine TO.nil ?_) | ((with_reducible first | apply TO.mv | apply TO.bin); (repeat (focus (show _ = _; first | exact k2 rfl | (simp only [zz] <;> exact rfl)))); (with_reducible refine TO.here ?_)) | ((with_reducible apply TX.region); (focus (simp only [] <;> exact rfl)); (focus rfl); (try dsimp only)))
      rcases Bool.eq_false_or_eq_true ((decide (v9 < (v3.length : Int)))) with h22 | h22
      · rw [if_pos h22] at hr
        repeat (first | with_reducible refine mv ?_ | ((with_reducible apply TD.mv); (repeat (focus (show _ = _; first | exact k2 rfl | (simp only [zz, h22] <;> exact rfl)))); (with_reducible refine TD.here ?_)) | ((with_reducible apply TX.drawn); (focus decide +kernel); (focus (simp only [] <;> exact rfl)); (focus exact rfl); (try dsimp only)) | ((with_reducible apply TX.cond_true); (focus rfl); (focus ((simp only [z1, h22]; done)))))
        obtain ⟨v36, h23, hr⟩ := Option.bind_eq_some_iff.1 hr
        try dsimp only at hr
        have h23m := tidx_map (f := e_i) h23
        have h23l := getI_lt h23
        try simp only [List.length_set] at h23l
        have h23a := getI_at h23
        repeat (first | ((with_reducible first | apply TD.ia | apply TD.ld | apply TD.fa | apply TD.mv); (repeat (focus (show _ = _; first | exact k2 rfl | (simp only [zz, y30, e_i, tindexAddr, Nat.zero_add, tload, rowOf, partT, tfieldAddr, h23m] <;> exact rfl) | exact rfl))); (with_reducible refine TD.here ?_)))
        obtain ⟨v37, h24, hr⟩ := Option.bind_eq_some_iff.1 hr
        try dsimp only at hr
        have h24m := tidx_map (f := e_i) h24
        have h24l := getI_lt h24
        try simp only [List.length_set] at h24l
        have h24a := getI_at h24
        repeat (first | ((with_reducible first | apply TD.ia | apply TD.ld | apply TD.bin); (repeat (focus (show _ = _; first | exact k2 rfl | (simp only [zz, y30, e_i, tindexAddr, tload, rowOf, partT, h24m] <;> exact rfl) | exact rfl))); (with_reducible refine TD.here ?_)))
        obtain ⟨v38, h25, hr⟩ := Option.bind_eq_some_iff.1 hr
        try dsimp only at hr
        first | apply TD.cal (by first | rfl | (simp only [twant, z1, z7, h22, h23m, h23l, h23a, h24m, h24l, h24a] <;> rfl)) rfl goFn64 (base_Ceil_spec h25) rfl rfl rfl | apply TD.calw (by first | rfl | (simp only [twant, z1, z7, h22, h23m, h23l, h23a, h24m, h24l, h24a] <;> rfl)) rfl goFn64 (base_Ceil_spec h25) rfl rfl rfl rfl
        (repeat (focus (show _ = _; (simp only [zz, shift] <;> exact rfl))))
        with_reducible apply TD.here
        repeat (first | (with_reducible first | refine mv ?_ | refine TO.nil ?_) | ((with_reducible first | apply TO.mv | apply TO.ia | apply TO.ld | apply TO.bin | apply TO.asg); (repeat (focus (show _ = _; first | exact k2 rfl | (simp only [zz, y30, e_i, tindexAddr, tload, rowOf, partT, h23m] <;> exact rfl) | exact rfl))); (with_reducible refine TO.here ?_)) | ((with_reducible apply TX.region); (focus (simp only [] <;> exact rfl)); (focus rfl); (try dsimp only)) | with_reducible refine TD.nil ?_ | ((with_reducible apply TD.asg); (repeat (focus (show _ = _; first | exact k2 rfl | (simp only [zz] <;> exact rfl)))); (with_reducible refine TD.here ?_)))
        obtain ⟨⟨v56, v57, v58⟩, h40, hr⟩ := Option.bind_eq_some_iff.1 hr
        try dsimp only at hr
        refine TX.loopE (step := ref03_Step_l2 v1 v3 v9 v36 v38) (x := (v8, (IntKind.i64.wrap (v36 - v38)), 0, 0)) h40 (fun (v39, v40, v41, v42) => ⟨.junk :: .list 1 (v3.map e_i) :: .fptr true [.list 1 (v1.map e_Li_), .list 1 (v2.map e_i)] 0 :: .junk :: .junk :: .junk :: .v (.int .i64 (v3.length : Int)) :: .v (.int .i64 v7) :: .lsl 0 0 v39.length :: .v (.int .i64 v9) :: .v (.int .i64 v38) :: .v (.int .i64 (IntKind.i64.wrap (v36 - v38))) :: .v (.int .i64 v40) :: .v (.int .i64 v41) :: .v (.int .i64 v42) :: .junk :: .junk :: .junk :: .junk :: .junk :: .junk :: .junk :: .junk :: .junk :: .junk :: .junk :: .junk :: .junk :: .junk :: .junk :: .junk :: .junk :: .junk :: .junk :: .junk :: .junk :: .junk :: .junk :: .junk :: .junk :: .junk :: .junk :: .junk :: .junk :: .junk :: .junk :: .junk :: .junk :: .junk :: .junk :: .junk :: .junk :: .junk :: .junk :: .junk :: .junk :: .junk :: .junk :: .junk :: .junk :: .junk :: .junk :: .junk :: .junk :: .junk :: .junk :: .junk :: .junk :: .junk :: .junk :: .junk :: .junk :: .junk :: .junk :: .junk :: .junk :: .junk :: .junk :: .junk :: .junk :: .junk :: .junk :: .junk :: .junk :: .junk :: .junk :: .junk :: .junk :: .junk :: .junk :: .junk :: .junk :: .junk :: .junk :: .junk :: .junk :: .junk :: .junk :: .junk :: .junk :: .junk :: .junk :: .junk :: [], [.rows 1 (v39.map e_i)]⟩) (fun (v48, v49, v50) => (.exit 2, ⟨.junk :: .list 1 (v3.map e_i) :: .fptr true [.list 1 (v1.map e_Li_), .list 1 (v2.map e_i)] 0 :: .junk :: .junk :: .junk :: .v (.int .i64 (v3.length : Int)) :: .v (.int .i64 v7) :: .lsl 0 0 v48.length :: .v (.int .i64 v9) :: .v (.int .i64 v38) :: .junk :: .v (.int .i64 v49) :: .v (.int .i64 v50) :: .junk :: .junk :: .junk :: .junk :: .junk :: .junk :: .junk :: .junk :: .junk :: .junk :: .junk :: .junk :: .junk :: .junk :: .junk :: .junk :: .junk :: .junk :: .junk :: .junk :: .junk :: .junk :: .junk :: .junk :: .junk :: .junk :: .junk :: .junk :: .junk :: .junk :: .junk :: .junk :: .junk :: .junk :: .junk :: .junk :: .junk :: .junk :: .junk :: .junk :: .junk :: .junk :: .junk :: .junk :: .junk :: .junk :: .junk :: .junk :: .junk :: .junk :: .junk :: .junk :: .junk :: .junk :: .junk :: .junk :: .junk :: .junk :: .junk :: .junk :: .junk :: .junk :: .junk :: .junk :: .junk :: .junk :: .junk :: .junk :: .junk :: .junk :: .junk :: .junk :: .junk :: .junk :: .junk :: .junk :: .junk :: .junk :: .junk :: .junk :: .junk :: .junk :: .junk :: .junk :: .junk :: .junk :: .junk :: .junk :: .junk :: [], [.rows 1 (v48.map e_i)]⟩)) ?_ ?_ ?_ ?_
        · rintro ⟨v39, v40, v41, v42⟩ v0 hr
          dsimp only [ref03_Step_l2] at hr
          try dsimp only
          repeat (first | (with_reducible first | refine mv ?_ | refine TO.nil ?_) | ((with_reducible first | apply TO.mv | apply TO.bin); (repeat (focus (show _ = _; first | exact k2 rfl | (simp only [zz] <;> exact rfl)))); (with_reducible refine TO.here ?_)) | ((with_reducible apply TX.region); (focus (simp only [] <;> exact rfl)); (focus rfl); (try dsimp only)))
          rcases Bool.eq_false_or_eq_true ((decide (v42 < (v3.length : Int)))) with h33 | h33
          · rw [if_pos h33] at hr
            repeat (first | with_reducible refine mv ?_ | ((with_reducible first | apply TO.mv | apply TO.fa | apply TO.ld); (repeat (focus (show _ = _; first | exact k2 rfl | (simp only [zz, y30, Nat.reduceAdd, tfieldAddr, tload, rowOf, partT, h33] <;> exact rfl) | exact rfl))); (with_reducible refine TO.here ?_)) | ((with_reducible apply TX.region); (focus (simp only [] <;> exact rfl)); (focus rfl); (try dsimp only)) | ((with_reducible apply TX.cond_true); (focus rfl); (focus ((simp only [z1, h33]; done)))))
            obtain ⟨v51, h34, hr⟩ := Option.bind_eq_some_iff.1 hr
            try dsimp only at hr
            have h34m := tidx_map (f := e_Li_) h34
            have h34l := getI_lt h34
            try simp only [List.length_set] at h34l
            have h34a := getI_at h34
            repeat (first | ((with_reducible first | apply TO.ia | apply TO.ld | apply TO.mv); (repeat (focus (show _ = _; first | exact k2 rfl | (simp only [zz, y30, e_Li_, tindexAddr, tload, rowOf, partT, h34m] <;> exact rfl) | exact rfl))); (with_reducible refine TO.here ?_)))
            obtain ⟨v52, h35, hr⟩ := Option.bind_eq_some_iff.1 hr
            try dsimp only at hr
            have h35m := tidx_map (f := e_i) h35
            have h35l := getI_lt h35
            try simp only [List.length_set] at h35l
            have h35a := getI_at h35
            repeat (first | ((with_reducible first | apply TO.ia | apply TO.ld | apply TO.bin); (repeat (focus (show _ = _; first | exact k2 rfl | (simp only [zz, y30, e_i, tindexAddr, tload, rowOf, partT, h35m] <;> exact rfl) | exact rfl))); (with_reducible refine TO.here ?_)))
            obtain ⟨v53, h36, hr⟩ := Option.bind_eq_some_iff.1 hr
            try dsimp only at hr
            apply TO.cal (by first | rfl | (simp only [twant, z1, z7, h22, h23m, h23l, h23a, h24m, h24l, h24a, h33, h34m, h34l, h34a, h35m, h35l, h35a] <;> rfl)) rfl goFn65 (base_Floor_spec h36) rfl rfl rfl
            (repeat (focus (show _ = _; (simp only [zz, shift] <;> exact rfl))))
            with_reducible apply TO.here
            repeat (first | (with_reducible first | refine mv ?_ | refine TO.nil ?_) | ((with_reducible first | apply TO.asg | apply TO.mv); (repeat (focus (show _ = _; first | exact k2 rfl | (simp only [zz] <;> exact rfl)))); (with_reducible refine TO.here ?_)) | ((with_reducible apply TX.region); (focus (simp only [] <;> exact rfl)); (focus rfl); (try dsimp only)))
            obtain ⟨v54, h37, hr⟩ := Option.bind_eq_some_iff.1 hr
            try dsimp only at hr
            have h37m := tidx_map (f := e_i) h37
            have h37l := getI_lt h37
            try simp only [List.length_set] at h37l
            have h37a := getI_at h37
            repeat (first | ((with_reducible first | apply TO.ia | apply TO.ld | apply TO.mv | apply TO.bin); (repeat (focus (show _ = _; first | exact k2 rfl | (simp only [zz, y30, e_i, tindexAddr, Nat.zero_add, tload, rowOf, partT, List.getElem?_map, h35l, h37l, h37a] <;> exact rfl) | exact rfl))); (with_reducible refine TO.here ?_)))
            apply TO.sr e_i v39 v54 (IntKind.i64.wrap (v54 + v53)) h37a (by first | rfl | (simp only [twant, z1, z7, h22, h23m, h23l, h23a, h24m, h24l, h24a, h33, h34m, h34l, h34a, h35m, h35l, h35a, h37m, h37l, h37a] <;> rfl)) rfl rfl rfl rfl rfl ok3 (by rw [cs3]; rfl) rfl rfl rfl rfl
            (repeat (focus (show _ = _; (simp only [zz] <;> exact rfl))))
            with_reducible apply TO.here
            repeat (first | (with_reducible first | refine mv ?_ | refine TO.nil ?_) | ((with_reducible apply TO.asg); (repeat (focus (show _ = _; first | exact k2 rfl | (simp only [zz] <;> exact rfl)))); (with_reducible refine TO.here ?_)) | ((with_reducible first | apply TD.fa | apply TD.ld | apply TD.mv | apply TD.ia); (repeat (focus (show _ = _; first | exact k2 rfl | (simp only [zz, y30, e_Li_, e_i, tfieldAddr, tload, rowOf, partT, tindexAddr, Nat.zero_add, h34m, h35m] <;> exact rfl) | exact rfl))); (with_reducible refine TD.here ?_)) | ((with_reducible apply TX.drawn); (focus decide +kernel); (focus (simp only [] <;> exact rfl)); (focus exact rfl); (try dsimp only)))
            obtain ⟨v55, h38, hr⟩ := Option.bind_eq_some_iff.1 hr
            try dsimp only at hr
            have h38m := tidx_map (f := e_i) h38
            have h38l := getI_lt h38
            try simp only [List.length_set] at h38l
            have h38a := getI_at h38
            repeat (first | (with_reducible first | refine mv ?_ | refine TD.nil ?_) | ((with_reducible first | apply TD.ia | apply TD.ld | apply TD.bin); (repeat (focus (show _ = _; first | exact k2 rfl | (simp only [zz, y30, e_i, tindexAddr, tload, rowOf, partT, h38m] <;> exact rfl) | exact rfl))); (with_reducible refine TD.here ?_)))
            rcases Bool.eq_false_or_eq_true ((decide (v52 > v55))) with h39 | h39
            · rw [if_pos h39] at hr
              repeat (first | (with_reducible first | refine mv ?_ | refine TO.nil ?_) | ((with_reducible first | apply TO.mv | apply TO.asg | apply TO.bin); (repeat (focus (show _ = _; first | exact k2 rfl | (simp only [zz, h39] <;> exact rfl)))); (with_reducible refine TO.here ?_)) | ((with_reducible apply TX.region); (focus (simp only [] <;> exact rfl)); (focus rfl); (try dsimp only)) | ((with_reducible apply TX.cond_true); (focus rfl); (focus ((simp only [z1, h39]; done)))))
              cases hr
              refine ⟨rfl, ?_⟩
              exact Wk.ren [some 0] rfl (.rows .nil rfl rfl) (by (repeat (first | exact RNs.nil | refine RNs.cons .junk ?_ | refine RNs.cons (.keep rfl rfl) ?_ | refine RNs.cons (.lsl rfl (by simp only [List.length_set])) ?_)))
            · rw [if_neg (by rw [h39]; exact Bool.false_ne_true)] at hr
              repeat (first | (with_reducible first | refine mv ?_ | refine TO.nil ?_) | ((with_reducible first | apply TO.mv | apply TO.bin | apply TO.asg); (repeat (focus (show _ = _; first | exact k2 rfl | (simp only [zz, h39] <;> exact rfl)))); (with_reducible refine TO.here ?_)) | ((with_reducible apply TX.region); (focus (simp only [] <;> exact rfl)); (focus rfl); (try dsimp only)) | ((with_reducible apply TX.cond_false); (focus rfl); (focus ((simp only [z1, h39]; done)))))
              cases hr
              refine ⟨rfl, ?_⟩
              exact Wk.ren [some 0] rfl (.rows .nil rfl rfl) (by (repeat (first | exact RNs.nil | refine RNs.cons .junk ?_ | refine RNs.cons (.keep rfl rfl) ?_ | refine RNs.cons (.lsl rfl (by simp only [List.length_set])) ?_)))
          · rw [if_neg (by rw [h33]; exact Bool.false_ne_true)] at hr
            repeat (first | with_reducible refine mv ?_ | ((with_reducible apply TX.cond_false); (focus rfl); (focus ((simp only [z1, h33]; done)))))
            cases hr
            refine ⟨rfl, ?_⟩
            exact Wk.ren [some 0] rfl (.rows .nil rfl rfl) (by (repeat (first | exact RNs.nil | refine RNs.cons .junk ?_ | refine RNs.cons (.keep rfl rfl) ?_ | refine RNs.cons (.lsl rfl rfl) ?_)))
        · intro e h; cases h
        · try dsimp only
          repeat (first | with_reducible refine mv ?_ | ((with_reducible apply TO.mv); (repeat (focus (show _ = _; first | exact k2 rfl | (simp only [zz] <;> exact rfl)))); (with_reducible refine TO.here ?_)) | ((with_reducible apply TX.region); (focus (simp only [] <;> exact rfl)); (focus rfl); (try dsimp only)))
          obtain ⟨v59, h41, hr⟩ := Option.bind_eq_some_iff.1 hr
          try dsimp only at hr
          have h41m := tidx_map (f := e_i) h41
          have h41l := getI_lt h41
          try simp only [List.length_set] at h41l
          have h41a := getI_at h41
          repeat (first | ((with_reducible first | apply TO.ia | apply TO.ld | apply TO.mv | apply TO.bin); (repeat (focus (show _ = _; first | exact k2 rfl | (simp only [zz, y30, e_i, tindexAddr, Nat.zero_add, tload, rowOf, partT, List.getElem?_map, h41l, h41a] <;> exact rfl) | exact rfl))); (with_reducible refine TO.here ?_)))
          apply TO.sr e_i v56 v59 (IntKind.i64.wrap (v59 + v57)) h41a (by first | rfl | (simp only [twant, z1, z7, h22, h23m, h23l, h23a, h24m, h24l, h24a, h41m, h41l, h41a] <;> rfl)) rfl rfl rfl rfl rfl ok3 (by rw [cs3]; rfl) rfl rfl rfl rfl
          (repeat (focus (show _ = _; (simp only [zz] <;> exact rfl))))
          with_reducible apply TO.here
          repeat (first | (with_reducible first | refine mv ?_ | refine TO.nil ?_) | ((with_reducible first | apply TO.asg | apply TO.mv | apply TO.bin); (repeat (focus (show _ = _; first | exact k2 rfl | (simp only [zz] <;> exact rfl)))); (with_reducible refine TO.here ?_)) | ((with_reducible apply TX.region); (focus (simp only [] <;> exact rfl)); (focus rfl); (try dsimp only)))
          cases hr
          refine ⟨rfl, ?_⟩
          exact Wk.ren [some 0] rfl (.rows .nil rfl rfl) (by (repeat (first | exact RNs.nil | refine RNs.cons .junk ?_ | refine RNs.cons (.keep rfl rfl) ?_ | refine RNs.cons (.lsl rfl (by simp only [List.length_set])) ?_)))
        · try dsimp only
          exact Wk.ren [some 0] rfl (.rows .nil rfl rfl) (by (repeat (first | exact RNs.nil | refine RNs.cons .junk ?_ | refine RNs.cons (.keep rfl rfl) ?_ | refine RNs.cons (.lsl rfl rfl) ?_)))
      · rw [if_neg (by rw [h22]; exact Bool.false_ne_true)] at hr
        repeat (first | with_reducible refine mv ?_ | ((with_reducible apply TX.cond_false); (focus rfl); (focus ((simp only [z1, h22]; done)))))
        cases hr
        refine ⟨rfl, ?_⟩
        exact Wk.ren [some 0] rfl (.rows .nil rfl rfl) (by (repeat (first | exact RNs.nil | refine RNs.cons .junk ?_ | refine RNs.cons (.keep rfl rfl) ?_ | refine RNs.cons (.lsl rfl rfl) ?_)))
    · intro e h; cases h
    · try dsimp only
      repeat (first | (with_reducible first | refine mv ?_ | refine TO.nil ?_) | ((with_reducible first | apply TO.mv | apply TO.asg); (repeat (focus (show _ = _; first | exact k2 rfl | (simp only [zz] <;> exact rfl)))); (with_reducible refine TO.here ?_)) | ((with_reducible apply TX.region); (focus (simp only [] <;> exact rfl)); (focus rfl); (try dsimp only)))
      cases hr
      refine ⟨.inr rfl, _, (by simp only []; exact rfl), ?_⟩
      exact wr [some 0] rfl (.rows .nil rfl rfl)
    · try dsimp only
      exact wr [some 0] rfl (.rows .nil rfl rfl)
  rfl

end Go.Rex

namespace Go.Rex
open Go.Proofs
open Go Go.Rex Go.RowKit
set_option maxRecDepth 100000
set_option maxHeartbeats 200000
def y31 := an @ag46 <| an @cs46 <| an @ok46 <| @wi64_0a1
theorem ref03_StepsTo_spec {v1 : (List (List Int))} {v2 : (List Int)} {v3 : (List Int)} {v4 : Int} {v5 : Int} (hr : ref03_StepsTo v1 v2 v3 v4 = some (v5)) : Spec (lim Tryz.prog) 37 [.agg [.list 1 (v1.map e_Li_), .list 1 (v2.map e_i)], .list 1 (v3.map e_i), .v (.int .i64 v4)] ⟨[.v (.int .i64 v5)], []⟩ := by
  unfold ref03_StepsTo at hr
  apply Spec.fn Tryz.func37 rfl
  focus (simp [Tryz.f37] <;> exact rfl)
  focus
    repeat (first | (with_reducible first | refine mv ?_ | refine TO.nil ?_) | ((with_reducible first | apply TO.bf | apply TO.asg | apply TO.mv); (repeat (focus (show _ = _; first | exact k1 rfl | exact k2 rfl | (simp only [zz] <;> exact rfl) | exact rfl))); (with_reducible refine TO.here ?_)) | ((with_reducible apply TX.region); (focus (simp only [] <;> exact rfl)); (focus rfl); (try dsimp only)))
    obtain ⟨v6, h1, hr⟩ := Option.bind_eq_some_iff.1 hr
    try dsimp only at hr
    apply TO.cal (by first | rfl | (simp only [twant, z1, z7] <;> rfl)) rfl goFn32 (ref03_Total_spec h1) rfl rfl rfl
    (repeat (focus (show _ = _; (simp only [zz, shift] <;> exact rfl))))
    with_reducible apply TO.here
    repeat (first | ((with_reducible apply TO.mv); (repeat (focus (show _ = _; first | exact k2 rfl | (simp only [zz] <;> exact rfl)))); (with_reducible refine TO.here ?_)))
    obtain ⟨v7, h2, hr⟩ := Option.bind_eq_some_iff.1 hr
    try dsimp only at hr
    apply TO.cal (by first | rfl | (simp only [twant, z1, z7] <;> rfl)) rfl goFn23 (base_CopyInts_spec h2) rfl rfl rfl
    (repeat (focus (show _ = _; (simp only [zz, Nat.reduceAdd, shift] <;> exact rfl))))
    with_reducible apply TO.here
    repeat (first | (with_reducible first | refine mv ?_ | refine TO.nil ?_) | ((with_reducible apply TO.asg); (repeat (focus (show _ = _; first | exact k2 rfl | (simp only [zz] <;> exact rfl)))); (with_reducible refine TO.here ?_)) | ((with_reducible apply TX.region); (focus (simp only [] <;> exact rfl)); (focus rfl); (try dsimp only)))
    obtain ⟨v23, h17, hr⟩ := Option.bind_eq_some_iff.1 hr
    refine TX.loopE (step := ref03_StepsTo_l1 v1 v2 v4 v6) (x := (v7, 0)) h17 (fun (v8, v9) => ⟨.junk :: .junk :: .v (.int .i64 v4) :: .fptr true [.list 1 (v1.map e_Li_), .list 1 (v2.map e_i)] 0 :: .junk :: .junk :: .junk :: .v (.int .i64 v6) :: .lsl 0 0 v8.length :: .v (.int .i64 v9) :: .junk :: .junk :: .junk :: .junk :: .junk :: .junk :: .junk :: .junk :: .junk :: .junk :: .junk :: .junk :: .junk :: .junk :: .junk :: .junk :: .junk :: .junk :: .junk :: .junk :: .junk :: .junk :: .junk :: .junk :: .junk :: .junk :: .junk :: .junk :: [], [.rows 1 (v8.map e_i)]⟩) (fun e => match e with | (.inl v16) => (.ret, ⟨.junk :: .junk :: .junk :: .junk :: .junk :: .junk :: .v (.int .i64 v16) :: .junk :: .junk :: .junk :: .junk :: .junk :: .junk :: .junk :: .junk :: .junk :: .junk :: .junk :: .junk :: .junk :: .junk :: .junk :: .junk :: .junk :: .junk :: .junk :: .junk :: .junk :: .junk :: .junk :: .junk :: .junk :: .junk :: .junk :: .junk :: .junk :: .junk :: .junk :: [], []⟩) | (.inr _) => (.exit 0, ⟨.junk :: .junk :: .junk :: .junk :: .junk :: .junk :: .junk :: .junk :: .junk :: .junk :: .junk :: .junk :: .junk :: .junk :: .junk :: .junk :: .junk :: .junk :: .junk :: .junk :: .junk :: .junk :: .junk :: .junk :: .junk :: .junk :: .junk :: .junk :: .junk :: .junk :: .junk :: .junk :: .junk :: .junk :: .junk :: .junk :: .junk :: .junk :: [], []⟩)) ?_ ?_ ?_ ?_
    · rintro ⟨v8, v9⟩ v0 hr
      dsimp only [ref03_StepsTo_l1] at hr
      try dsimp only
      repeat (first | (with_reducible first | refine mv ?_ | refine TO.nil ?_) | ((with_reducible first | apply TO.mv | apply TO.bin); (repeat (focus (show _ = _; first | exact k2 rfl | (simp only [zz] <;> exact rfl)))); (with_reducible refine TO.here ?_)) | ((with_reducible apply TX.region); (focus (simp only [] <;> exact rfl)); (focus rfl); (try dsimp only)))
      rcases Bool.eq_false_or_eq_true ((decide (v9 ≤ 1000))) with h10 | h10
      · rw [if_pos h10] at hr
        repeat (first | with_reducible refine mv ?_ | ((with_reducible apply TO.mv); (repeat (focus (show _ = _; first | exact k2 rfl | (simp only [zz, h10] <;> exact rfl)))); (with_reducible refine TO.here ?_)) | ((with_reducible apply TX.region); (focus (simp only [] <;> exact rfl)); (focus rfl); (try dsimp only)) | ((with_reducible apply TX.cond_true); (focus rfl); (focus ((simp only [z1, h10]; done)))))
        obtain ⟨v17, h11, hr⟩ := Option.bind_eq_some_iff.1 hr
        try dsimp only at hr
        apply TO.lok (by first | rfl | (simp only [twant, z1, z7, h10] <;> rfl)) rfl goFn32 (ref03_Total_spec h11) (by simp only [view, z1, z3, tmlc] <;> rfl) rfl rfl (by simp [])
        (repeat (focus (show _ = _; (simp only [zz, shift] <;> exact rfl))))
        with_reducible apply TO.here
        repeat (first | ((with_reducible apply TO.mv); (repeat (focus (show _ = _; first | exact k2 rfl | (simp only [zz] <;> exact rfl)))); (with_reducible refine TO.here ?_)))
        obtain ⟨v18, h12, hr⟩ := Option.bind_eq_some_iff.1 hr
        try dsimp only at hr
        apply TO.cal (by first | rfl | (simp only [twant, z1, z7, h10] <;> rfl)) rfl goFn65 (base_Floor_spec h12) rfl rfl rfl
        (repeat (focus (show _ = _; (simp only [zz, shift] <;> exact rfl))))
        with_reducible apply TO.here
        repeat (first | ((with_reducible first | apply TO.mv | apply TO.bin); (repeat (focus (show _ = _; first | exact k2 rfl | (simp only [zz] <;> exact rfl)))); (with_reducible refine TO.here ?_)))
        obtain ⟨v19, h13, hr⟩ := Option.bind_eq_some_iff.1 hr
        try dsimp only at hr
        apply TO.cal (by first | rfl | (simp only [twant, z1, z7, h10] <;> rfl)) rfl goFn72 (base_Mod_spec h13) rfl rfl rfl
        (repeat (focus (show _ = _; (simp only [zz, shift] <;> exact rfl))))
        with_reducible apply TO.here
        repeat (first | ((with_reducible first | apply TO.mv | apply TO.bin); (repeat (focus (show _ = _; first | exact k2 rfl | (simp only [zz] <;> exact rfl)))); (with_reducible refine TO.here ?_)))
        obtain ⟨v20, h14, hr⟩ := Option.bind_eq_some_iff.1 hr
        try dsimp only at hr
        apply TO.cal (by first | rfl | (simp only [twant, z1, z7, h10] <;> rfl)) rfl goFn65 (base_Floor_spec h14) rfl rfl rfl
        (repeat (focus (show _ = _; (simp only [zz, shift] <;> exact rfl))))
        with_reducible apply TO.here
        repeat (first | (with_reducible first | refine mv ?_ | refine TO.nil ?_) | ((with_reducible apply TO.bin); (repeat (focus (show _ = _; first | exact k2 rfl | (simp only [zz] <;> exact rfl)))); (with_reducible refine TO.here ?_)))
        rcases Bool.eq_false_or_eq_true ((decide (v17 ≤ (IntKind.i64.wrap ((IntKind.i64.wrap (v18 * v4)) + v20))))) with h15 | h15
        · rw [if_pos h15] at hr
          repeat (first | (with_reducible first | refine mv ?_ | refine TO.nil ?_) | ((with_reducible first | apply TO.mv | apply TO.asg); (repeat (focus (show _ = _; first | exact k2 rfl | (simp only [zz, h15] <;> exact rfl)))); (with_reducible refine TO.here ?_)) | ((with_reducible apply TX.region); (focus (simp only [] <;> exact rfl)); (focus rfl); (try dsimp only)) | ((with_reducible apply TX.cond_true); (focus rfl); (focus ((simp only [z1, h15]; done)))))
          cases hr
          refine ⟨rfl, ?_⟩
          exact Wk.ren [] rfl .nil (by (repeat (first | exact RNs.nil | refine RNs.cons .junk ?_ | refine RNs.cons (.keep rfl rfl) ?_)))
        · rw [if_neg (by rw [h15]; exact Bool.false_ne_true)] at hr
          repeat (first | with_reducible refine mv ?_ | ((with_reducible first | apply TO.ld | apply TO.mv); (repeat (focus (show _ = _; first | exact k2 rfl | (simp only [zz, y31, Nat.reduceAdd, Nat.reduceLeDiff, tload, rowOf, partT, h15] <;> exact rfl) | exact rfl))); (with_reducible refine TO.here ?_)) | ((with_reducible apply TX.region); (focus (simp only [] <;> exact rfl)); (focus rfl); (try dsimp only)) | ((with_reducible apply TX.cond_false); (focus rfl); (focus ((simp only [z1, h15]; done)))))
          obtain ⟨⟨v21, v22⟩, h16, hr⟩ := Option.bind_eq_some_iff.1 hr
          try dsimp only at hr
          apply TO.lok (by first | rfl | (simp only [twant, z1, z7, h10, h15] <;> rfl)) rfl goFn27 (ref03_Step_spec h16) (by simp only [view, z1, z3, tmlc] <;> rfl) rfl rfl (by simp [clTB, cl, e_i])
          (repeat (focus (show _ = _; (simp only [zz, Nat.reduceAdd, shift] <;> exact rfl))))
          with_reducible apply TO.here
          repeat (first | (with_reducible first | refine mv ?_ | refine TO.nil ?_) | ((with_reducible first | apply TO.mv | apply TO.ext | apply TO.asg | apply TO.bin); (repeat (focus (show _ = _; first | exact k2 rfl | (simp only [zz] <;> exact rfl)))); (with_reducible refine TO.here ?_)) | ((with_reducible apply TX.region); (focus (simp only [] <;> exact rfl)); (focus rfl); (try dsimp only)))
          cases hr
          refine ⟨rfl, ?_⟩
          exact Wk.ren [some 1] rfl (.rows .nil rfl rfl) (by (repeat (first | exact RNs.nil | refine RNs.cons .junk ?_ | refine RNs.cons (.keep rfl rfl) ?_ | refine RNs.cons (.lsl rfl rfl) ?_)))
      · rw [if_neg (by rw [h10]; exact Bool.false_ne_true)] at hr
        repeat (first | with_reducible refine mv ?_ | ((with_reducible apply TX.cond_false); (focus rfl); (focus ((simp only [z1, h10]; done)))))
        cases hr
        refine ⟨rfl, ?_⟩
        exact Wk.ren [] rfl .nil (by (repeat (first | exact RNs.nil | refine RNs.cons .junk ?_)))
    · intro e h; rcases e with _ | e <;> cases h
    · try dsimp only
      rcases v23 with v24 | _
      · try dsimp only at hr
        try dsimp only
        repeat (first | with_reducible refine mv ?_)
        cases hr
        refine ⟨.inr rfl, _, (by simp only []; exact rfl), ?_⟩
        exact wr [] rfl .nil
      · try dsimp only at hr
        try dsimp only
        repeat (first | (with_reducible first | refine mv ?_ | refine TO.nil ?_) | ((with_reducible apply TO.asg); (repeat (focus (show _ = _; first | exact k2 rfl | (simp only [zz] <;> exact rfl)))); (with_reducible refine TO.here ?_)) | ((with_reducible apply TX.region); (focus (simp only [] <;> exact rfl)); (focus rfl); (try dsimp only)))
        cases hr
        refine ⟨.inr rfl, _, (by simp only []; exact rfl), ?_⟩
        exact wr [] rfl .nil
    · try dsimp only
      exact wr [some 0] rfl (.rows .nil rfl rfl)
  rfl

end Go.Rex

namespace Go.Rex
open Go.Proofs
open Go Go.Rex Go.RowKit
set_option maxRecDepth 100000

end Go.Rex

namespace Go.Rex
open Go.Proofs
open Go Go.Rex Go.RowKit
set_option maxRecDepth 100000
set_option maxHeartbeats 4000000
def y32 := an @ag46 <| an @cs46 <| @ok46
theorem law03_EnergyDecays_law {v1 : (List (List Int))} {v2 : (List Int)} {v3 : (List Int)} {v4 : Int} (hr : law03_EnergyDecays v1 v2 v3 v4 = some true) {Fz : Nat → Prop} {h : List Blk} {vs : List Value} (hfz : ∀ n, Fz n → n < h.length) (hargs : VLs Fz h noL [.agg [.list 1 (v1.map e_Li_), .list 1 (v2.map e_i)], .list 1 (v3.map e_i), .v (.int .i64 v4)] vs)
    {B lo : Nat} {D : Nat → Prop} {m : NMap} {w : World} {args' : List Value} (hrel : Rel B lo D m h w) (hlo : lo ≤ h.length) (hargs' : VRs D m vs args') : Calls Tryz.prog 7 ⟨args'⟩ w (fun e w' => e = .returned (.bool true) ∧ Below w.heap.size w w') := by
  unfold law03_EnergyDecays at hr
  refine law_tex follows awake_true Tryz.func7 rfl (tm0 := .agg [.list 1 (v1.map e_Li_), .list 1 (v2.map e_i)] :: .list 1 (v3.map e_i) :: .v (.int .i64 v4) :: .junk :: .junk :: .junk :: .junk :: .junk :: .junk :: .junk :: .junk :: .junk :: .junk :: .junk :: .junk :: .junk :: .junk :: .junk :: .junk :: .junk :: .junk :: .junk :: .junk :: .junk :: .junk :: .junk :: .junk :: .junk :: .junk :: .junk :: .junk :: .junk :: .junk :: .junk :: .junk :: .junk :: .junk :: .junk :: .junk :: .junk :: .junk :: .junk :: .junk :: .junk :: .junk :: .junk :: .junk :: .junk :: .junk :: .junk :: .junk :: .junk :: .junk :: .junk :: .junk :: .junk :: .junk :: .junk :: .junk :: .junk :: .junk :: .junk :: .junk :: .junk :: []) (by simp [Tryz.f7] <;> exact rfl) ?_ hfz hargs hrel hlo hargs'
  repeat (first | (with_reducible first | refine mv ?_ | refine TO.nil ?_) | ((with_reducible first | apply TO.bf | apply TO.asg); (repeat (focus (show _ = _; first | exact k1 rfl | exact k2 rfl | (simp only [zz] <;> exact rfl) | exact rfl))); (with_reducible refine TO.here ?_)) | ((with_reducible apply TX.region); (focus (simp only [] <;> exact rfl)); (focus rfl); (try dsimp only)))
  apply TO.cal (by first | rfl | (simp only [twant, z1, z7] <;> rfl)) rfl goFn9 Spec.awake rfl rfl rfl
  (repeat (focus (show _ = _; (simp only [zz, shift] <;> exact rfl))))
  with_reducible apply TO.here
  apply TO.pop1 (by first | rfl | (simp only [twant, z1, z7] <;> rfl)) (pop_not rfl)
  (repeat (focus (show _ = _; (simp only [zz] <;> exact rfl))))
  with_reducible apply TO.here
  repeat (first | (with_reducible first | refine mv ?_ | refine TO.nil ?_) | ((with_reducible first | apply TO.ld | apply TO.mv); (repeat (focus (show _ = _; first | exact k2 rfl | (simp only [zz, y32, Nat.reduceAdd, Nat.reduceLeDiff, tload, rowOf, partT] <;> exact rfl) | exact rfl))); (with_reducible refine TO.here ?_)) | ((with_reducible apply TX.region); (focus (simp only [] <;> exact rfl)); (focus rfl); (try dsimp only)) | ((with_reducible apply TX.cond_false); (focus rfl); (focus (rfl))))
  obtain ⟨v6, h1, hr⟩ := Option.bind_eq_some_iff.1 hr
  try dsimp only at hr
  apply TO.cal (by first | rfl | (simp only [twant, z1, z7] <;> rfl)) rfl goFn19 (Spec.ov (law03_patches_spec h1) (by decide)) rfl rfl rfl
  (repeat (focus (show _ = _; (simp only [zz, shift] <;> exact rfl))))
  with_reducible apply TO.here
  apply TO.pop1 (by first | rfl | (simp only [twant, z1, z7] <;> rfl)) (pop_not rfl)
  (repeat (focus (show _ = _; (simp only [zz] <;> exact rfl))))
  with_reducible apply TO.here
  repeat (first | (with_reducible first | refine mv ?_ | refine TO.nil ?_))
  rcases Bool.eq_false_or_eq_true (v6) with h2 | h2
  · rw [if_pos h2] at hr
    repeat (first | with_reducible refine mv ?_ | ((with_reducible apply TO.ld); (repeat (focus (show _ = _; first | exact k2 rfl | (simp only [zz, y32, Nat.reduceAdd, Nat.reduceLeDiff, tload, rowOf, partT, h2] <;> exact rfl) | exact rfl))); (with_reducible refine TO.here ?_)) | ((with_reducible apply TX.region); (focus (simp only [] <;> exact rfl)); (focus rfl); (try dsimp only)) | ((with_reducible apply TX.cond_false); (focus rfl); (focus ((simp only [z1, Bool.not_true, h2]; done)))))
    obtain ⟨⟨v7, v8⟩, h3, hr⟩ := Option.bind_eq_some_iff.1 hr
    try dsimp only at hr
    apply TO.cal (by first | rfl | (simp only [twant, z1, z7, h2] <;> rfl)) rfl goFn21 (Spec.ov (ref03_CopyExchange_spec h3) (by decide)) rfl rfl rfl
    (repeat (focus (show _ = _; (simp only [zz, Nat.reduceAdd, shift] <;> exact rfl))))
    with_reducible apply TO.here
    repeat (first | ((with_reducible apply TO.mv); (repeat (focus (show _ = _; first | exact k2 rfl | (simp only [zz] <;> exact rfl)))); (with_reducible refine TO.here ?_)))
    obtain ⟨v9, h4, hr⟩ := Option.bind_eq_some_iff.1 hr
    try dsimp only at hr
    apply TO.cal (by first | rfl | (simp only [twant, z1, z7, h2] <;> rfl)) rfl goFn23 (Spec.ov (base_CopyInts_spec h4) (by decide)) rfl rfl rfl
    (repeat (focus (show _ = _; (simp only [zz, Nat.reduceAdd, shift] <;> exact rfl))))
    with_reducible apply TO.here
    repeat (first | ((with_reducible apply TO.mv); (repeat (focus (show _ = _; first | exact k2 rfl | (simp only [zz] <;> exact rfl)))); (with_reducible refine TO.here ?_)))
    obtain ⟨⟨v10, v11⟩, h5, hr⟩ := Option.bind_eq_some_iff.1 hr
    try dsimp only at hr
    apply TO.lok (by first | rfl | (simp only [twant, z1, z7, h2] <;> rfl)) rfl goFn36 (Spec.ov (energy_StepsTo_spec h5) (by decide)) (by simp only [view, z1, z3, tmlc] <;> rfl) rfl rfl (by simp [])
    (repeat (focus (show _ = _; (simp only [zz, Nat.reduceAdd, shift] <;> exact rfl))))
    with_reducible apply TO.here
    repeat (first | (with_reducible first | refine mv ?_ | refine TO.nil ?_) | ((with_reducible first | apply TO.mv | apply TO.ext | apply TO.asg | apply TO.ld); (repeat (focus (show _ = _; first | exact k2 rfl | (simp only [zz, y32, Nat.reduceAdd, Nat.reduceLeDiff, tload, rowOf, partT] <;> exact rfl) | exact rfl))); (with_reducible refine TO.here ?_)) | ((with_reducible apply TX.region); (focus (simp only [] <;> exact rfl)); (focus rfl); (try dsimp only)))
    obtain ⟨v12, h6, hr⟩ := Option.bind_eq_some_iff.1 hr
    try dsimp only at hr
    apply TO.cal (by first | rfl | (simp only [twant, z1, z7, h2] <;> rfl)) rfl goFn26 (Spec.ov (law03_exchangeErr_spec h6) (by decide)) rfl rfl rfl
    (repeat (focus (show _ = _; (simp only [zz, shift] <;> exact rfl))))
    with_reducible apply TO.here
    repeat (first | (with_reducible first | refine mv ?_ | refine TO.nil ?_) | ((with_reducible first | apply TO.asg | apply TO.mv | apply TO.bin); (repeat (focus (show _ = _; first | exact k2 rfl | (simp only [zz] <;> exact rfl)))); (with_reducible refine TO.here ?_)) | ((with_reducible apply TX.region); (focus (simp only [] <;> exact rfl)); (focus rfl); (try dsimp only)))
    rcases Bool.eq_false_or_eq_true ((decide (v12 = 0))) with h7 | h7
    · rw [if_pos h7] at hr
      repeat (first | ((with_reducible apply TO.mv); (repeat (focus (show _ = _; (simp only [zz, h7] <;> exact rfl)))); (with_reducible refine TO.here ?_)))
      obtain ⟨v13, h8, hr⟩ := Option.bind_eq_some_iff.1 hr
      try dsimp only at hr
      apply TO.cal (by first | rfl | (simp only [twant, z1, z7, h2, h7] <;> rfl)) rfl goFn31 (Spec.ov (base_Within_spec h8) (by decide)) rfl rfl rfl
      (repeat (focus (show _ = _; (simp only [zz, shift] <;> exact rfl))))
      with_reducible apply TO.here
      apply TO.pop1 (by first | rfl | (simp only [twant, z1, z7, h2, h7] <;> rfl)) (pop_not rfl)
      (repeat (focus (show _ = _; (simp only [zz] <;> exact rfl))))
      with_reducible apply TO.here
      repeat (first | (with_reducible first | refine mv ?_ | refine TO.nil ?_) | ((with_reducible apply TO.pk); (repeat (focus (show _ = _; first | exact k2 rfl | (simp only [zz] <;> exact rfl)))); (with_reducible refine TO.here ?_)))
      rcases Bool.eq_false_or_eq_true (v13) with h9 | h9
      · rw [if_pos h9] at hr
        repeat (first | (with_reducible first | refine mv ?_ | refine TO.nil ?_) | ((with_reducible first | apply TO.mv | apply TO.bin); (repeat (focus (show _ = _; first | exact k2 rfl | (simp only [zz, h9] <;> exact rfl)))); (with_reducible refine TO.here ?_)) | ((with_reducible apply TX.region); (focus (simp only [] <;> exact rfl)); (focus rfl); (try dsimp only)) | ((with_reducible apply TX.cond_false); (focus rfl); (focus ((simp only [z1, Bool.not_true, h9]; done)))))
        rcases Bool.eq_false_or_eq_true ((decide (v12 ≠ 0))) with h10 | h10
        · rw [if_pos h10] at hr
          repeat (first | with_reducible refine mv ?_ | ((with_reducible first | apply TO.mv | apply TO.bin); (repeat (focus (show _ = _; first | exact k2 rfl | (simp only [zz, h10] <;> exact rfl)))); (with_reducible refine TO.here ?_)) | ((with_reducible apply TX.region); (focus (simp only [] <;> exact rfl)); (focus rfl); (try dsimp only)) | ((with_reducible apply TX.cond_true); (focus rfl); (focus ((simp only [z1, Bool.not_true, h10]; done)))))
          rcases Bool.eq_false_or_eq_true ((decide (v11 = v12))) with h11 | h11
          · rw [if_pos h11] at hr
            repeat (first | (with_reducible first | refine mv ?_ | refine TO.nil ?_) | ((with_reducible first | apply TO.mv | apply TO.bin | apply TO.pk | apply TO.asg); (repeat (focus (show _ = _; first | exact k2 rfl | (simp only [zz, h11] <;> exact rfl)))); (with_reducible refine TO.here ?_)))
            have hb := Option.some.inj hr
            first | (cases hb; done) | (refine ⟨.inr rfl, ?_⟩; first | (simp only [hb] <;> exact rfl) | (simp only [h2, h7, h9, h10, h11] at hb; simp only [tresAll, tres, z1, hb, Option.map_some] <;> exact rfl))
          · rw [if_neg (by rw [h11]; exact Bool.false_ne_true)] at hr
            repeat (first | (with_reducible first | refine mv ?_ | refine TO.nil ?_) | ((with_reducible first | apply TO.pk | apply TO.asg); (repeat (focus (show _ = _; first | exact k2 rfl | (simp only [zz] <;> exact rfl)))); (with_reducible refine TO.here ?_)) | ((with_reducible apply TO.skip1); (repeat (focus (show _ = _; (simp only [zz, twant, zp, zs, h11] <;> exact rfl)))); (with_reducible refine TO.here ?_)))
            have hb := Option.some.inj hr
            first | (cases hb; done) | (refine ⟨.inr rfl, ?_⟩; first | (simp only [tresAll, tres, z1, hb, Option.map_some] <;> exact rfl) | (simp only [h2, h7, h9, h10, h11] at hb; simp only [tresAll, tres, z1, hb, Option.map_some] <;> exact rfl))
        · rw [if_neg (by rw [h10]; exact Bool.false_ne_true)] at hr
          repeat (first | with_reducible refine mv ?_ | ((with_reducible first | apply TO.ld | apply TO.mv); (repeat (focus (show _ = _; first | exact k2 rfl | (simp only [zz, y32, Nat.reduceAdd, Nat.reduceLeDiff, tload, rowOf, partT, h10] <;> exact rfl) | exact rfl))); (with_reducible refine TO.here ?_)) | ((with_reducible apply TX.region); (focus (simp only [] <;> exact rfl)); (focus rfl); (try dsimp only)) | ((with_reducible apply TX.cond_false); (focus rfl); (focus ((simp only [z1, Bool.not_true, h10]; done)))))
          obtain ⟨v14, h12, hr⟩ := Option.bind_eq_some_iff.1 hr
          try dsimp only at hr
          apply TO.cal (by first | rfl | (simp only [twant, z1, z7, h2, h7, h9, h10] <;> rfl)) rfl goFn37 (Spec.ov (ref03_StepsTo_spec h12) (by decide)) rfl rfl rfl
          (repeat (focus (show _ = _; (simp only [zz, shift] <;> exact rfl))))
          with_reducible apply TO.here
          repeat (first | (with_reducible first | refine mv ?_ | refine TO.nil ?_) | ((with_reducible first | apply TO.asg | apply TO.mv | apply TO.bin); (repeat (focus (show _ = _; first | exact k2 rfl | (simp only [zz] <;> exact rfl)))); (with_reducible refine TO.here ?_)) | ((with_reducible apply TX.region); (focus (simp only [] <;> exact rfl)); (focus rfl); (try dsimp only)))
          rcases Bool.eq_false_or_eq_true ((decide (v14 < 0))) with h13 | h13
          · rw [if_pos h13] at hr
            repeat (first | with_reducible refine mv ?_ | ((with_reducible first | apply TO.mv | apply TO.bin); (repeat (focus (show _ = _; first | exact k2 rfl | (simp only [zz, h13] <;> exact rfl)))); (with_reducible refine TO.here ?_)) | ((with_reducible apply TX.region); (focus (simp only [] <;> exact rfl)); (focus rfl); (try dsimp only)) | ((with_reducible apply TX.cond_true); (focus rfl); (focus ((simp only [z1, Bool.not_true, h13]; done)))))
            rcases Bool.eq_false_or_eq_true ((decide (v11 = 12))) with h14 | h14
            · rw [if_pos h14] at hr
              repeat (first | (with_reducible first | refine mv ?_ | refine TO.nil ?_) | ((with_reducible first | apply TO.mv | apply TO.bin | apply TO.pk | apply TO.asg); (repeat (focus (show _ = _; first | exact k2 rfl | (simp only [zz, h14] <;> exact rfl)))); (with_reducible refine TO.here ?_)))
              have hb := Option.some.inj hr
              first | (cases hb; done) | (refine ⟨.inr rfl, ?_⟩; first | (simp only [hb] <;> exact rfl) | (simp only [h2, h7, h9, h10, h13, h14] at hb; simp only [tresAll, tres, z1, hb, Option.map_some] <;> exact rfl))
            · rw [if_neg (by rw [h14]; exact Bool.false_ne_true)] at hr
              repeat (first | (with_reducible first | refine mv ?_ | refine TO.nil ?_) | ((with_reducible first | apply TO.pk | apply TO.asg); (repeat (focus (show _ = _; first | exact k2 rfl | (simp only [zz] <;> exact rfl)))); (with_reducible refine TO.here ?_)) | ((with_reducible apply TO.skip1); (repeat (focus (show _ = _; (simp only [zz, twant, zp, zs, h14] <;> exact rfl)))); (with_reducible refine TO.here ?_)))
              have hb := Option.some.inj hr
              first | (cases hb; done) | (refine ⟨.inr rfl, ?_⟩; first | (simp only [tresAll, tres, z1, hb, Option.map_some] <;> exact rfl) | (simp only [h2, h7, h9, h10, h13, h14] at hb; simp only [tresAll, tres, z1, hb, Option.map_some] <;> exact rfl))
          · rw [if_neg (by rw [h13]; exact Bool.false_ne_true)] at hr
            repeat (first | with_reducible refine mv ?_ | ((with_reducible first | apply TO.mv | apply TO.bin); (repeat (focus (show _ = _; first | exact k2 rfl | (simp only [zz, h13] <;> exact rfl)))); (with_reducible refine TO.here ?_)) | ((with_reducible apply TX.region); (focus (simp only [] <;> exact rfl)); (focus rfl); (try dsimp only)) | ((with_reducible apply TX.cond_false); (focus rfl); (focus ((simp only [z1, Bool.not_true, h13]; done)))))
            rcases Bool.eq_false_or_eq_true ((decide (v11 = 0))) with h15 | h15
            · rw [if_pos h15] at hr
              repeat (first | (with_reducible first | refine mv ?_ | refine TO.nil ?_) | ((with_reducible first | apply TO.mv | apply TO.bin | apply TO.pk | apply TO.asg); (repeat (focus (show _ = _; first | exact k2 rfl | (simp only [zz, h15] <;> exact rfl)))); (with_reducible refine TO.here ?_)))
              have hb := Option.some.inj hr
              first | (cases hb; done) | (refine ⟨.inr rfl, ?_⟩; first | (simp only [hb] <;> exact rfl) | (simp only [h2, h7, h9, h10, h13, h15] at hb; simp only [tresAll, tres, z1, hb, Option.map_some] <;> exact rfl))
            · rw [if_neg (by rw [h15]; exact Bool.false_ne_true)] at hr
              repeat (first | (with_reducible first | refine mv ?_ | refine TO.nil ?_) | ((with_reducible first | apply TO.pk | apply TO.asg); (repeat (focus (show _ = _; first | exact k2 rfl | (simp only [zz] <;> exact rfl)))); (with_reducible refine TO.here ?_)) | ((with_reducible apply TO.skip1); (repeat (focus (show _ = _; (simp only [zz, twant, zp, zs, h15] <;> exact rfl)))); (with_reducible refine TO.here ?_)))
              have hb := Option.some.inj hr
              first | (cases hb; done) | (refine ⟨.inr rfl, ?_⟩; first | (simp only [tresAll, tres, z1, hb, Option.map_some] <;> exact rfl) | (simp only [h2, h7, h9, h10, h13, h15] at hb; simp only [tresAll, tres, z1, hb, Option.map_some] <;> exact rfl))
      · rw [if_neg (by rw [h9]; exact Bool.false_ne_true)] at hr
        repeat (first | (with_reducible first | refine mv ?_ | refine TO.nil ?_) | ((with_reducible first | apply TO.asg | apply TO.mv | apply TO.bin); (repeat (focus (show _ = _; first | exact k2 rfl | (simp only [zz, h9] <;> exact rfl)))); (with_reducible refine TO.here ?_)) | ((with_reducible apply TX.region); (focus (simp only [] <;> exact rfl)); (focus rfl); (try dsimp only)) | ((with_reducible apply TX.cond_true); (focus rfl); (focus (first | rfl | (simp only [z1, zn, h9]; done)))))
        rcases Bool.eq_false_or_eq_true ((decide (v11 = 2))) with h16 | h16
        · rw [if_pos h16] at hr
          repeat (first | (with_reducible first | refine mv ?_ | refine TO.nil ?_) | ((with_reducible first | apply TO.mv | apply TO.bin | apply TO.pk | apply TO.asg); (repeat (focus (show _ = _; first | exact k2 rfl | (simp only [zz, h16] <;> exact rfl)))); (with_reducible refine TO.here ?_)))
          have hb := Option.some.inj hr
          first | (cases hb; done) | (refine ⟨.inr rfl, ?_⟩; first | (simp only [hb] <;> exact rfl) | (simp only [h2, h7, h9, h16] at hb; simp only [tresAll, tres, z1, hb, Option.map_some] <;> exact rfl))
        · rw [if_neg (by rw [h16]; exact Bool.false_ne_true)] at hr
          repeat (first | (with_reducible first | refine mv ?_ | refine TO.nil ?_) | ((with_reducible first | apply TO.pk | apply TO.asg); (repeat (focus (show _ = _; first | exact k2 rfl | (simp only [zz] <;> exact rfl)))); (with_reducible refine TO.here ?_)) | ((with_reducible apply TO.skip1); (repeat (focus (show _ = _; (simp only [zz, twant, zp, zs, h16] <;> exact rfl)))); (with_reducible refine TO.here ?_)))
          have hb := Option.some.inj hr
          first | (cases hb; done) | (refine ⟨.inr rfl, ?_⟩; first | (simp only [tresAll, tres, z1, hb, Option.map_some] <;> exact rfl) | (simp only [h2, h7, h9, h16] at hb; simp only [tresAll, tres, z1, hb, Option.map_some] <;> exact rfl))
    · rw [if_neg (by rw [h7]; exact Bool.false_ne_true)] at hr
      repeat (first | (with_reducible first | refine mv ?_ | refine TO.nil ?_) | ((with_reducible first | apply TO.pk | apply TO.mv | apply TO.bin); (repeat (focus (show _ = _; first | exact k2 rfl | (simp only [zz, h7] <;> exact rfl)))); (with_reducible refine TO.here ?_)) | ((with_reducible apply TO.skip1); (repeat (focus (show _ = _; (simp only [zz, twant, zp, zs, h7] <;> exact rfl)))); (with_reducible refine TO.here ?_)) | ((with_reducible apply TX.region); (focus (simp only [] <;> exact rfl)); (focus rfl); (try dsimp only)) | ((with_reducible apply TX.cond_false); (focus rfl); (focus (rfl))))
      rcases Bool.eq_false_or_eq_true ((decide (v12 ≠ 0))) with h17 | h17
      · rw [if_pos h17] at hr
        repeat (first | with_reducible refine mv ?_ | ((with_reducible first | apply TO.mv | apply TO.bin); (repeat (focus (show _ = _; first | exact k2 rfl | (simp only [zz, h17] <;> exact rfl)))); (with_reducible refine TO.here ?_)) | ((with_reducible apply TX.region); (focus (simp only [] <;> exact rfl)); (focus rfl); (try dsimp only)) | ((with_reducible apply TX.cond_true); (focus rfl); (focus ((simp only [z1, Bool.not_true, h17]; done)))))
        rcases Bool.eq_false_or_eq_true ((decide (v11 = v12))) with h18 | h18
        · rw [if_pos h18] at hr
          repeat (first | (with_reducible first | refine mv ?_ | refine TO.nil ?_) | ((with_reducible first | apply TO.mv | apply TO.bin | apply TO.pk | apply TO.asg); (repeat (focus (show _ = _; first | exact k2 rfl | (simp only [zz, h18] <;> exact rfl)))); (with_reducible refine TO.here ?_)))
          have hb := Option.some.inj hr
          first | (cases hb; done) | (refine ⟨.inr rfl, ?_⟩; first | (simp only [hb] <;> exact rfl) | (simp only [h2, h7, h17, h18] at hb; simp only [tresAll, tres, z1, hb, Option.map_some] <;> exact rfl))
        · rw [if_neg (by rw [h18]; exact Bool.false_ne_true)] at hr
          repeat (first | (with_reducible first | refine mv ?_ | refine TO.nil ?_) | ((with_reducible first | apply TO.pk | apply TO.asg); (repeat (focus (show _ = _; first | exact k2 rfl | (simp only [zz] <;> exact rfl)))); (with_reducible refine TO.here ?_)) | ((with_reducible apply TO.skip1); (repeat (focus (show _ = _; (simp only [zz, twant, zp, zs, h18] <;> exact rfl)))); (with_reducible refine TO.here ?_)))
          have hb := Option.some.inj hr
          first | (cases hb; done) | (refine ⟨.inr rfl, ?_⟩; first | (simp only [tresAll, tres, z1, hb, Option.map_some] <;> exact rfl) | (simp only [h2, h7, h17, h18] at hb; simp only [tresAll, tres, z1, hb, Option.map_some] <;> exact rfl))
      · rw [if_neg (by rw [h17]; exact Bool.false_ne_true)] at hr
        repeat (first | with_reducible refine mv ?_ | ((with_reducible first | apply TO.ld | apply TO.mv); (repeat (focus (show _ = _; first | exact k2 rfl | (simp only [zz, y32, Nat.reduceAdd, Nat.reduceLeDiff, tload, rowOf, partT, h17] <;> exact rfl) | exact rfl))); (with_reducible refine TO.here ?_)) | ((with_reducible apply TX.region); (focus (simp only [] <;> exact rfl)); (focus rfl); (try dsimp only)) | ((with_reducible apply TX.cond_false); (focus rfl); (focus ((simp only [z1, Bool.not_true, h17]; done)))))
        obtain ⟨v15, h19, hr⟩ := Option.bind_eq_some_iff.1 hr
        try dsimp only at hr
        apply TO.cal (by first | rfl | (simp only [twant, z1, z7, h2, h7, h17] <;> rfl)) rfl goFn37 (Spec.ov (ref03_StepsTo_spec h19) (by decide)) rfl rfl rfl
        (repeat (focus (show _ = _; (simp only [zz, shift] <;> exact rfl))))
        with_reducible apply TO.here
        repeat (first | (with_reducible first | refine mv ?_ | refine TO.nil ?_) | ((with_reducible first | apply TO.asg | apply TO.mv | apply TO.bin); (repeat (focus (show _ = _; first | exact k2 rfl | (simp only [zz] <;> exact rfl)))); (with_reducible refine TO.here ?_)) | ((with_reducible apply TX.region); (focus (simp only [] <;> exact rfl)); (focus rfl); (try dsimp only)))
        rcases Bool.eq_false_or_eq_true ((decide (v15 < 0))) with h20 | h20
        · rw [if_pos h20] at hr
          repeat (first | with_reducible refine mv ?_ | ((with_reducible first | apply TO.mv | apply TO.bin); (repeat (focus (show _ = _; first | exact k2 rfl | (simp only [zz, h20] <;> exact rfl)))); (with_reducible refine TO.here ?_)) | ((with_reducible apply TX.region); (focus (simp only [] <;> exact rfl)); (focus rfl); (try dsimp only)) | ((with_reducible apply TX.cond_true); (focus rfl); (focus ((simp only [z1, Bool.not_true, h20]; done)))))
          rcases Bool.eq_false_or_eq_true ((decide (v11 = 12))) with h21 | h21
          · rw [if_pos h21] at hr
            repeat (first | (with_reducible first | refine mv ?_ | refine TO.nil ?_) | ((with_reducible first | apply TO.mv | apply TO.bin | apply TO.pk | apply TO.asg); (repeat (focus (show _ = _; first | exact k2 rfl | (simp only [zz, h21] <;> exact rfl)))); (with_reducible refine TO.here ?_)))
            have hb := Option.some.inj hr
            first | (cases hb; done) | (refine ⟨.inr rfl, ?_⟩; first | (simp only [hb] <;> exact rfl) | (simp only [h2, h7, h17, h20, h21] at hb; simp only [tresAll, tres, z1, hb, Option.map_some] <;> exact rfl))
          · rw [if_neg (by rw [h21]; exact Bool.false_ne_true)] at hr
            repeat (first | (with_reducible first | refine mv ?_ | refine TO.nil ?_) | ((with_reducible first | apply TO.pk | apply TO.asg); (repeat (focus (show _ = _; first | exact k2 rfl | (simp only [zz] <;> exact rfl)))); (with_reducible refine TO.here ?_)) | ((with_reducible apply TO.skip1); (repeat (focus (show _ = _; (simp only [zz, twant, zp, zs, h21] <;> exact rfl)))); (with_reducible refine TO.here ?_)))
            have hb := Option.some.inj hr
            first | (cases hb; done) | (refine ⟨.inr rfl, ?_⟩; first | (simp only [tresAll, tres, z1, hb, Option.map_some] <;> exact rfl) | (simp only [h2, h7, h17, h20, h21] at hb; simp only [tresAll, tres, z1, hb, Option.map_some] <;> exact rfl))
        · rw [if_neg (by rw [h20]; exact Bool.false_ne_true)] at hr
          repeat (first | with_reducible refine mv ?_ | ((with_reducible first | apply TO.mv | apply TO.bin); (repeat (focus (show _ = _; first | exact k2 rfl | (simp only [zz, h20] <;> exact rfl)))); (with_reducible refine TO.here ?_)) | ((with_reducible apply TX.region); (focus (simp only [] <;> exact rfl)); (focus rfl); (try dsimp only)) | ((with_reducible apply TX.cond_false); (focus rfl); (focus ((simp only [z1, Bool.not_true, h20]; done)))))
          rcases Bool.eq_false_or_eq_true ((decide (v11 = 0))) with h22 | h22
          · rw [if_pos h22] at hr
            repeat (first | (with_reducible first | refine mv ?_ | refine TO.nil ?_) | ((with_reducible first | apply TO.mv | apply TO.bin | apply TO.pk | apply TO.asg); (repeat (focus (show _ = _; first | exact k2 rfl | (simp only [zz, h22] <;> exact rfl)))); (with_reducible refine TO.here ?_)))
            have hb := Option.some.inj hr
            first | (cases hb; done) | (refine ⟨.inr rfl, ?_⟩; first | (simp only [hb] <;> exact rfl) | (simp only [h2, h7, h17, h20, h22] at hb; simp only [tresAll, tres, z1, hb, Option.map_some] <;> exact rfl))
          · rw [if_neg (by rw [h22]; exact Bool.false_ne_true)] at hr
            repeat (first | (with_reducible first | refine mv ?_ | refine TO.nil ?_) | ((with_reducible first | apply TO.pk | apply TO.asg); (repeat (focus (show _ = _; first | exact k2 rfl | (simp only [zz] <;> exact rfl)))); (with_reducible refine TO.here ?_)) | ((with_reducible apply TO.skip1); (repeat (focus (show _ = _; (simp only [zz, twant, zp, zs, h22] <;> exact rfl)))); (with_reducible refine TO.here ?_)))
            have hb := Option.some.inj hr
            first | (cases hb; done) | (refine ⟨.inr rfl, ?_⟩; first | (simp only [tresAll, tres, z1, hb, Option.map_some] <;> exact rfl) | (simp only [h2, h7, h17, h20, h22] at hb; simp only [tresAll, tres, z1, hb, Option.map_some] <;> exact rfl))
  · rw [if_neg (by rw [h2]; exact Bool.false_ne_true)] at hr
    repeat (first | (with_reducible first | refine mv ?_ | refine TO.nil ?_) | ((with_reducible apply TO.asg); (repeat (focus (show _ = _; first | exact k2 rfl | (simp only [zz, h2] <;> exact rfl)))); (with_reducible refine TO.here ?_)) | ((with_reducible apply TX.region); (focus (simp only [] <;> exact rfl)); (focus rfl); (try dsimp only)) | ((with_reducible apply TX.cond_true); (focus rfl); (focus ((simp only [z1, zn, h2]; done)))))
    have hb := Option.some.inj hr
    first | (cases hb; done) | (refine ⟨.inr rfl, ?_⟩; first | (simp only [] <;> exact rfl) | (simp only [h2] at hb; simp only [tresAll, tres, z1, hb, Option.map_some] <;> exact rfl))

end Go.Rex
