/- Proofs that the program's functions do what these plain functions say. -/
import Derived.Test.YtnjbkoobeobfiaaGreatGB
import Derived.Test.YtnjbkoobeobfiaaGreatS
import Derived.Test.YtnjbkoobeobfiaaGreatG1
import Derived.Test.YtnjbkoobeobfiaaGreatG2
set_option linter.unusedSimpArgs false
set_option linter.unusedVariables false
set_option linter.defProp false
namespace Go.Rex
open Go.Proofs
open Go Go.Rex Go.RowKit
set_option maxRecDepth 100000
set_option maxHeartbeats 4000000
def y34 := an @ag46 <| an @cs46 <| an @ok46 <| @so44
theorem law03_EnergySteps_law {v1 : (List (List Int))} {v2 : (List Int)} {v3 : (List Int)} {v4 : Int} (hr : law03_EnergySteps v1 v2 v3 v4 = some true) {Fz : Nat → Prop} {h : List Blk} {vs : List Value} (hfz : ∀ n, Fz n → n < h.length) (hargs : VLs Fz h noL [.agg [.list 1 (v1.map e_Li_), .list 1 (v2.map e_i)], .list 1 (v3.map e_i), .v (.int .i64 v4)] vs)
    {B lo : Nat} {D : Nat → Prop} {m : NMap} {w : World} {args' : List Value} (hrel : Rel B lo D m h w) (hlo : lo ≤ h.length) (hargs' : VRs D m vs args') : Calls Tryz.prog 4 ⟨args'⟩ w (fun e w' => e = .returned (.bool true) ∧ Below w.heap.size w w') := by
  unfold law03_EnergySteps at hr
  refine law_tex follows awake_true Tryz.func4 rfl (tm0 := .agg [.list 1 (v1.map e_Li_), .list 1 (v2.map e_i)] :: .list 1 (v3.map e_i) :: .v (.int .i64 v4) :: .junk :: .junk :: .junk :: .junk :: .junk :: .junk :: .junk :: .junk :: .junk :: .junk :: .junk :: .junk :: .junk :: .junk :: .junk :: .junk :: .junk :: .junk :: .junk :: .junk :: .junk :: .junk :: .junk :: .junk :: .junk :: .junk :: .junk :: .junk :: .junk :: .junk :: .junk :: .junk :: .junk :: .junk :: .junk :: .junk :: .junk :: .junk :: .junk :: .junk :: .junk :: .junk :: .junk :: .junk :: .junk :: .junk :: .junk :: .junk :: .junk :: .junk :: .junk :: .junk :: .junk :: .junk :: .junk :: .junk :: .junk :: .junk :: .junk :: .junk :: .junk :: .junk :: .junk :: .junk :: .junk :: .junk :: .junk :: .junk :: .junk :: .junk :: .junk :: .junk :: .junk :: .junk :: .junk :: .junk :: .junk :: .junk :: .junk :: .junk :: .junk :: .junk :: .junk :: .junk :: .junk :: .junk :: .junk :: .junk :: .junk :: .junk :: .junk :: .junk :: .junk :: .junk :: .junk :: .junk :: .junk :: .junk :: .junk :: .junk :: .junk :: .junk :: .junk :: .junk :: .junk :: .junk :: .junk :: .junk :: .junk :: .junk :: .junk :: .junk :: .junk :: .junk :: .junk :: .junk :: .junk :: .junk :: .junk :: .junk :: .junk :: .junk :: .junk :: .junk :: .junk :: .junk :: .junk :: .junk :: .junk :: .junk :: .junk :: .junk :: .junk :: .junk :: .junk :: .junk :: .junk :: .junk :: .junk :: .junk :: .junk :: .junk :: .junk :: .junk :: .junk :: .junk :: .junk :: .junk :: .junk :: .junk :: .junk :: .junk :: .junk :: []) (by simp [Tryz.f4] <;> exact rfl) ?_ hfz hargs hrel hlo hargs'
  repeat (first | (with_reducible first | refine mv ?_ | refine TO.nil ?_) | ((with_reducible first | apply TO.bf | apply TO.asg); (repeat (focus (show _ = _; first | exact k1 rfl | exact k2 rfl | (simp only [zz] <;> exact rfl) | exact rfl))); (with_reducible refine TO.here ?_)) | ((with_reducible apply TX.region); (focus (simp only [] <;> exact rfl)); (focus rfl); (try dsimp only)))
  apply TO.cal (by first | rfl | (simp only [twant, z1, z7] <;> rfl)) rfl goFn9 Spec.awake rfl rfl rfl
  (repeat (focus (show _ = _; (simp only [zz, shift] <;> exact rfl))))
  with_reducible apply TO.here
  apply TO.pop1 (by first | rfl | (simp only [twant, z1, z7] <;> rfl)) (pop_not rfl)
  (repeat (focus (show _ = _; (simp only [zz] <;> exact rfl))))
  with_reducible apply TO.here
  repeat (first | (with_reducible first | refine mv ?_ | refine TO.nil ?_) | ((with_reducible first | apply TO.ld | apply TO.mv); (repeat (focus (show _ = _; first | exact k2 rfl | (simp only [zz, y34, Nat.reduceAdd, Nat.reduceLeDiff, tload, rowOf, partT] <;> exact rfl) | exact rfl))); (with_reducible refine TO.here ?_)) | ((with_reducible apply TX.region); (focus (simp only [] <;> exact rfl)); (focus rfl); (try dsimp only)) | ((with_reducible apply TX.cond_false); (focus rfl); (focus (rfl))))
  obtain ⟨v6, h1, hr⟩ := Option.bind_eq_some_iff.1 hr
  try dsimp only at hr
  apply TO.cal (by first | rfl | (simp only [twant, z1, z7] <;> rfl)) rfl goFn19 (Spec.ov (law03_patches_spec h1) (by decide)) rfl rfl rfl
  (repeat (focus (show _ = _; (simp only [zz, shift] <;> exact rfl))))
  with_reducible apply TO.here
  apply TO.pop1 (by first | rfl | (simp only [twant, z1, z7] <;> rfl)) (pop_not rfl)
  (repeat (focus (show _ = _; (simp only [zz] <;> exact rfl))))
  with_reducible apply TO.here
  repeat (first | ((with_reducible apply TO.mv); (repeat (focus (show _ = _; first | exact k2 rfl | (simp only [zz] <;> exact rfl)))); (with_reducible refine TO.here ?_)))
  rcases Bool.eq_false_or_eq_true (v6) with h2 | h2
  · rw [if_pos h2] at hr
    repeat (first | ((with_reducible first | apply TO.mv | apply TO.bin); (repeat (focus (show _ = _; first | exact k2 rfl | (simp only [zz, h2] <;> exact rfl)))); (with_reducible refine TO.here ?_)))
    rcases Bool.eq_false_or_eq_true ((decide (v4 > 20))) with h3 | h3
    · rw [if_pos h3] at hr
      repeat (first | (with_reducible first | refine mv ?_ | refine TO.nil ?_) | ((with_reducible first | apply TO.mv | apply TO.bin | apply TO.pk); (repeat (focus (show _ = _; first | exact k2 rfl | (simp only [zz, h3] <;> exact rfl)))); (with_reducible refine TO.here ?_)))
      rcases Bool.eq_false_or_eq_true ((decide (v4 ≤ 1000))) with h4 | h4
      · rw [if_pos h4] at hr
        repeat (first | (with_reducible first | refine mv ?_ | refine TO.nil ?_) | ((with_reducible apply TO.asg); (repeat (focus (show _ = _; first | exact k2 rfl | (simp only [zz, h4] <;> exact rfl)))); (with_reducible refine TO.here ?_)) | ((with_reducible apply TX.region); (focus (simp only [] <;> exact rfl)); (focus rfl); (try dsimp only)) | ((with_reducible apply TX.cond_true); (focus rfl); (focus ((simp only [z1, Bool.not_true, h4]; done)))))
        have hb := Option.some.inj hr
        first | (cases hb; done) | (refine ⟨.inr rfl, ?_⟩; first | (simp only [] <;> exact rfl) | (simp only [h2, h3, h4] at hb; simp only [tresAll, tres, z1, hb, Option.map_some] <;> exact rfl))
      · rw [if_neg (by rw [h4]; exact Bool.false_ne_true)] at hr
        repeat (first | with_reducible refine mv ?_ | ((with_reducible apply TO.ld); (repeat (focus (show _ = _; first | exact k2 rfl | (simp only [zz, y34, Nat.reduceAdd, Nat.reduceLeDiff, tload, rowOf, partT, h4] <;> exact rfl) | exact rfl))); (with_reducible refine TO.here ?_)) | ((with_reducible apply TX.region); (focus (simp only [] <;> exact rfl)); (focus rfl); (try dsimp only)) | ((with_reducible apply TX.cond_false); (focus rfl); (focus ((simp only [z1, Bool.not_true, h4]; done)))))
        obtain ⟨⟨v7, v8⟩, h5, hr⟩ := Option.bind_eq_some_iff.1 hr
        try dsimp only at hr
        apply TO.cal (by first | rfl | (simp only [twant, z1, z7, h2, h3, h4] <;> rfl)) rfl goFn21 (Spec.ov (ref03_CopyExchange_spec h5) (by decide)) rfl rfl rfl
        (repeat (focus (show _ = _; (simp only [zz, Nat.reduceAdd, shift] <;> exact rfl))))
        with_reducible apply TO.here
        obtain ⟨⟨v9, v10⟩, h6, hr⟩ := Option.bind_eq_some_iff.1 hr
        try dsimp only at hr
        apply TO.lok (by first | rfl | (simp only [twant, z1, z7, h2, h3, h4] <;> rfl)) rfl goFn20 (Spec.ov (energy_CheckExchange_spec h6) (by decide)) (by simp only [view, z1, z3, tmlc] <;> rfl) rfl rfl (by simp [])
        (repeat (focus (show _ = _; (simp only [zz, Nat.reduceAdd, shift] <;> exact rfl))))
        with_reducible apply TO.here
        repeat (first | (with_reducible first | refine mv ?_ | refine TO.nil ?_) | ((with_reducible first | apply TO.mv | apply TO.ext | apply TO.asg | apply TO.ld); (repeat (focus (show _ = _; first | exact k2 rfl | (simp only [zz, y34, Nat.reduceAdd, Nat.reduceLeDiff, tload, rowOf, partT] <;> exact rfl) | exact rfl))); (with_reducible refine TO.here ?_)) | ((with_reducible apply TX.region); (focus (simp only [] <;> exact rfl)); (focus rfl); (try dsimp only)))
        obtain ⟨⟨v11, v12⟩, h7, hr⟩ := Option.bind_eq_some_iff.1 hr
        try dsimp only at hr
        apply TO.cal (by first | rfl | (simp only [twant, z1, z7, h2, h3, h4] <;> rfl)) rfl goFn21 (Spec.ov (ref03_CopyExchange_spec h7) (by decide)) rfl rfl rfl
        (repeat (focus (show _ = _; (simp only [zz, Nat.reduceAdd, shift] <;> exact rfl))))
        with_reducible apply TO.here
        repeat (first | ((with_reducible apply TO.mv); (repeat (focus (show _ = _; first | exact k2 rfl | (simp only [zz] <;> exact rfl)))); (with_reducible refine TO.here ?_)))
        obtain ⟨v13, h8, hr⟩ := Option.bind_eq_some_iff.1 hr
        try dsimp only at hr
        apply TO.cal (by first | rfl | (simp only [twant, z1, z7, h2, h3, h4] <;> rfl)) rfl goFn23 (Spec.ov (base_CopyInts_spec h8) (by decide)) rfl rfl rfl
        (repeat (focus (show _ = _; (simp only [zz, Nat.reduceAdd, shift] <;> exact rfl))))
        with_reducible apply TO.here
        obtain ⟨⟨v14, v15, v16⟩, h9, hr⟩ := Option.bind_eq_some_iff.1 hr
        try dsimp only at hr
        apply TO.lok (by first | rfl | (simp only [twant, z1, z7, h2, h3, h4] <;> rfl)) rfl goFn22 (Spec.ov (energy_Step_spec h9) (by decide)) (by simp only [view, z1, z3, tmlc] <;> rfl) rfl rfl (by simp [clTB, cl, e_i])
        (repeat (focus (show _ = _; (simp only [zz, Nat.reduceAdd, shift] <;> exact rfl))))
        with_reducible apply TO.here
        repeat (first | (with_reducible first | refine mv ?_ | refine TO.nil ?_) | ((with_reducible first | apply TO.mv | apply TO.ext | apply TO.asg | apply TO.ld); (repeat (focus (show _ = _; first | exact k2 rfl | (simp only [zz, y34, Nat.reduceAdd, Nat.reduceLeDiff, tload, rowOf, partT] <;> exact rfl) | exact rfl))); (with_reducible refine TO.here ?_)) | ((with_reducible apply TX.region); (focus (simp only [] <;> exact rfl)); (focus rfl); (try dsimp only)))
        obtain ⟨⟨v17, v18⟩, h10, hr⟩ := Option.bind_eq_some_iff.1 hr
        try dsimp only at hr
        apply TO.cal (by first | rfl | (simp only [twant, z1, z7, h2, h3, h4] <;> rfl)) rfl goFn21 (Spec.ov (ref03_CopyExchange_spec h10) (by decide)) rfl rfl rfl
        (repeat (focus (show _ = _; (simp only [zz, Nat.reduceAdd, shift] <;> exact rfl))))
        with_reducible apply TO.here
        repeat (first | ((with_reducible apply TO.mv); (repeat (focus (show _ = _; first | exact k2 rfl | (simp only [zz] <;> exact rfl)))); (with_reducible refine TO.here ?_)))
        obtain ⟨v19, h11, hr⟩ := Option.bind_eq_some_iff.1 hr
        try dsimp only at hr
        apply TO.cal (by first | rfl | (simp only [twant, z1, z7, h2, h3, h4] <;> rfl)) rfl goFn23 (Spec.ov (base_CopyInts_spec h11) (by decide)) rfl rfl rfl
        (repeat (focus (show _ = _; (simp only [zz, Nat.reduceAdd, shift] <;> exact rfl))))
        with_reducible apply TO.here
        repeat (first | ((with_reducible apply TO.mv); (repeat (focus (show _ = _; first | exact k2 rfl | (simp only [zz] <;> exact rfl)))); (with_reducible refine TO.here ?_)))
        obtain ⟨⟨v20, v21, v22⟩, h12, hr⟩ := Option.bind_eq_some_iff.1 hr
        try dsimp only at hr
        apply TO.lok (by first | rfl | (simp only [twant, z1, z7, h2, h3, h4] <;> rfl)) rfl goFn24 (Spec.ov (energy_Run_spec h12) (by decide)) (by simp only [view, z1, z3, tmlc] <;> rfl) rfl rfl (by simp [clTB, cl, e_i])
        (repeat (focus (show _ = _; (simp only [zz, Nat.reduceAdd, shift] <;> exact rfl))))
        with_reducible apply TO.here
        repeat (first | (with_reducible first | refine mv ?_ | refine TO.nil ?_) | ((with_reducible first | apply TO.mv | apply TO.ext | apply TO.asg | apply TO.ld); (repeat (focus (show _ = _; first | exact k2 rfl | (simp only [zz, y34, Nat.reduceAdd, Nat.reduceLeDiff, tload, rowOf, partT] <;> exact rfl) | exact rfl))); (with_reducible refine TO.here ?_)) | ((with_reducible apply TX.region); (focus (simp only [] <;> exact rfl)); (focus rfl); (try dsimp only)))
        obtain ⟨⟨v23, v24⟩, h13, hr⟩ := Option.bind_eq_some_iff.1 hr
        try dsimp only at hr
        apply TO.cal (by first | rfl | (simp only [twant, z1, z7, h2, h3, h4] <;> rfl)) rfl goFn25 (Spec.ov (ref03_CheckExchange_spec h13) (by decide)) rfl rfl rfl
        (repeat (focus (show _ = _; (simp only [zz, Nat.reduceAdd, shift] <;> exact rfl))))
        with_reducible apply TO.here
        repeat (first | (with_reducible first | refine mv ?_ | refine TO.nil ?_) | ((with_reducible first | apply TO.mv | apply TO.ext | apply TO.asg | apply TO.bin); (repeat (focus (show _ = _; first | exact k2 rfl | (simp only [zz] <;> exact rfl)))); (with_reducible refine TO.here ?_)) | ((with_reducible apply TX.region); (focus (simp only [] <;> exact rfl)); (focus rfl); (try dsimp only)))
        rcases Bool.eq_false_or_eq_true ((decide (v10 ≠ v24))) with h14 | h14
        · rw [if_pos h14] at hr
          repeat (first | (with_reducible first | refine mv ?_ | refine TO.nil ?_) | ((with_reducible first | apply TO.pk | apply TO.asg); (repeat (focus (show _ = _; first | exact k2 rfl | (simp only [zz] <;> exact rfl)))); (with_reducible refine TO.here ?_)) | ((with_reducible apply TO.skip1); (repeat (focus (show _ = _; (simp only [zz, twant, zp, zs, h14] <;> exact rfl)))); (with_reducible refine TO.here ?_)) | ((with_reducible apply TX.region); (focus (simp only [] <;> exact rfl)); (focus rfl); (try dsimp only)) | ((with_reducible apply TX.cond_true); (focus rfl); (focus (rfl))))
          have hb := Option.some.inj hr
          first | (cases hb; done) | (refine ⟨.inr rfl, ?_⟩; first | (simp only [tresAll, tres, z1, hb, Option.map_some] <;> exact rfl) | (simp only [h2, h3, h4, h14] at hb; simp only [tresAll, tres, z1, hb, Option.map_some] <;> exact rfl))
        · rw [if_neg (by rw [h14]; exact Bool.false_ne_true)] at hr
          repeat (first | (with_reducible first | refine mv ?_ | refine TO.nil ?_) | ((with_reducible first | apply TO.mv | apply TO.bin | apply TO.pk); (repeat (focus (show _ = _; first | exact k2 rfl | (simp only [zz, h14] <;> exact rfl)))); (with_reducible refine TO.here ?_)))
          rcases Bool.eq_false_or_eq_true ((decide (v9 ≠ v23))) with h15 | h15
          · rw [if_pos h15] at hr
            repeat (first | (with_reducible first | refine mv ?_ | refine TO.nil ?_) | ((with_reducible apply TO.asg); (repeat (focus (show _ = _; first | exact k2 rfl | (simp only [zz, h15] <;> exact rfl)))); (with_reducible refine TO.here ?_)) | ((with_reducible apply TX.region); (focus (simp only [] <;> exact rfl)); (focus rfl); (try dsimp only)) | ((with_reducible apply TX.cond_true); (focus rfl); (focus ((simp only [z1, Bool.not_true, h15]; done)))))
            have hb := Option.some.inj hr
            first | (cases hb; done) | (refine ⟨.inr rfl, ?_⟩; first | (simp only [tresAll, tres, z1, hb, Option.map_some] <;> exact rfl) | (simp only [h2, h3, h4, h14, h15] at hb; simp only [tresAll, tres, z1, hb, Option.map_some] <;> exact rfl))
          · rw [if_neg (by rw [h15]; exact Bool.false_ne_true)] at hr
            repeat (first | with_reducible refine mv ?_ | ((with_reducible first | apply TO.ld | apply TO.mv); (repeat (focus (show _ = _; first | exact k2 rfl | (simp only [zz, y34, Nat.reduceAdd, Nat.reduceLeDiff, tload, rowOf, partT, h15] <;> exact rfl) | exact rfl))); (with_reducible refine TO.here ?_)) | ((with_reducible apply TX.region); (focus (simp only [] <;> exact rfl)); (focus rfl); (try dsimp only)) | ((with_reducible apply TX.cond_false); (focus rfl); (focus ((simp only [z1, Bool.not_true, h15]; done)))))
            obtain ⟨v25, h16, hr⟩ := Option.bind_eq_some_iff.1 hr
            try dsimp only at hr
            apply TO.cal (by first | rfl | (simp only [twant, z1, z7, h2, h3, h4, h14, h15] <;> rfl)) rfl goFn26 (Spec.ov (law03_exchangeErr_spec h16) (by decide)) rfl rfl rfl
            (repeat (focus (show _ = _; (simp only [zz, shift] <;> exact rfl))))
            with_reducible apply TO.here
            repeat (first | (with_reducible first | refine mv ?_ | refine TO.nil ?_) | ((with_reducible first | apply TO.asg | apply TO.mv | apply TO.bin); (repeat (focus (show _ = _; first | exact k2 rfl | (simp only [zz] <;> exact rfl)))); (with_reducible refine TO.here ?_)) | ((with_reducible apply TX.region); (focus (simp only [] <;> exact rfl)); (focus rfl); (try dsimp only)))
            rcases Bool.eq_false_or_eq_true ((decide (v25 ≠ 0))) with h17 | h17
            · rw [if_pos h17] at hr
              repeat (first | with_reducible refine mv ?_ | ((with_reducible first | apply TO.mv | apply TO.bin); (repeat (focus (show _ = _; first | exact k2 rfl | (simp only [zz, h17] <;> exact rfl)))); (with_reducible refine TO.here ?_)) | ((with_reducible apply TX.region); (focus (simp only [] <;> exact rfl)); (focus rfl); (try dsimp only)) | ((with_reducible apply TX.cond_true); (focus rfl); (focus ((simp only [z1, Bool.not_true, h17]; done)))))
              rcases Bool.eq_false_or_eq_true ((decide (v16 = v25))) with h18 | h18
              · rw [if_pos h18] at hr
                repeat (first | ((with_reducible first | apply TO.mv | apply TO.bin | apply TO.pk); (repeat (focus (show _ = _; first | exact k2 rfl | (simp only [zz, h18] <;> exact rfl)))); (with_reducible refine TO.here ?_)))
                rcases Bool.eq_false_or_eq_true ((decide (v22 = v25))) with h19 | h19
                · rw [if_pos h19] at hr
                  repeat (first | ((with_reducible first | apply TO.mv | apply TO.len | apply TO.bin | apply TO.pk); (repeat (focus (show _ = _; first | exact k2 rfl | (simp only [zz, y34, tlen, h19] <;> exact rfl)))); (with_reducible refine TO.here ?_)))
                  rcases Bool.eq_false_or_eq_true ((decide ((IntKind.i64.wrap ((v14.length : Int) + (v20.length : Int))) = 0))) with h20 | h20
                  · rw [if_pos h20] at hr
                    repeat (first | ((with_reducible first | apply TO.mv | apply TO.bin | apply TO.pk); (repeat (focus (show _ = _; first | exact k2 rfl | (simp only [zz, h20] <;> exact rfl)))); (with_reducible refine TO.here ?_)))
                    rcases Bool.eq_false_or_eq_true ((decide (v15 = 0))) with h21 | h21
                    · rw [if_pos h21] at hr
                      repeat (first | (with_reducible first | refine mv ?_ | refine TO.nil ?_) | ((with_reducible first | apply TO.mv | apply TO.bin | apply TO.pk | apply TO.asg); (repeat (focus (show _ = _; first | exact k2 rfl | (simp only [zz, h21] <;> exact rfl)))); (with_reducible refine TO.here ?_)))
                      have hb := Option.some.inj hr
                      first | (cases hb; done) | (refine ⟨.inr rfl, ?_⟩; first | (simp only [hb] <;> exact rfl) | (simp only [h2, h3, h4, h14, h15, h17, h18, h19, h20, h21] at hb; simp only [tresAll, tres, z1, hb, Option.map_some] <;> exact rfl))
                    · rw [if_neg (by rw [h21]; exact Bool.false_ne_true)] at hr
                      repeat (first | (with_reducible first | refine mv ?_ | refine TO.nil ?_) | ((with_reducible first | apply TO.pk | apply TO.asg); (repeat (focus (show _ = _; first | exact k2 rfl | (simp only [zz] <;> exact rfl)))); (with_reducible refine TO.here ?_)) | ((with_reducible apply TO.skip1); (repeat (focus (show _ = _; (simp only [zz, twant, zp, zs, h21] <;> exact rfl)))); (with_reducible refine TO.here ?_)))
                      have hb := Option.some.inj hr
                      first | (cases hb; done) | (refine ⟨.inr rfl, ?_⟩; first | (simp only [tresAll, tres, z1, hb, Option.map_some] <;> exact rfl) | (simp only [h2, h3, h4, h14, h15, h17, h18, h19, h20, h21] at hb; simp only [tresAll, tres, z1, hb, Option.map_some] <;> exact rfl))
                  · rw [if_neg (by rw [h20]; exact Bool.false_ne_true)] at hr
                    repeat (first | (with_reducible first | refine mv ?_ | refine TO.nil ?_) | ((with_reducible first | apply TO.pk | apply TO.mv | apply TO.asg); (repeat (focus (show _ = _; first | exact k2 rfl | (simp only [zz, h20] <;> exact rfl)))); (with_reducible refine TO.here ?_)) | ((with_reducible apply TO.skip1); (repeat (focus (show _ = _; (simp only [zz, twant, zp, zs, h20] <;> exact rfl)))); (with_reducible refine TO.here ?_)))
                    have hb := Option.some.inj hr
                    first | (cases hb; done) | (refine ⟨.inr rfl, ?_⟩; first | (simp only [tresAll, tres, z1, hb, Option.map_some] <;> exact rfl) | (simp only [h2, h3, h4, h14, h15, h17, h18, h19, h20] at hb; simp only [tresAll, tres, z1, hb, Option.map_some] <;> exact rfl))
                · rw [if_neg (by rw [h19]; exact Bool.false_ne_true)] at hr
                  repeat (first | (with_reducible first | refine mv ?_ | refine TO.nil ?_) | ((with_reducible first | apply TO.pk | apply TO.mv | apply TO.asg); (repeat (focus (show _ = _; first | exact k2 rfl | (simp only [zz, h19] <;> exact rfl)))); (with_reducible refine TO.here ?_)) | ((with_reducible apply TO.skip1); (repeat (focus (show _ = _; (simp only [zz, twant, zp, zs, h19] <;> exact rfl)))); (with_reducible refine TO.here ?_)))
                  have hb := Option.some.inj hr
                  first | (cases hb; done) | (refine ⟨.inr rfl, ?_⟩; first | (simp only [tresAll, tres, z1, hb, Option.map_some] <;> exact rfl) | (simp only [h2, h3, h4, h14, h15, h17, h18, h19] at hb; simp only [tresAll, tres, z1, hb, Option.map_some] <;> exact rfl))
              · rw [if_neg (by rw [h18]; exact Bool.false_ne_true)] at hr
                repeat (first | (with_reducible first | refine mv ?_ | refine TO.nil ?_) | ((with_reducible first | apply TO.pk | apply TO.mv | apply TO.asg); (repeat (focus (show _ = _; first | exact k2 rfl | (simp only [zz, h18] <;> exact rfl)))); (with_reducible refine TO.here ?_)) | ((with_reducible apply TO.skip1); (repeat (focus (show _ = _; (simp only [zz, twant, zp, zs, h18] <;> exact rfl)))); (with_reducible refine TO.here ?_)))
                have hb := Option.some.inj hr
                first | (cases hb; done) | (refine ⟨.inr rfl, ?_⟩; first | (simp only [tresAll, tres, z1, hb, Option.map_some] <;> exact rfl) | (simp only [h2, h3, h4, h14, h15, h17, h18] at hb; simp only [tresAll, tres, z1, hb, Option.map_some] <;> exact rfl))
            · rw [if_neg (by rw [h17]; exact Bool.false_ne_true)] at hr
              repeat (first | with_reducible refine mv ?_ | ((with_reducible first | apply TO.ld | apply TO.mv); (repeat (focus (show _ = _; first | exact k2 rfl | (simp only [zz, y34, Nat.reduceAdd, Nat.reduceLeDiff, tload, rowOf, partT, h17] <;> exact rfl) | exact rfl))); (with_reducible refine TO.here ?_)) | ((with_reducible apply TX.region); (focus (simp only [] <;> exact rfl)); (focus rfl); (try dsimp only)) | ((with_reducible apply TX.cond_false); (focus rfl); (focus ((simp only [z1, Bool.not_true, h17]; done)))))
              obtain ⟨⟨v26, v27⟩, h22, hr⟩ := Option.bind_eq_some_iff.1 hr
              try dsimp only at hr
              apply TO.cal (by first | rfl | (simp only [twant, z1, z7, h2, h3, h4, h14, h15, h17] <;> rfl)) rfl goFn27 (Spec.ov (ref03_Step_spec h22) (by decide)) rfl rfl rfl
              (repeat (focus (show _ = _; (simp only [zz, Nat.reduceAdd, shift] <;> exact rfl))))
              with_reducible apply TO.here
              repeat (first | (with_reducible first | refine mv ?_ | refine TO.nil ?_) | ((with_reducible first | apply TO.mv | apply TO.ext | apply TO.asg | apply TO.bin); (repeat (focus (show _ = _; first | exact k2 rfl | (simp only [zz] <;> exact rfl)))); (with_reducible refine TO.here ?_)) | ((with_reducible apply TX.region); (focus (simp only [] <;> exact rfl)); (focus rfl); (try dsimp only)))
              rcases Bool.eq_false_or_eq_true ((decide (v16 ≠ 0))) with h23 | h23
              · rw [if_pos h23] at hr
                repeat (first | (with_reducible first | refine mv ?_ | refine TO.nil ?_) | ((with_reducible first | apply TO.pk | apply TO.mv | apply TO.asg); (repeat (focus (show _ = _; first | exact k2 rfl | (simp only [zz, h23] <;> exact rfl)))); (with_reducible refine TO.here ?_)) | ((with_reducible apply TO.skip1); (repeat (focus (show _ = _; (simp only [zz, twant, zp, zs, h23] <;> exact rfl)))); (with_reducible refine TO.here ?_)) | ((with_reducible apply TX.region); (focus (simp only [] <;> exact rfl)); (focus rfl); (try dsimp only)) | ((with_reducible apply TX.cond_true); (focus rfl); (focus (rfl))))
                have hb := Option.some.inj hr
                first | (cases hb; done) | (refine ⟨.inr rfl, ?_⟩; first | (simp only [tresAll, tres, z1, hb, Option.map_some] <;> exact rfl) | (simp only [h2, h3, h4, h14, h15, h17, h23] at hb; simp only [tresAll, tres, z1, hb, Option.map_some] <;> exact rfl))
              · rw [if_neg (by rw [h23]; exact Bool.false_ne_true)] at hr
                repeat (first | ((with_reducible apply TO.mv); (repeat (focus (show _ = _; first | exact k2 rfl | (simp only [zz, h23] <;> exact rfl)))); (with_reducible refine TO.here ?_)))
                obtain ⟨v28, h24, hr⟩ := Option.bind_eq_some_iff.1 hr
                try dsimp only at hr
                apply TO.lok (by first | rfl | (simp only [twant, z1, z7, h2, h3, h4, h14, h15, h17, h23] <;> rfl)) rfl goFn28 (Spec.ov (base_Ints_spec h24) (by decide)) (by simp only [view, z1, z3, tmlc] <;> rfl) rfl rfl (by simp [])
                (repeat (focus (show _ = _; (simp only [zz, shift] <;> exact rfl))))
                with_reducible apply TO.here
                apply TO.pop1 (by first | rfl | (simp only [twant, z1, z7, h2, h3, h4, h14, h15, h17, h23] <;> rfl)) (pop_not rfl)
                (repeat (focus (show _ = _; (simp only [zz] <;> exact rfl))))
                with_reducible apply TO.here
                repeat (first | ((with_reducible first | apply TO.pk | apply TO.mv); (repeat (focus (show _ = _; first | exact k2 rfl | (simp only [zz] <;> exact rfl)))); (with_reducible refine TO.here ?_)))
                rcases Bool.eq_false_or_eq_true (v28) with h25 | h25
                · rw [if_pos h25] at hr
                  repeat (first | (with_reducible first | refine mv ?_ | refine TO.nil ?_) | ((with_reducible first | apply TO.mv | apply TO.bin | apply TO.pk); (repeat (focus (show _ = _; first | exact k2 rfl | (simp only [zz, h25] <;> exact rfl)))); (with_reducible refine TO.here ?_)))
                  rcases Bool.eq_false_or_eq_true ((decide (v15 ≠ v27))) with h26 | h26
                  · rw [if_pos h26] at hr
                    repeat (first | (with_reducible first | refine mv ?_ | refine TO.nil ?_) | ((with_reducible apply TO.asg); (repeat (focus (show _ = _; first | exact k2 rfl | (simp only [zz, h26] <;> exact rfl)))); (with_reducible refine TO.here ?_)) | ((with_reducible apply TX.region); (focus (simp only [] <;> exact rfl)); (focus rfl); (try dsimp only)) | ((with_reducible apply TX.cond_true); (focus rfl); (focus ((simp only [z1, Bool.not_true, h26]; done)))))
                    have hb := Option.some.inj hr
                    first | (cases hb; done) | (refine ⟨.inr rfl, ?_⟩; first | (simp only [tresAll, tres, z1, hb, Option.map_some] <;> exact rfl) | (simp only [h2, h3, h4, h14, h15, h17, h23, h25, h26] at hb; simp only [tresAll, tres, z1, hb, Option.map_some] <;> exact rfl))
                  · rw [if_neg (by rw [h26]; exact Bool.false_ne_true)] at hr
                    repeat (first | with_reducible refine mv ?_ | ((with_reducible apply TO.mv); (repeat (focus (show _ = _; first | exact k2 rfl | (simp only [zz, h26] <;> exact rfl)))); (with_reducible refine TO.here ?_)) | ((with_reducible apply TX.region); (focus (simp only [] <;> exact rfl)); (focus rfl); (try dsimp only)) | ((with_reducible apply TX.cond_false); (focus rfl); (focus ((simp only [z1, Bool.not_true, h26]; done)))))
                    obtain ⟨v29, h27, hr⟩ := Option.bind_eq_some_iff.1 hr
                    try dsimp only at hr
                    apply TO.cal (by first | rfl | (simp only [twant, z1, z7, h2, h3, h4, h14, h15, h17, h23, h25, h26] <;> rfl)) rfl goFn29 (Spec.ov (ref03_StepsErr_spec h27) (by decide)) rfl rfl rfl
                    (repeat (focus (show _ = _; (simp only [zz, shift] <;> exact rfl))))
                    with_reducible apply TO.here
                    repeat (first | (with_reducible first | refine mv ?_ | refine TO.nil ?_) | ((with_reducible first | apply TO.asg | apply TO.mv | apply TO.bin); (repeat (focus (show _ = _; first | exact k2 rfl | (simp only [zz] <;> exact rfl)))); (with_reducible refine TO.here ?_)) | ((with_reducible apply TX.region); (focus (simp only [] <;> exact rfl)); (focus rfl); (try dsimp only)))
                    rcases Bool.eq_false_or_eq_true ((decide (v29 ≠ 0))) with h28 | h28
                    · rw [if_pos h28] at hr
                      repeat (first | with_reducible refine mv ?_ | ((with_reducible first | apply TO.mv | apply TO.bin); (repeat (focus (show _ = _; first | exact k2 rfl | (simp only [zz, h28] <;> exact rfl)))); (with_reducible refine TO.here ?_)) | ((with_reducible apply TX.region); (focus (simp only [] <;> exact rfl)); (focus rfl); (try dsimp only)) | ((with_reducible apply TX.cond_true); (focus rfl); (focus ((simp only [z1, Bool.not_true, h28]; done)))))
                      rcases Bool.eq_false_or_eq_true ((decide (v22 = v29))) with h29 | h29
                      · rw [if_pos h29] at hr
                        repeat (first | ((with_reducible first | apply TO.mv | apply TO.len | apply TO.bin | apply TO.pk); (repeat (focus (show _ = _; first | exact k2 rfl | (simp only [zz, y34, tlen, h29] <;> exact rfl)))); (with_reducible refine TO.here ?_)))
                        rcases Bool.eq_false_or_eq_true ((decide ((v20.length : Int) = 0))) with h30 | h30
                        · rw [if_pos h30] at hr
                          repeat (first | (with_reducible first | refine mv ?_ | refine TO.nil ?_) | ((with_reducible first | apply TO.mv | apply TO.bin | apply TO.pk | apply TO.asg); (repeat (focus (show _ = _; first | exact k2 rfl | (simp only [zz, h30] <;> exact rfl)))); (with_reducible refine TO.here ?_)))
                          have hb := Option.some.inj hr
                          first | (cases hb; done) | (refine ⟨.inr rfl, ?_⟩; first | (simp only [hb] <;> exact rfl) | (simp only [h2, h3, h4, h14, h15, h17, h23, h25, h26, h28, h29, h30] at hb; simp only [tresAll, tres, z1, hb, Option.map_some] <;> exact rfl))
                        · rw [if_neg (by rw [h30]; exact Bool.false_ne_true)] at hr
                          repeat (first | (with_reducible first | refine mv ?_ | refine TO.nil ?_) | ((with_reducible first | apply TO.pk | apply TO.asg); (repeat (focus (show _ = _; first | exact k2 rfl | (simp only [zz] <;> exact rfl)))); (with_reducible refine TO.here ?_)) | ((with_reducible apply TO.skip1); (repeat (focus (show _ = _; (simp only [zz, twant, zp, zs, h30] <;> exact rfl)))); (with_reducible refine TO.here ?_)))
                          have hb := Option.some.inj hr
                          first | (cases hb; done) | (refine ⟨.inr rfl, ?_⟩; first | (simp only [tresAll, tres, z1, hb, Option.map_some] <;> exact rfl) | (simp only [h2, h3, h4, h14, h15, h17, h23, h25, h26, h28, h29, h30] at hb; simp only [tresAll, tres, z1, hb, Option.map_some] <;> exact rfl))
                      · rw [if_neg (by rw [h29]; exact Bool.false_ne_true)] at hr
                        repeat (first | (with_reducible first | refine mv ?_ | refine TO.nil ?_) | ((with_reducible first | apply TO.pk | apply TO.mv | apply TO.asg); (repeat (focus (show _ = _; first | exact k2 rfl | (simp only [zz, h29] <;> exact rfl)))); (with_reducible refine TO.here ?_)) | ((with_reducible apply TO.skip1); (repeat (focus (show _ = _; (simp only [zz, twant, zp, zs, h29] <;> exact rfl)))); (with_reducible refine TO.here ?_)))
                        have hb := Option.some.inj hr
                        first | (cases hb; done) | (refine ⟨.inr rfl, ?_⟩; first | (simp only [tresAll, tres, z1, hb, Option.map_some] <;> exact rfl) | (simp only [h2, h3, h4, h14, h15, h17, h23, h25, h26, h28, h29] at hb; simp only [tresAll, tres, z1, hb, Option.map_some] <;> exact rfl))
                    · rw [if_neg (by rw [h28]; exact Bool.false_ne_true)] at hr
                      repeat (first | with_reducible refine mv ?_ | ((with_reducible first | apply TO.ld | apply TO.mv); (repeat (focus (show _ = _; first | exact k2 rfl | (simp only [zz, y34, Nat.reduceAdd, Nat.reduceLeDiff, tload, rowOf, partT, h28] <;> exact rfl) | exact rfl))); (with_reducible refine TO.here ?_)) | ((with_reducible apply TX.region); (focus (simp only [] <;> exact rfl)); (focus rfl); (try dsimp only)) | ((with_reducible apply TX.cond_false); (focus rfl); (focus ((simp only [z1, Bool.not_true, h28]; done)))))
                      obtain ⟨⟨v30, v31⟩, h31, hr⟩ := Option.bind_eq_some_iff.1 hr
                      try dsimp only at hr
                      apply TO.cal (by first | rfl | (simp only [twant, z1, z7, h2, h3, h4, h14, h15, h17, h23, h25, h26, h28] <;> rfl)) rfl goFn30 (Spec.ov (ref03_Run_spec h31) (by decide)) rfl rfl rfl
                      (repeat (focus (show _ = _; (simp only [zz, Nat.reduceAdd, shift] <;> exact rfl))))
                      with_reducible apply TO.here
                      repeat (first | (with_reducible first | refine mv ?_ | refine TO.nil ?_) | ((with_reducible first | apply TO.mv | apply TO.ext | apply TO.asg | apply TO.bin); (repeat (focus (show _ = _; first | exact k2 rfl | (simp only [zz] <;> exact rfl)))); (with_reducible refine TO.here ?_)) | ((with_reducible apply TX.region); (focus (simp only [] <;> exact rfl)); (focus rfl); (try dsimp only)))
                      rcases Bool.eq_false_or_eq_true ((decide (v22 = 0))) with h32 | h32
                      · rw [if_pos h32] at hr
                        repeat (first | ((with_reducible apply TO.mv); (repeat (focus (show _ = _; first | exact k2 rfl | (simp only [zz, h32] <;> exact rfl)))); (with_reducible refine TO.here ?_)))
                        obtain ⟨v32, h33, hr⟩ := Option.bind_eq_some_iff.1 hr
                        try dsimp only at hr
                        apply TO.lok (by first | rfl | (simp only [twant, z1, z7, h2, h3, h4, h14, h15, h17, h23, h25, h26, h28, h32] <;> rfl)) rfl goFn28 (Spec.ov (base_Ints_spec h33) (by decide)) (by simp only [view, z1, z3, tmlc] <;> rfl) rfl rfl (by simp [])
                        (repeat (focus (show _ = _; (simp only [zz, shift] <;> exact rfl))))
                        with_reducible apply TO.here
                        repeat (first | ((with_reducible first | apply TO.pk | apply TO.mv); (repeat (focus (show _ = _; first | exact k2 rfl | (simp only [zz] <;> exact rfl)))); (with_reducible refine TO.here ?_)))
                        rcases Bool.eq_false_or_eq_true (v32) with h34 | h34
                        · rw [if_pos h34] at hr
                          repeat (first | (with_reducible first | refine mv ?_ | refine TO.nil ?_) | ((with_reducible first | apply TO.mv | apply TO.bin | apply TO.pk | apply TO.asg); (repeat (focus (show _ = _; first | exact k2 rfl | (simp only [zz, h34] <;> exact rfl)))); (with_reducible refine TO.here ?_)))
                          have hb := Option.some.inj hr
                          first | (cases hb; done) | (refine ⟨.inr rfl, ?_⟩; first | (simp only [hb] <;> exact rfl) | (simp only [h2, h3, h4, h14, h15, h17, h23, h25, h26, h28, h32, h34] at hb; simp only [tresAll, tres, z1, hb, Option.map_some] <;> exact rfl))
                        · rw [if_neg (by rw [h34]; exact Bool.false_ne_true)] at hr
                          repeat (first | (with_reducible first | refine mv ?_ | refine TO.nil ?_) | ((with_reducible first | apply TO.pk | apply TO.asg); (repeat (focus (show _ = _; first | exact k2 rfl | (simp only [zz] <;> exact rfl)))); (with_reducible refine TO.here ?_)) | ((with_reducible apply TO.skip1); (repeat (focus (show _ = _; (simp only [zz, twant, zp, zs, h34] <;> exact rfl)))); (with_reducible refine TO.here ?_)))
                          have hb := Option.some.inj hr
                          first | (cases hb; done) | (refine ⟨.inr rfl, ?_⟩; first | (simp only [tresAll, tres, z1, hb, Option.map_some] <;> exact rfl) | (simp only [h2, h3, h4, h14, h15, h17, h23, h25, h26, h28, h32, h34] at hb; simp only [tresAll, tres, z1, hb, Option.map_some] <;> exact rfl))
                      · rw [if_neg (by rw [h32]; exact Bool.false_ne_true)] at hr
                        repeat (first | (with_reducible first | refine mv ?_ | refine TO.nil ?_) | ((with_reducible first | apply TO.pk | apply TO.mv | apply TO.asg); (repeat (focus (show _ = _; first | exact k2 rfl | (simp only [zz, h32] <;> exact rfl)))); (with_reducible refine TO.here ?_)) | ((with_reducible apply TO.skip1); (repeat (focus (show _ = _; (simp only [zz, twant, zp, zs, h32] <;> exact rfl)))); (with_reducible refine TO.here ?_)))
                        have hb := Option.some.inj hr
                        first | (cases hb; done) | (refine ⟨.inr rfl, ?_⟩; first | (simp only [tresAll, tres, z1, hb, Option.map_some] <;> exact rfl) | (simp only [h2, h3, h4, h14, h15, h17, h23, h25, h26, h28, h32] at hb; simp only [tresAll, tres, z1, hb, Option.map_some] <;> exact rfl))
                · rw [if_neg (by rw [h25]; exact Bool.false_ne_true)] at hr
                  repeat (first | (with_reducible first | refine mv ?_ | refine TO.nil ?_) | ((with_reducible first | apply TO.pk | apply TO.asg); (repeat (focus (show _ = _; first | exact k2 rfl | (simp only [zz] <;> exact rfl)))); (with_reducible refine TO.here ?_)) | ((with_reducible apply TO.skip1); (repeat (focus (show _ = _; (simp only [zz, twant, zp, zs, h25] <;> exact rfl)))); (with_reducible refine TO.here ?_)) | ((with_reducible apply TX.region); (focus (simp only [] <;> exact rfl)); (focus rfl); (try dsimp only)) | ((with_reducible apply TX.cond_true); (focus rfl); (focus (rfl))))
                  have hb := Option.some.inj hr
                  first | (cases hb; done) | (refine ⟨.inr rfl, ?_⟩; first | (simp only [tresAll, tres, z1, hb, Option.map_some] <;> exact rfl) | (simp only [h2, h3, h4, h14, h15, h17, h23, h25] at hb; simp only [tresAll, tres, z1, hb, Option.map_some] <;> exact rfl))
    · rw [if_neg (by rw [h3]; exact Bool.false_ne_true)] at hr
      repeat (first | (with_reducible first | refine mv ?_ | refine TO.nil ?_) | ((with_reducible first | apply TO.pk | apply TO.ld); (repeat (focus (show _ = _; first | exact k2 rfl | (simp only [zz, y34, Nat.reduceAdd, Nat.reduceLeDiff, tload, rowOf, partT] <;> exact rfl) | exact rfl))); (with_reducible refine TO.here ?_)) | ((with_reducible apply TO.skip1); (repeat (focus (show _ = _; (simp only [zz, twant, zp, zs, h3] <;> exact rfl)))); (with_reducible refine TO.here ?_)) | ((with_reducible apply TX.region); (focus (simp only [] <;> exact rfl)); (focus rfl); (try dsimp only)) | ((with_reducible apply TX.cond_false); (focus rfl); (focus (rfl))))
      obtain ⟨⟨v33, v34⟩, h35, hr⟩ := Option.bind_eq_some_iff.1 hr
      try dsimp only at hr
      apply TO.cal (by first | rfl | (simp only [twant, z1, z7, h2, h3] <;> rfl)) rfl goFn21 (Spec.ov (ref03_CopyExchange_spec h35) (by decide)) rfl rfl rfl
      (repeat (focus (show _ = _; (simp only [zz, Nat.reduceAdd, shift] <;> exact rfl))))
      with_reducible apply TO.here
      obtain ⟨⟨v35, v36⟩, h36, hr⟩ := Option.bind_eq_some_iff.1 hr
      try dsimp only at hr
      apply TO.lok (by first | rfl | (simp only [twant, z1, z7, h2, h3] <;> rfl)) rfl goFn20 (Spec.ov (energy_CheckExchange_spec h36) (by decide)) (by simp only [view, z1, z3, tmlc] <;> rfl) rfl rfl (by simp [])
      (repeat (focus (show _ = _; (simp only [zz, Nat.reduceAdd, shift] <;> exact rfl))))
      with_reducible apply TO.here
      repeat (first | (with_reducible first | refine mv ?_ | refine TO.nil ?_) | ((with_reducible first | apply TO.mv | apply TO.ext | apply TO.asg | apply TO.ld); (repeat (focus (show _ = _; first | exact k2 rfl | (simp only [zz, y34, Nat.reduceAdd, Nat.reduceLeDiff, tload, rowOf, partT] <;> exact rfl) | exact rfl))); (with_reducible refine TO.here ?_)) | ((with_reducible apply TX.region); (focus (simp only [] <;> exact rfl)); (focus rfl); (try dsimp only)))
      obtain ⟨⟨v37, v38⟩, h37, hr⟩ := Option.bind_eq_some_iff.1 hr
      try dsimp only at hr
      apply TO.cal (by first | rfl | (simp only [twant, z1, z7, h2, h3] <;> rfl)) rfl goFn21 (Spec.ov (ref03_CopyExchange_spec h37) (by decide)) rfl rfl rfl
      (repeat (focus (show _ = _; (simp only [zz, Nat.reduceAdd, shift] <;> exact rfl))))
      with_reducible apply TO.here
      repeat (first | ((with_reducible apply TO.mv); (repeat (focus (show _ = _; first | exact k2 rfl | (simp only [zz] <;> exact rfl)))); (with_reducible refine TO.here ?_)))
      obtain ⟨v39, h38, hr⟩ := Option.bind_eq_some_iff.1 hr
      try dsimp only at hr
      apply TO.cal (by first | rfl | (simp only [twant, z1, z7, h2, h3] <;> rfl)) rfl goFn23 (Spec.ov (base_CopyInts_spec h38) (by decide)) rfl rfl rfl
      (repeat (focus (show _ = _; (simp only [zz, Nat.reduceAdd, shift] <;> exact rfl))))
      with_reducible apply TO.here
      obtain ⟨⟨v40, v41, v42⟩, h39, hr⟩ := Option.bind_eq_some_iff.1 hr
      try dsimp only at hr
      apply TO.lok (by first | rfl | (simp only [twant, z1, z7, h2, h3] <;> rfl)) rfl goFn22 (Spec.ov (energy_Step_spec h39) (by decide)) (by simp only [view, z1, z3, tmlc] <;> rfl) rfl rfl (by simp [clTB, cl, e_i])
      (repeat (focus (show _ = _; (simp only [zz, Nat.reduceAdd, shift] <;> exact rfl))))
      with_reducible apply TO.here
      repeat (first | (with_reducible first | refine mv ?_ | refine TO.nil ?_) | ((with_reducible first | apply TO.mv | apply TO.ext | apply TO.asg | apply TO.ld); (repeat (focus (show _ = _; first | exact k2 rfl | (simp only [zz, y34, Nat.reduceAdd, Nat.reduceLeDiff, tload, rowOf, partT] <;> exact rfl) | exact rfl))); (with_reducible refine TO.here ?_)) | ((with_reducible apply TX.region); (focus (simp only [] <;> exact rfl)); (focus rfl); (try dsimp only)))
      obtain ⟨⟨v43, v44⟩, h40, hr⟩ := Option.bind_eq_some_iff.1 hr
      try dsimp only at hr
      apply TO.cal (by first | rfl | (simp only [twant, z1, z7, h2, h3] <;> rfl)) rfl goFn21 (Spec.ov (ref03_CopyExchange_spec h40) (by decide)) rfl rfl rfl
      (repeat (focus (show _ = _; (simp only [zz, Nat.reduceAdd, shift] <;> exact rfl))))
      with_reducible apply TO.here
      repeat (first | ((with_reducible apply TO.mv); (repeat (focus (show _ = _; first | exact k2 rfl | (simp only [zz] <;> exact rfl)))); (with_reducible refine TO.here ?_)))
      obtain ⟨v45, h41, hr⟩ := Option.bind_eq_some_iff.1 hr
      try dsimp only at hr
      apply TO.cal (by first | rfl | (simp only [twant, z1, z7, h2, h3] <;> rfl)) rfl goFn23 (Spec.ov (base_CopyInts_spec h41) (by decide)) rfl rfl rfl
      (repeat (focus (show _ = _; (simp only [zz, Nat.reduceAdd, shift] <;> exact rfl))))
      with_reducible apply TO.here
      repeat (first | ((with_reducible apply TO.mv); (repeat (focus (show _ = _; first | exact k2 rfl | (simp only [zz] <;> exact rfl)))); (with_reducible refine TO.here ?_)))
      obtain ⟨⟨v46, v47, v48⟩, h42, hr⟩ := Option.bind_eq_some_iff.1 hr
      try dsimp only at hr
      apply TO.lok (by first | rfl | (simp only [twant, z1, z7, h2, h3] <;> rfl)) rfl goFn24 (Spec.ov (energy_Run_spec h42) (by decide)) (by simp only [view, z1, z3, tmlc] <;> rfl) rfl rfl (by simp [clTB, cl, e_i])
      (repeat (focus (show _ = _; (simp only [zz, Nat.reduceAdd, shift] <;> exact rfl))))
      with_reducible apply TO.here
      repeat (first | (with_reducible first | refine mv ?_ | refine TO.nil ?_) | ((with_reducible first | apply TO.mv | apply TO.ext | apply TO.asg | apply TO.ld); (repeat (focus (show _ = _; first | exact k2 rfl | (simp only [zz, y34, Nat.reduceAdd, Nat.reduceLeDiff, tload, rowOf, partT] <;> exact rfl) | exact rfl))); (with_reducible refine TO.here ?_)) | ((with_reducible apply TX.region); (focus (simp only [] <;> exact rfl)); (focus rfl); (try dsimp only)))
      obtain ⟨⟨v49, v50⟩, h43, hr⟩ := Option.bind_eq_some_iff.1 hr
      try dsimp only at hr
      apply TO.cal (by first | rfl | (simp only [twant, z1, z7, h2, h3] <;> rfl)) rfl goFn25 (Spec.ov (ref03_CheckExchange_spec h43) (by decide)) rfl rfl rfl
      (repeat (focus (show _ = _; (simp only [zz, Nat.reduceAdd, shift] <;> exact rfl))))
      with_reducible apply TO.here
      repeat (first | (with_reducible first | refine mv ?_ | refine TO.nil ?_) | ((with_reducible first | apply TO.mv | apply TO.ext | apply TO.asg | apply TO.bin); (repeat (focus (show _ = _; first | exact k2 rfl | (simp only [zz] <;> exact rfl)))); (with_reducible refine TO.here ?_)) | ((with_reducible apply TX.region); (focus (simp only [] <;> exact rfl)); (focus rfl); (try dsimp only)))
      rcases Bool.eq_false_or_eq_true ((decide (v36 ≠ v50))) with h44 | h44
      · rw [if_pos h44] at hr
        repeat (first | (with_reducible first | refine mv ?_ | refine TO.nil ?_) | ((with_reducible first | apply TO.pk | apply TO.asg); (repeat (focus (show _ = _; first | exact k2 rfl | (simp only [zz] <;> exact rfl)))); (with_reducible refine TO.here ?_)) | ((with_reducible apply TO.skip1); (repeat (focus (show _ = _; (simp only [zz, twant, zp, zs, h44] <;> exact rfl)))); (with_reducible refine TO.here ?_)) | ((with_reducible apply TX.region); (focus (simp only [] <;> exact rfl)); (focus rfl); (try dsimp only)) | ((with_reducible apply TX.cond_true); (focus rfl); (focus (rfl))))
        have hb := Option.some.inj hr
        first | (cases hb; done) | (refine ⟨.inr rfl, ?_⟩; first | (simp only [tresAll, tres, z1, hb, Option.map_some] <;> exact rfl) | (simp only [h2, h3, h44] at hb; simp only [tresAll, tres, z1, hb, Option.map_some] <;> exact rfl))
      · rw [if_neg (by rw [h44]; exact Bool.false_ne_true)] at hr
        repeat (first | (with_reducible first | refine mv ?_ | refine TO.nil ?_) | ((with_reducible first | apply TO.mv | apply TO.bin | apply TO.pk); (repeat (focus (show _ = _; first | exact k2 rfl | (simp only [zz, h44] <;> exact rfl)))); (with_reducible refine TO.here ?_)))
        rcases Bool.eq_false_or_eq_true ((decide (v35 ≠ v49))) with h45 | h45
        · rw [if_pos h45] at hr
          repeat (first | (with_reducible first | refine mv ?_ | refine TO.nil ?_) | ((with_reducible apply TO.asg); (repeat (focus (show _ = _; first | exact k2 rfl | (simp only [zz, h45] <;> exact rfl)))); (with_reducible refine TO.here ?_)) | ((with_reducible apply TX.region); (focus (simp only [] <;> exact rfl)); (focus rfl); (try dsimp only)) | ((with_reducible apply TX.cond_true); (focus rfl); (focus ((simp only [z1, Bool.not_true, h45]; done)))))
          have hb := Option.some.inj hr
          first | (cases hb; done) | (refine ⟨.inr rfl, ?_⟩; first | (simp only [tresAll, tres, z1, hb, Option.map_some] <;> exact rfl) | (simp only [h2, h3, h44, h45] at hb; simp only [tresAll, tres, z1, hb, Option.map_some] <;> exact rfl))
        · rw [if_neg (by rw [h45]; exact Bool.false_ne_true)] at hr
          repeat (first | with_reducible refine mv ?_ | ((with_reducible first | apply TO.ld | apply TO.mv); (repeat (focus (show _ = _; first | exact k2 rfl | (simp only [zz, y34, Nat.reduceAdd, Nat.reduceLeDiff, tload, rowOf, partT, h45] <;> exact rfl) | exact rfl))); (with_reducible refine TO.here ?_)) | ((with_reducible apply TX.region); (focus (simp only [] <;> exact rfl)); (focus rfl); (try dsimp only)) | ((with_reducible apply TX.cond_false); (focus rfl); (focus ((simp only [z1, Bool.not_true, h45]; done)))))
          obtain ⟨v51, h46, hr⟩ := Option.bind_eq_some_iff.1 hr
          try dsimp only at hr
          apply TO.cal (by first | rfl | (simp only [twant, z1, z7, h2, h3, h44, h45] <;> rfl)) rfl goFn26 (Spec.ov (law03_exchangeErr_spec h46) (by decide)) rfl rfl rfl
          (repeat (focus (show _ = _; (simp only [zz, shift] <;> exact rfl))))
          with_reducible apply TO.here
          repeat (first | (with_reducible first | refine mv ?_ | refine TO.nil ?_) | ((with_reducible first | apply TO.asg | apply TO.mv | apply TO.bin); (repeat (focus (show _ = _; first | exact k2 rfl | (simp only [zz] <;> exact rfl)))); (with_reducible refine TO.here ?_)) | ((with_reducible apply TX.region); (focus (simp only [] <;> exact rfl)); (focus rfl); (try dsimp only)))
          rcases Bool.eq_false_or_eq_true ((decide (v51 ≠ 0))) with h47 | h47
          · rw [if_pos h47] at hr
            repeat (first | with_reducible refine mv ?_ | ((with_reducible first | apply TO.mv | apply TO.bin); (repeat (focus (show _ = _; first | exact k2 rfl | (simp only [zz, h47] <;> exact rfl)))); (with_reducible refine TO.here ?_)) | ((with_reducible apply TX.region); (focus (simp only [] <;> exact rfl)); (focus rfl); (try dsimp only)) | ((with_reducible apply TX.cond_true); (focus rfl); (focus ((simp only [z1, Bool.not_true, h47]; done)))))
            rcases Bool.eq_false_or_eq_true ((decide (v42 = v51))) with h48 | h48
            · rw [if_pos h48] at hr
              repeat (first | ((with_reducible first | apply TO.mv | apply TO.bin | apply TO.pk); (repeat (focus (show _ = _; first | exact k2 rfl | (simp only [zz, h48] <;> exact rfl)))); (with_reducible refine TO.here ?_)))
              rcases Bool.eq_false_or_eq_true ((decide (v48 = v51))) with h49 | h49
              · rw [if_pos h49] at hr
                repeat (first | ((with_reducible first | apply TO.mv | apply TO.len | apply TO.bin | apply TO.pk); (repeat (focus (show _ = _; first | exact k2 rfl | (simp only [zz, y34, tlen, h49] <;> exact rfl)))); (with_reducible refine TO.here ?_)))
                rcases Bool.eq_false_or_eq_true ((decide ((IntKind.i64.wrap ((v40.length : Int) + (v46.length : Int))) = 0))) with h50 | h50
                · rw [if_pos h50] at hr
                  repeat (first | ((with_reducible first | apply TO.mv | apply TO.bin | apply TO.pk); (repeat (focus (show _ = _; first | exact k2 rfl | (simp only [zz, h50] <;> exact rfl)))); (with_reducible refine TO.here ?_)))
                  rcases Bool.eq_false_or_eq_true ((decide (v41 = 0))) with h51 | h51
                  · rw [if_pos h51] at hr
                    repeat (first | (with_reducible first | refine mv ?_ | refine TO.nil ?_) | ((with_reducible first | apply TO.mv | apply TO.bin | apply TO.pk | apply TO.asg); (repeat (focus (show _ = _; first | exact k2 rfl | (simp only [zz, h51] <;> exact rfl)))); (with_reducible refine TO.here ?_)))
                    have hb := Option.some.inj hr
                    first | (cases hb; done) | (refine ⟨.inr rfl, ?_⟩; first | (simp only [hb] <;> exact rfl) | (simp only [h2, h3, h44, h45, h47, h48, h49, h50, h51] at hb; simp only [tresAll, tres, z1, hb, Option.map_some] <;> exact rfl))
                  · rw [if_neg (by rw [h51]; exact Bool.false_ne_true)] at hr
                    repeat (first | (with_reducible first | refine mv ?_ | refine TO.nil ?_) | ((with_reducible first | apply TO.pk | apply TO.asg); (repeat (focus (show _ = _; first | exact k2 rfl | (simp only [zz] <;> exact rfl)))); (with_reducible refine TO.here ?_)) | ((with_reducible apply TO.skip1); (repeat (focus (show _ = _; (simp only [zz, twant, zp, zs, h51] <;> exact rfl)))); (with_reducible refine TO.here ?_)))
                    have hb := Option.some.inj hr
                    first | (cases hb; done) | (refine ⟨.inr rfl, ?_⟩; first | (simp only [tresAll, tres, z1, hb, Option.map_some] <;> exact rfl) | (simp only [h2, h3, h44, h45, h47, h48, h49, h50, h51] at hb; simp only [tresAll, tres, z1, hb, Option.map_some] <;> exact rfl))
                · rw [if_neg (by rw [h50]; exact Bool.false_ne_true)] at hr
                  repeat (first | (with_reducible first | refine mv ?_ | refine TO.nil ?_) | ((with_reducible first | apply TO.pk | apply TO.mv | apply TO.asg); (repeat (focus (show _ = _; first | exact k2 rfl | (simp only [zz, h50] <;> exact rfl)))); (with_reducible refine TO.here ?_)) | ((with_reducible apply TO.skip1); (repeat (focus (show _ = _; (simp only [zz, twant, zp, zs, h50] <;> exact rfl)))); (with_reducible refine TO.here ?_)))
                  have hb := Option.some.inj hr
                  first | (cases hb; done) | (refine ⟨.inr rfl, ?_⟩; first | (simp only [tresAll, tres, z1, hb, Option.map_some] <;> exact rfl) | (simp only [h2, h3, h44, h45, h47, h48, h49, h50] at hb; simp only [tresAll, tres, z1, hb, Option.map_some] <;> exact rfl))
              · rw [if_neg (by rw [h49]; exact Bool.false_ne_true)] at hr
                repeat (first | (with_reducible first | refine mv ?_ | refine TO.nil ?_) | ((with_reducible first | apply TO.pk | apply TO.mv | apply TO.asg); (repeat (focus (show _ = _; first | exact k2 rfl | (simp only [zz, h49] <;> exact rfl)))); (with_reducible refine TO.here ?_)) | ((with_reducible apply TO.skip1); (repeat (focus (show _ = _; (simp only [zz, twant, zp, zs, h49] <;> exact rfl)))); (with_reducible refine TO.here ?_)))
                have hb := Option.some.inj hr
                first | (cases hb; done) | (refine ⟨.inr rfl, ?_⟩; first | (simp only [tresAll, tres, z1, hb, Option.map_some] <;> exact rfl) | (simp only [h2, h3, h44, h45, h47, h48, h49] at hb; simp only [tresAll, tres, z1, hb, Option.map_some] <;> exact rfl))
            · rw [if_neg (by rw [h48]; exact Bool.false_ne_true)] at hr
              repeat (first | (with_reducible first | refine mv ?_ | refine TO.nil ?_) | ((with_reducible first | apply TO.pk | apply TO.mv | apply TO.asg); (repeat (focus (show _ = _; first | exact k2 rfl | (simp only [zz, h48] <;> exact rfl)))); (with_reducible refine TO.here ?_)) | ((with_reducible apply TO.skip1); (repeat (focus (show _ = _; (simp only [zz, twant, zp, zs, h48] <;> exact rfl)))); (with_reducible refine TO.here ?_)))
              have hb := Option.some.inj hr
              first | (cases hb; done) | (refine ⟨.inr rfl, ?_⟩; first | (simp only [tresAll, tres, z1, hb, Option.map_some] <;> exact rfl) | (simp only [h2, h3, h44, h45, h47, h48] at hb; simp only [tresAll, tres, z1, hb, Option.map_some] <;> exact rfl))
          · rw [if_neg (by rw [h47]; exact Bool.false_ne_true)] at hr
            repeat (first | with_reducible refine mv ?_ | ((with_reducible first | apply TO.ld | apply TO.mv); (repeat (focus (show _ = _; first | exact k2 rfl | (simp only [zz, y34, Nat.reduceAdd, Nat.reduceLeDiff, tload, rowOf, partT, h47] <;> exact rfl) | exact rfl))); (with_reducible refine TO.here ?_)) | ((with_reducible apply TX.region); (focus (simp only [] <;> exact rfl)); (focus rfl); (try dsimp only)) | ((with_reducible apply TX.cond_false); (focus rfl); (focus ((simp only [z1, Bool.not_true, h47]; done)))))
            obtain ⟨⟨v52, v53⟩, h52, hr⟩ := Option.bind_eq_some_iff.1 hr
            try dsimp only at hr
            apply TO.cal (by first | rfl | (simp only [twant, z1, z7, h2, h3, h44, h45, h47] <;> rfl)) rfl goFn27 (Spec.ov (ref03_Step_spec h52) (by decide)) rfl rfl rfl
            (repeat (focus (show _ = _; (simp only [zz, Nat.reduceAdd, shift] <;> exact rfl))))
            with_reducible apply TO.here
            repeat (first | (with_reducible first | refine mv ?_ | refine TO.nil ?_) | ((with_reducible first | apply TO.mv | apply TO.ext | apply TO.asg | apply TO.bin); (repeat (focus (show _ = _; first | exact k2 rfl | (simp only [zz] <;> exact rfl)))); (with_reducible refine TO.here ?_)) | ((with_reducible apply TX.region); (focus (simp only [] <;> exact rfl)); (focus rfl); (try dsimp only)))
            rcases Bool.eq_false_or_eq_true ((decide (v42 ≠ 0))) with h53 | h53
            · rw [if_pos h53] at hr
              repeat (first | (with_reducible first | refine mv ?_ | refine TO.nil ?_) | ((with_reducible first | apply TO.pk | apply TO.mv | apply TO.asg); (repeat (focus (show _ = _; first | exact k2 rfl | (simp only [zz, h53] <;> exact rfl)))); (with_reducible refine TO.here ?_)) | ((with_reducible apply TO.skip1); (repeat (focus (show _ = _; (simp only [zz, twant, zp, zs, h53] <;> exact rfl)))); (with_reducible refine TO.here ?_)) | ((with_reducible apply TX.region); (focus (simp only [] <;> exact rfl)); (focus rfl); (try dsimp only)) | ((with_reducible apply TX.cond_true); (focus rfl); (focus (rfl))))
              have hb := Option.some.inj hr
              first | (cases hb; done) | (refine ⟨.inr rfl, ?_⟩; first | (simp only [tresAll, tres, z1, hb, Option.map_some] <;> exact rfl) | (simp only [h2, h3, h44, h45, h47, h53] at hb; simp only [tresAll, tres, z1, hb, Option.map_some] <;> exact rfl))
            · rw [if_neg (by rw [h53]; exact Bool.false_ne_true)] at hr
              repeat (first | ((with_reducible apply TO.mv); (repeat (focus (show _ = _; first | exact k2 rfl | (simp only [zz, h53] <;> exact rfl)))); (with_reducible refine TO.here ?_)))
              obtain ⟨v54, h54, hr⟩ := Option.bind_eq_some_iff.1 hr
              try dsimp only at hr
              apply TO.lok (by first | rfl | (simp only [twant, z1, z7, h2, h3, h44, h45, h47, h53] <;> rfl)) rfl goFn28 (Spec.ov (base_Ints_spec h54) (by decide)) (by simp only [view, z1, z3, tmlc] <;> rfl) rfl rfl (by simp [])
              (repeat (focus (show _ = _; (simp only [zz, shift] <;> exact rfl))))
              with_reducible apply TO.here
              apply TO.pop1 (by first | rfl | (simp only [twant, z1, z7, h2, h3, h44, h45, h47, h53] <;> rfl)) (pop_not rfl)
              (repeat (focus (show _ = _; (simp only [zz] <;> exact rfl))))
              with_reducible apply TO.here
              repeat (first | ((with_reducible first | apply TO.pk | apply TO.mv); (repeat (focus (show _ = _; first | exact k2 rfl | (simp only [zz] <;> exact rfl)))); (with_reducible refine TO.here ?_)))
              rcases Bool.eq_false_or_eq_true (v54) with h55 | h55
              · rw [if_pos h55] at hr
                repeat (first | (with_reducible first | refine mv ?_ | refine TO.nil ?_) | ((with_reducible first | apply TO.mv | apply TO.bin | apply TO.pk); (repeat (focus (show _ = _; first | exact k2 rfl | (simp only [zz, h55] <;> exact rfl)))); (with_reducible refine TO.here ?_)))
                rcases Bool.eq_false_or_eq_true ((decide (v41 ≠ v53))) with h56 | h56
                · rw [if_pos h56] at hr
                  repeat (first | (with_reducible first | refine mv ?_ | refine TO.nil ?_) | ((with_reducible apply TO.asg); (repeat (focus (show _ = _; first | exact k2 rfl | (simp only [zz, h56] <;> exact rfl)))); (with_reducible refine TO.here ?_)) | ((with_reducible apply TX.region); (focus (simp only [] <;> exact rfl)); (focus rfl); (try dsimp only)) | ((with_reducible apply TX.cond_true); (focus rfl); (focus ((simp only [z1, Bool.not_true, h56]; done)))))
                  have hb := Option.some.inj hr
                  first | (cases hb; done) | (refine ⟨.inr rfl, ?_⟩; first | (simp only [tresAll, tres, z1, hb, Option.map_some] <;> exact rfl) | (simp only [h2, h3, h44, h45, h47, h53, h55, h56] at hb; simp only [tresAll, tres, z1, hb, Option.map_some] <;> exact rfl))
                · rw [if_neg (by rw [h56]; exact Bool.false_ne_true)] at hr
                  repeat (first | with_reducible refine mv ?_ | ((with_reducible apply TO.mv); (repeat (focus (show _ = _; first | exact k2 rfl | (simp only [zz, h56] <;> exact rfl)))); (with_reducible refine TO.here ?_)) | ((with_reducible apply TX.region); (focus (simp only [] <;> exact rfl)); (focus rfl); (try dsimp only)) | ((with_reducible apply TX.cond_false); (focus rfl); (focus ((simp only [z1, Bool.not_true, h56]; done)))))
                  obtain ⟨v55, h57, hr⟩ := Option.bind_eq_some_iff.1 hr
                  try dsimp only at hr
                  apply TO.cal (by first | rfl | (simp only [twant, z1, z7, h2, h3, h44, h45, h47, h53, h55, h56] <;> rfl)) rfl goFn29 (Spec.ov (ref03_StepsErr_spec h57) (by decide)) rfl rfl rfl
                  (repeat (focus (show _ = _; (simp only [zz, shift] <;> exact rfl))))
                  with_reducible apply TO.here
                  repeat (first | (with_reducible first | refine mv ?_ | refine TO.nil ?_) | ((with_reducible first | apply TO.asg | apply TO.mv | apply TO.bin); (repeat (focus (show _ = _; first | exact k2 rfl | (simp only [zz] <;> exact rfl)))); (with_reducible refine TO.here ?_)) | ((with_reducible apply TX.region); (focus (simp only [] <;> exact rfl)); (focus rfl); (try dsimp only)))
                  rcases Bool.eq_false_or_eq_true ((decide (v55 ≠ 0))) with h58 | h58
                  · rw [if_pos h58] at hr
                    repeat (first | with_reducible refine mv ?_ | ((with_reducible first | apply TO.mv | apply TO.bin); (repeat (focus (show _ = _; first | exact k2 rfl | (simp only [zz, h58] <;> exact rfl)))); (with_reducible refine TO.here ?_)) | ((with_reducible apply TX.region); (focus (simp only [] <;> exact rfl)); (focus rfl); (try dsimp only)) | ((with_reducible apply TX.cond_true); (focus rfl); (focus ((simp only [z1, Bool.not_true, h58]; done)))))
                    rcases Bool.eq_false_or_eq_true ((decide (v48 = v55))) with h59 | h59
                    · rw [if_pos h59] at hr
                      repeat (first | ((with_reducible first | apply TO.mv | apply TO.len | apply TO.bin | apply TO.pk); (repeat (focus (show _ = _; first | exact k2 rfl | (simp only [zz, y34, tlen, h59] <;> exact rfl)))); (with_reducible refine TO.here ?_)))
                      rcases Bool.eq_false_or_eq_true ((decide ((v46.length : Int) = 0))) with h60 | h60
                      · rw [if_pos h60] at hr
                        repeat (first | (with_reducible first | refine mv ?_ | refine TO.nil ?_) | ((with_reducible first | apply TO.mv | apply TO.bin | apply TO.pk | apply TO.asg); (repeat (focus (show _ = _; first | exact k2 rfl | (simp only [zz, h60] <;> exact rfl)))); (with_reducible refine TO.here ?_)))
                        have hb := Option.some.inj hr
                        first | (cases hb; done) | (refine ⟨.inr rfl, ?_⟩; first | (simp only [hb] <;> exact rfl) | (simp only [h2, h3, h44, h45, h47, h53, h55, h56, h58, h59, h60] at hb; simp only [tresAll, tres, z1, hb, Option.map_some] <;> exact rfl))
                      · rw [if_neg (by rw [h60]; exact Bool.false_ne_true)] at hr
                        repeat (first | (with_reducible first | refine mv ?_ | refine TO.nil ?_) | ((with_reducible first | apply TO.pk | apply TO.asg); (repeat (focus (show _ = _; first | exact k2 rfl | (simp only [zz] <;> exact rfl)))); (with_reducible refine TO.here ?_)) | ((with_reducible apply TO.skip1); (repeat (focus (show _ = _; (simp only [zz, twant, zp, zs, h60] <;> exact rfl)))); (with_reducible refine TO.here ?_)))
                        have hb := Option.some.inj hr
                        first | (cases hb; done) | (refine ⟨.inr rfl, ?_⟩; first | (simp only [tresAll, tres, z1, hb, Option.map_some] <;> exact rfl) | (simp only [h2, h3, h44, h45, h47, h53, h55, h56, h58, h59, h60] at hb; simp only [tresAll, tres, z1, hb, Option.map_some] <;> exact rfl))
                    · rw [if_neg (by rw [h59]; exact Bool.false_ne_true)] at hr
                      repeat (first | (with_reducible first | refine mv ?_ | refine TO.nil ?_) | ((with_reducible first | apply TO.pk | apply TO.mv | apply TO.asg); (repeat (focus (show _ = _; first | exact k2 rfl | (simp only [zz, h59] <;> exact rfl)))); (with_reducible refine TO.here ?_)) | ((with_reducible apply TO.skip1); (repeat (focus (show _ = _; (simp only [zz, twant, zp, zs, h59] <;> exact rfl)))); (with_reducible refine TO.here ?_)))
                      have hb := Option.some.inj hr
                      first | (cases hb; done) | (refine ⟨.inr rfl, ?_⟩; first | (simp only [tresAll, tres, z1, hb, Option.map_some] <;> exact rfl) | (simp only [h2, h3, h44, h45, h47, h53, h55, h56, h58, h59] at hb; simp only [tresAll, tres, z1, hb, Option.map_some] <;> exact rfl))
                  · rw [if_neg (by rw [h58]; exact Bool.false_ne_true)] at hr
                    repeat (first | with_reducible refine mv ?_ | ((with_reducible first | apply TO.ld | apply TO.mv); (repeat (focus (show _ = _; first | exact k2 rfl | (simp only [zz, y34, Nat.reduceAdd, Nat.reduceLeDiff, tload, rowOf, partT, h58] <;> exact rfl) | exact rfl))); (with_reducible refine TO.here ?_)) | ((with_reducible apply TX.region); (focus (simp only [] <;> exact rfl)); (focus rfl); (try dsimp only)) | ((with_reducible apply TX.cond_false); (focus rfl); (focus ((simp only [z1, Bool.not_true, h58]; done)))))
                    obtain ⟨⟨v56, v57⟩, h61, hr⟩ := Option.bind_eq_some_iff.1 hr
                    try dsimp only at hr
                    apply TO.cal (by first | rfl | (simp only [twant, z1, z7, h2, h3, h44, h45, h47, h53, h55, h56, h58] <;> rfl)) rfl goFn30 (Spec.ov (ref03_Run_spec h61) (by decide)) rfl rfl rfl
                    (repeat (focus (show _ = _; (simp only [zz, Nat.reduceAdd, shift] <;> exact rfl))))
                    with_reducible apply TO.here
                    repeat (first | (with_reducible first | refine mv ?_ | refine TO.nil ?_) | ((with_reducible first | apply TO.mv | apply TO.ext | apply TO.asg | apply TO.bin); (repeat (focus (show _ = _; first | exact k2 rfl | (simp only [zz] <;> exact rfl)))); (with_reducible refine TO.here ?_)) | ((with_reducible apply TX.region); (focus (simp only [] <;> exact rfl)); (focus rfl); (try dsimp only)))
                    rcases Bool.eq_false_or_eq_true ((decide (v48 = 0))) with h62 | h62
                    · rw [if_pos h62] at hr
                      repeat (first | ((with_reducible apply TO.mv); (repeat (focus (show _ = _; first | exact k2 rfl | (simp only [zz, h62] <;> exact rfl)))); (with_reducible refine TO.here ?_)))
                      obtain ⟨v58, h63, hr⟩ := Option.bind_eq_some_iff.1 hr
                      try dsimp only at hr
                      apply TO.lok (by first | rfl | (simp only [twant, z1, z7, h2, h3, h44, h45, h47, h53, h55, h56, h58, h62] <;> rfl)) rfl goFn28 (Spec.ov (base_Ints_spec h63) (by decide)) (by simp only [view, z1, z3, tmlc] <;> rfl) rfl rfl (by simp [])
                      (repeat (focus (show _ = _; (simp only [zz, shift] <;> exact rfl))))
                      with_reducible apply TO.here
                      repeat (first | ((with_reducible first | apply TO.pk | apply TO.mv); (repeat (focus (show _ = _; first | exact k2 rfl | (simp only [zz] <;> exact rfl)))); (with_reducible refine TO.here ?_)))
                      rcases Bool.eq_false_or_eq_true (v58) with h64 | h64
                      · rw [if_pos h64] at hr
                        repeat (first | (with_reducible first | refine mv ?_ | refine TO.nil ?_) | ((with_reducible first | apply TO.mv | apply TO.bin | apply TO.pk | apply TO.asg); (repeat (focus (show _ = _; first | exact k2 rfl | (simp only [zz, h64] <;> exact rfl)))); (with_reducible refine TO.here ?_)))
                        have hb := Option.some.inj hr
                        first | (cases hb; done) | (refine ⟨.inr rfl, ?_⟩; first | (simp only [hb] <;> exact rfl) | (simp only [h2, h3, h44, h45, h47, h53, h55, h56, h58, h62, h64] at hb; simp only [tresAll, tres, z1, hb, Option.map_some] <;> exact rfl))
                      · rw [if_neg (by rw [h64]; exact Bool.false_ne_true)] at hr
                        repeat (first | (with_reducible first | refine mv ?_ | refine TO.nil ?_) | ((with_reducible first | apply TO.pk | apply TO.asg); (repeat (focus (show _ = _; first | exact k2 rfl | (simp only [zz] <;> exact rfl)))); (with_reducible refine TO.here ?_)) | ((with_reducible apply TO.skip1); (repeat (focus (show _ = _; (simp only [zz, twant, zp, zs, h64] <;> exact rfl)))); (with_reducible refine TO.here ?_)))
                        have hb := Option.some.inj hr
                        first | (cases hb; done) | (refine ⟨.inr rfl, ?_⟩; first | (simp only [tresAll, tres, z1, hb, Option.map_some] <;> exact rfl) | (simp only [h2, h3, h44, h45, h47, h53, h55, h56, h58, h62, h64] at hb; simp only [tresAll, tres, z1, hb, Option.map_some] <;> exact rfl))
                    · rw [if_neg (by rw [h62]; exact Bool.false_ne_true)] at hr
                      repeat (first | (with_reducible first | refine mv ?_ | refine TO.nil ?_) | ((with_reducible first | apply TO.pk | apply TO.mv | apply TO.asg); (repeat (focus (show _ = _; first | exact k2 rfl | (simp only [zz, h62] <;> exact rfl)))); (with_reducible refine TO.here ?_)) | ((with_reducible apply TO.skip1); (repeat (focus (show _ = _; (simp only [zz, twant, zp, zs, h62] <;> exact rfl)))); (with_reducible refine TO.here ?_)))
                      have hb := Option.some.inj hr
                      first | (cases hb; done) | (refine ⟨.inr rfl, ?_⟩; first | (simp only [tresAll, tres, z1, hb, Option.map_some] <;> exact rfl) | (simp only [h2, h3, h44, h45, h47, h53, h55, h56, h58, h62] at hb; simp only [tresAll, tres, z1, hb, Option.map_some] <;> exact rfl))
              · rw [if_neg (by rw [h55]; exact Bool.false_ne_true)] at hr
                repeat (first | (with_reducible first | refine mv ?_ | refine TO.nil ?_) | ((with_reducible first | apply TO.pk | apply TO.asg); (repeat (focus (show _ = _; first | exact k2 rfl | (simp only [zz] <;> exact rfl)))); (with_reducible refine TO.here ?_)) | ((with_reducible apply TO.skip1); (repeat (focus (show _ = _; (simp only [zz, twant, zp, zs, h55] <;> exact rfl)))); (with_reducible refine TO.here ?_)) | ((with_reducible apply TX.region); (focus (simp only [] <;> exact rfl)); (focus rfl); (try dsimp only)) | ((with_reducible apply TX.cond_true); (focus rfl); (focus (rfl))))
                have hb := Option.some.inj hr
                first | (cases hb; done) | (refine ⟨.inr rfl, ?_⟩; first | (simp only [tresAll, tres, z1, hb, Option.map_some] <;> exact rfl) | (simp only [h2, h3, h44, h45, h47, h53, h55] at hb; simp only [tresAll, tres, z1, hb, Option.map_some] <;> exact rfl))
  · rw [if_neg (by rw [h2]; exact Bool.false_ne_true)] at hr
    repeat (first | (with_reducible first | refine mv ?_ | refine TO.nil ?_) | ((with_reducible first | apply TO.pk | apply TO.asg); (repeat (focus (show _ = _; first | exact k2 rfl | (simp only [zz] <;> exact rfl)))); (with_reducible refine TO.here ?_)) | ((with_reducible apply TO.skip1); (repeat (focus (show _ = _; (simp only [zz, twant, zp, zs, h2] <;> exact rfl)))); (with_reducible refine TO.here ?_)) | ((with_reducible apply TX.region); (focus (simp only [] <;> exact rfl)); (focus rfl); (try dsimp only)) | ((with_reducible apply TX.cond_true); (focus rfl); (focus (rfl))))
    have hb := Option.some.inj hr
    first | (cases hb; done) | (refine ⟨.inr rfl, ?_⟩; first | (simp only [] <;> exact rfl) | (simp only [h2] at hb; simp only [tresAll, tres, z1, hb, Option.map_some] <;> exact rfl))

end Go.Rex
