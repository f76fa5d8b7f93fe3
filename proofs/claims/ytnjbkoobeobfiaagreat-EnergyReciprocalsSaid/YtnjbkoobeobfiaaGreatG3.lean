/- Proofs that the program's functions do what these plain functions say. -/
import Derived.Test.YtnjbkoobeobfiaaGreatGB
import Derived.Test.YtnjbkoobeobfiaaGreatS
import Derived.Test.YtnjbkoobeobfiaaGreatG1
import Derived.Test.YtnjbkoobeobfiaaGreatG2
set_option linter.unusedSimpArgs false
set_option linter.unusedVariables false
set_option linter.defProp false
namespace Go.Rex
open Go.Proofs
open Go Go.Rex Go.RowKit
set_option maxRecDepth 100000
set_option maxHeartbeats 4000000
def y33:=an @ag3 <| an @ag44 <| an @ag46 <| an @cs3 <| an @cs46 <| an @fd46_1 <| an @ok3 <| an @ok46 <| an @so44 <| an @ub4 <| an @zc46 <| @wi64_0a1
theorem law03_EnergyReciprocals_law {v1 : (List (List Int))} {v2 : (List Int)} {v3 : (List Int)} (hr : law03_EnergyReciprocals v1 v2 v3 = some true) {Fz : Nat → Prop} {h : List Blk} {vs : List Value} (hfz : ∀ n, Fz n → n < h.length) (hargs : VLs Fz h noL [.agg [.list 1 (v1.map e_Li_), .list 1 (v2.map e_i)], .list 1 (v3.map e_i)] vs)
    {B lo : Nat} {D : Nat → Prop} {m : NMap} {w : World} {args' : List Value} (hrel : Rel B lo D m h w) (hlo : lo ≤ h.length) (hargs' : VRs D m vs args') : Calls Tryz.prog 8 ⟨args'⟩ w (fun e w'=>e = .returned (.bool true) ∧ Below w.heap.size w w'):=by
  unfold law03_EnergyReciprocals at hr
  refine law_tex follows awake_true Tryz.func8 rfl (tm0:=.agg [.list 1 (v1.map e_Li_),.list 1 (v2.map e_i)] :: .list 1 (v3.map e_i) :: .junk :: .junk :: .junk :: .junk :: .junk :: .junk :: .junk :: .junk :: .junk :: .junk :: .junk :: .junk :: .junk :: .junk :: .junk :: .junk :: .junk :: .junk :: .junk :: .junk :: .junk :: .junk :: .junk :: .junk :: .junk :: .junk :: .junk :: .junk :: .junk :: .junk :: .junk :: .junk :: .junk :: .junk :: .junk :: .junk :: .junk :: .junk :: .junk :: .junk :: .junk :: .junk :: .junk :: .junk :: .junk :: .junk :: .junk :: .junk :: .junk :: .junk :: .junk :: .junk :: .junk :: .junk :: .junk :: .junk :: .junk :: .junk :: .junk :: .junk :: .junk :: .junk :: .junk :: .junk :: .junk :: .junk :: .junk :: .junk :: .junk :: .junk :: .junk :: .junk :: .junk :: .junk :: .junk :: .junk :: .junk :: .junk :: .junk :: .junk :: .junk :: .junk :: .junk :: .junk :: .junk :: .junk :: .junk :: .junk :: .junk :: .junk :: .junk :: .junk :: .junk :: .junk :: .junk :: .junk :: .junk :: .junk :: .junk :: .junk :: .junk :: .junk :: .junk :: .junk :: .junk :: .junk :: .junk :: .junk :: .junk :: .junk :: .junk :: .junk :: .junk :: .junk :: .junk :: .junk :: .junk :: .junk :: .junk :: .junk :: .junk :: []) (by simp [Tryz.f8]<;>exact rfl) ?_ hfz hargs hrel hlo hargs'
  repeat (first|(with_reducible first|refine mv ?_|refine TO.nil ?_)|((with_reducible first|apply TO.bf|apply TO.asg);(repeat (focus (show _ = _;first|exact k1 rfl|exact k2 rfl|(simp only [zz]<;>exact rfl)|exact rfl)));(with_reducible apply TO.here))|((with_reducible apply TX.region);(focus (simp only []<;>exact rfl));(focus rfl);(try dsimp only)))
  apply TO.cal (by first|rfl|(simp only [twant,z1,z7]<;>rfl)) rfl goFn9 Spec.awake rfl rfl rfl
  (repeat (focus (show _ = _;(simp only [zz,shift]<;>exact rfl))))
  with_reducible apply TO.here
  apply TO.pop1 (by first|rfl|(simp only [twant,z1,z7]<;>rfl)) (pop_not rfl)
  (repeat (focus (show _ = _;(simp only [zz]<;>exact rfl))))
  with_reducible apply TO.here
  repeat (first|(with_reducible first|refine mv ?_|refine TO.nil ?_)|((with_reducible first|apply TO.ld|apply TO.mv);(repeat (focus (show _ = _;first|exact k2 rfl|(simp only [zz,y33,Nat.reduceAdd,Nat.reduceLeDiff,tload,rowOf,partT]<;>exact rfl)|exact rfl)));(with_reducible apply TO.here))|((with_reducible apply TX.region);(focus (simp only []<;>exact rfl));(focus rfl);(try dsimp only))|((with_reducible apply TX.cond_false);(focus rfl);(focus (rfl))))
  obtain ⟨v5,h1,hr⟩:=Option.bind_eq_some_iff.1 hr
  try dsimp only at hr
  apply TO.cal (by first|rfl|(simp only [twant,z1,z7]<;>rfl)) rfl goFn19 (Spec.ov (law03_patches_spec h1) (by decide)) rfl rfl rfl
  (repeat (focus (show _ = _;(simp only [zz,shift]<;>exact rfl))))
  with_reducible apply TO.here
  apply TO.pop1 (by first|rfl|(simp only [twant,z1,z7]<;>rfl)) (pop_not rfl)
  (repeat (focus (show _ = _;(simp only [zz]<;>exact rfl))))
  with_reducible apply TO.here
  repeat (first|(with_reducible first|refine mv ?_|refine TO.nil ?_))
  rcases Bool.eq_false_or_eq_true (v5) with h2|h2
  · rw [if_pos h2] at hr
    repeat (first|with_reducible refine mv ?_|((with_reducible apply TO.ld);(repeat (focus (show _ = _;first|exact k2 rfl|(simp only [zz,y33,Nat.reduceAdd,Nat.reduceLeDiff,tload,rowOf,partT,h2]<;>exact rfl)|exact rfl)));(with_reducible apply TO.here))|((with_reducible apply TX.region);(focus (simp only []<;>exact rfl));(focus rfl);(try dsimp only))|((with_reducible apply TX.cond_false);(focus rfl);(focus ((simp only [z1,Bool.not_true,h2];done)))))
    obtain ⟨⟨v6,v7⟩,h3,hr⟩:=Option.bind_eq_some_iff.1 hr
    try dsimp only at hr
    apply TO.cal (by first|rfl|(simp only [twant,z1,z7,h2]<;>rfl)) rfl goFn21 (Spec.ov (ref03_CopyExchange_spec h3) (by decide)) rfl rfl rfl
    (repeat (focus (show _ = _;(simp only [zz,Nat.reduceAdd,shift]<;>exact rfl))))
    with_reducible apply TO.here
    repeat (first|((with_reducible apply TO.mv);(repeat (focus (show _ = _;first|exact k2 rfl|(simp only [zz]<;>exact rfl))));(with_reducible apply TO.here)))
    obtain ⟨v8,h4,hr⟩:=Option.bind_eq_some_iff.1 hr
    try dsimp only at hr
    apply TO.cal (by first|rfl|(simp only [twant,z1,z7,h2]<;>rfl)) rfl goFn23 (Spec.ov (base_CopyInts_spec h4) (by decide)) rfl rfl rfl
    (repeat (focus (show _ = _;(simp only [zz,Nat.reduceAdd,shift]<;>exact rfl))))
    with_reducible apply TO.here
    obtain ⟨⟨v9,v10⟩,h5,hr⟩:=Option.bind_eq_some_iff.1 hr
    try dsimp only at hr
    apply TO.lok (by first|rfl|(simp only [twant,z1,z7,h2]<;>rfl)) rfl goFn38 (Spec.ov (energy_IsReciprocal_spec h5) (by decide)) (by simp only [view,z1,z3,tmlc]<;>rfl) rfl rfl (by simp [])
    (repeat (focus (show _ = _;(simp only [zz,Nat.reduceAdd,shift]<;>exact rfl))))
    with_reducible apply TO.here
    repeat (first|(with_reducible first|refine mv ?_|refine TO.nil ?_)|((with_reducible first|apply TO.mv|apply TO.ext|apply TO.asg|apply TO.ld);(repeat (focus (show _ = _;first|exact k2 rfl|(simp only [zz,y33,Nat.reduceAdd,Nat.reduceLeDiff,tload,rowOf,partT]<;>exact rfl)|exact rfl)));(with_reducible apply TO.here))|((with_reducible apply TX.region);(focus (simp only []<;>exact rfl));(focus rfl);(try dsimp only)))
    obtain ⟨⟨v11,v12⟩,h6,hr⟩:=Option.bind_eq_some_iff.1 hr
    try dsimp only at hr
    apply TO.cal (by first|rfl|(simp only [twant,z1,z7,h2]<;>rfl)) rfl goFn25 (Spec.ov (ref03_CheckExchange_spec h6) (by decide)) rfl rfl rfl
    (repeat (focus (show _ = _;(simp only [zz,Nat.reduceAdd,shift]<;>exact rfl))))
    with_reducible apply TO.here
    repeat (first|(with_reducible first|refine mv ?_|refine TO.nil ?_)|((with_reducible first|apply TO.mv|apply TO.ext|apply TO.asg|apply TO.bin);(repeat (focus (show _ = _;first|exact k2 rfl|(simp only [zz]<;>exact rfl))));(with_reducible apply TO.here))|((with_reducible apply TX.region);(focus (simp only []<;>exact rfl));(focus rfl);(try dsimp only)))
    rcases Bool.eq_false_or_eq_true ((decide (v12 = 0))) with h7|h7
    · rw [if_pos h7] at hr
      repeat (first|((with_reducible first|apply TO.ld|apply TO.mv);(repeat (focus (show _ = _;first|exact k2 rfl|(simp only [zz,y33,Nat.reduceAdd,Nat.reduceLeDiff,tload,rowOf,partT,h7]<;>exact rfl)|exact rfl)));(with_reducible apply TO.here))|((with_reducible apply TX.region);(focus (simp only []<;>exact rfl));(focus rfl);(try dsimp only))|((with_reducible apply TX.cond_true);(focus rfl);(focus ((simp only [z1,Bool.not_true,h7];done)))))
      obtain ⟨v13,h8,hr⟩:=Option.bind_eq_some_iff.1 hr
      try dsimp only at hr
      apply TO.cal (by first|rfl|(simp only [twant,z1,z7,h2,h7]<;>rfl)) rfl goFn39 (Spec.ov (ref03_AreasErr_spec h8) (by decide)) rfl rfl rfl
      (repeat (focus (show _ = _;(simp only [zz,shift]<;>exact rfl))))
      with_reducible apply TO.here
      repeat (first|(with_reducible first|refine mv ?_|refine TO.nil ?_)|((with_reducible first|apply TO.asg|apply TO.mv|apply TO.bin);(repeat (focus (show _ = _;first|exact k2 rfl|(simp only [zz]<;>exact rfl))));(with_reducible apply TO.here))|((with_reducible apply TX.region);(focus (simp only []<;>exact rfl));(focus rfl);(try dsimp only)))
      rcases Bool.eq_false_or_eq_true ((decide (v13 ≠ 0))) with h9|h9
      · rw [if_pos h9] at hr
        repeat (first|with_reducible refine mv ?_|((with_reducible first|apply TO.mv|apply TO.bin);(repeat (focus (show _ = _;first|exact k2 rfl|(simp only [zz,h9]<;>exact rfl))));(with_reducible apply TO.here))|((with_reducible apply TX.region);(focus (simp only []<;>exact rfl));(focus rfl);(try dsimp only))|((with_reducible apply TX.cond_true);(focus rfl);(focus ((simp only [z1,Bool.not_true,h9];done)))))
        rcases Bool.eq_false_or_eq_true ((decide (v10 = v13))) with h10|h10
        · rw [if_pos h10] at hr
          repeat (first|((with_reducible apply TO.mv);(repeat (focus (show _ = _;(simp only [zz,h10]<;>exact rfl))));(with_reducible apply TO.here)))
          apply TO.pop1 (by first|rfl|(simp only [twant,z1,z7,h2,h7,h9,h10]<;>rfl)) (pop_not rfl)
          (repeat (focus (show _ = _;(simp only [zz]<;>exact rfl))))
          with_reducible apply TO.here
          repeat (first|(with_reducible first|refine mv ?_|refine TO.nil ?_)|((with_reducible first|apply TO.pk|apply TO.asg);(repeat (focus (show _ = _;first|exact k2 rfl|(simp only [zz]<;>exact rfl))));(with_reducible apply TO.here)))
          have hb:=Option.some.inj hr
          first|(cases hb;done)|(refine ⟨.inr rfl,?_⟩;first|(simp only [hb]<;>exact rfl)|(simp only [h2,h7,h9,h10] at hb;simp only [tresAll,tres,z1,hb,Option.map_some]<;>exact rfl))
        · rw [if_neg (by rw [h10];exact Bool.false_ne_true)] at hr
          repeat (first|(with_reducible first|refine mv ?_|refine TO.nil ?_)|((with_reducible first|apply TO.pk|apply TO.asg);(repeat (focus (show _ = _;first|exact k2 rfl|(simp only [zz]<;>exact rfl))));(with_reducible apply TO.here))|((with_reducible apply TO.skip1);(repeat (focus (show _ = _;(simp only [zz,twant,zp,zs,h10]<;>exact rfl))));(with_reducible apply TO.here)))
          have hb:=Option.some.inj hr
          first|(cases hb;done)|(refine ⟨.inr rfl,?_⟩;first|(simp only [tresAll,tres,z1,hb,Option.map_some]<;>exact rfl)|(simp only [h2,h7,h9,h10] at hb;simp only [tresAll,tres,z1,hb,Option.map_some]<;>exact rfl))
      · rw [if_neg (by rw [h9];exact Bool.false_ne_true)] at hr
        repeat (first|with_reducible refine mv ?_|((with_reducible first|apply TO.mv|apply TO.bin);(repeat (focus (show _ = _;first|exact k2 rfl|(simp only [zz,h9]<;>exact rfl))));(with_reducible apply TO.here))|((with_reducible apply TX.region);(focus (simp only []<;>exact rfl));(focus rfl);(try dsimp only))|((with_reducible apply TX.cond_false);(focus rfl);(focus ((simp only [z1,Bool.not_true,h9];done)))))
        rcases Bool.eq_false_or_eq_true ((decide (v10 ≠ 0))) with h11|h11
        · rw [if_pos h11] at hr
          repeat (first|(with_reducible first|refine mv ?_|refine TO.nil ?_)|((with_reducible first|apply TO.pk|apply TO.asg);(repeat (focus (show _ = _;first|exact k2 rfl|(simp only [zz]<;>exact rfl))));(with_reducible apply TO.here))|((with_reducible apply TO.skip1);(repeat (focus (show _ = _;(simp only [zz,twant,zp,zs,h11]<;>exact rfl))));(with_reducible apply TO.here))|((with_reducible apply TX.region);(focus (simp only []<;>exact rfl));(focus rfl);(try dsimp only))|((with_reducible apply TX.cond_true);(focus rfl);(focus (rfl))))
          have hb:=Option.some.inj hr
          first|(cases hb;done)|(refine ⟨.inr rfl,?_⟩;first|(simp only [tresAll,tres,z1,hb,Option.map_some]<;>exact rfl)|(simp only [h2,h7,h9,h11] at hb;simp only [tresAll,tres,z1,hb,Option.map_some]<;>exact rfl))
        · rw [if_neg (by rw [h11];exact Bool.false_ne_true)] at hr
          repeat (first|((with_reducible first|apply TO.mv|apply TO.ld);(repeat (focus (show _ = _;first|exact k2 rfl|(simp only [zz,y33,Nat.reduceAdd,Nat.reduceLeDiff,tload,rowOf,partT,h11]<;>exact rfl)|exact rfl)));(with_reducible apply TO.here)))
          obtain ⟨v14,h12,hr⟩:=Option.bind_eq_some_iff.1 hr
          try dsimp only at hr
          apply TO.cal (by first|rfl|(simp only [twant,z1,z7,h2,h7,h9,h11]<;>rfl)) rfl goFn40 (Spec.ov (ref03_IsReciprocal_spec h12) (by decide)) rfl rfl rfl
          (repeat (focus (show _ = _;(simp only [zz,shift]<;>exact rfl))))
          with_reducible apply TO.here
          apply TO.pop1 (by first|rfl|(simp only [twant,z1,z7,h2,h7,h9,h11]<;>rfl)) (pop_beq rfl rfl ub4).2
          (repeat (focus (show _ = _;(simp only [zz]<;>exact rfl))))
          with_reducible apply TO.here
          repeat (first|(with_reducible first|refine mv ?_|refine TO.nil ?_)|((with_reducible apply TO.pk);(repeat (focus (show _ = _;first|exact k2 rfl|(simp only [zz]<;>exact rfl))));(with_reducible apply TO.here)))
          rcases Bool.eq_false_or_eq_true ((v9 == v14)) with h13|h13
          · rw [if_pos h13] at hr
            repeat (first|with_reducible refine mv ?_|((with_reducible apply TO.mv);(repeat (focus (show _ = _;first|exact k2 rfl|(simp only [zz,h13]<;>exact rfl))));(with_reducible apply TO.here))|((with_reducible apply TX.region);(focus (simp only []<;>exact rfl));(focus rfl);(try dsimp only))|((with_reducible apply TX.cond_false);(focus rfl);(focus ((simp only [z1,Bool.not_true,h13];done)))))
            apply TO.pop1 (by first|rfl|(simp only [twant,z1,z7,h2,h7,h9,h11,h13]<;>rfl)) (pop_not rfl)
            (repeat (focus (show _ = _;(simp only [zz]<;>exact rfl))))
            with_reducible apply TO.here
            repeat (first|(with_reducible first|refine mv ?_|refine TO.nil ?_))
            rcases Bool.eq_false_or_eq_true (v9) with h14|h14
            · rw [if_pos h14] at hr
              repeat (first|with_reducible refine mv ?_|((with_reducible apply TO.ld);(repeat (focus (show _ = _;first|exact k2 rfl|(simp only [zz,y33,Nat.reduceAdd,Nat.reduceLeDiff,tload,rowOf,partT,h14]<;>exact rfl)|exact rfl)));(with_reducible apply TO.here))|((with_reducible apply TX.region);(focus (simp only []<;>exact rfl));(focus rfl);(try dsimp only))|((with_reducible apply TX.cond_false);(focus rfl);(focus ((simp only [z1,Bool.not_true,h14];done)))))
              obtain ⟨⟨v15,v16⟩,h15,hr⟩:=Option.bind_eq_some_iff.1 hr
              try dsimp only at hr
              apply TO.cal (by first|rfl|(simp only [twant,z1,z7,h2,h7,h9,h11,h13,h14]<;>rfl)) rfl goFn21 (Spec.ov (ref03_CopyExchange_spec h15) (by decide)) rfl rfl rfl
              (repeat (focus (show _ = _;(simp only [zz,Nat.reduceAdd,shift]<;>exact rfl))))
              with_reducible apply TO.here
              repeat (first|(with_reducible first|refine mv ?_|refine TO.nil ?_)|((with_reducible first|apply TO.al|apply TO.sv|apply TO.asg);(repeat (focus (show _ = _;first|exact k1 rfl|exact k2 rfl|(simp only [zz,y33,Nat.reduceAdd]<;>exact rfl))));(with_reducible apply TO.here))|((with_reducible apply TX.region);(focus (simp only []<;>exact rfl));(focus rfl);(try dsimp only)))
              obtain ⟨v22,h20,hr⟩:=Option.bind_eq_some_iff.1 hr
              try dsimp only at hr
              refine TX.loopE (step:=law03_EnergyReciprocals_l1) (x:=(v16,0)) h20 (fun (v17,v18)=>⟨.junk :: .list 1 (v3.map e_i) :: .junk :: .junk :: .junk :: .junk :: .junk :: .junk :: .junk :: .lptr 0 0 0 :: .v (.int .i64 v18) :: .junk :: .junk :: .junk :: .junk :: .junk :: .junk :: .junk :: .junk :: .junk :: .junk :: .junk :: .junk :: .junk :: .junk :: .junk :: .junk :: .junk :: .junk :: .junk :: .junk :: .junk :: .junk :: .junk :: .junk :: .junk :: .junk :: .junk :: .junk :: .junk :: .junk :: .junk :: .junk :: .junk :: .junk :: .junk :: .junk :: .junk :: .junk :: .junk :: .junk :: .junk :: .junk :: .junk :: .junk :: .junk :: .junk :: .junk :: .junk :: .junk :: .junk :: .junk :: .junk :: .junk :: .junk :: .junk :: .junk :: .junk :: .junk :: .junk :: .junk :: .junk :: .junk :: .junk :: .junk :: .junk :: .junk :: .junk :: .junk :: .junk :: .junk :: .junk :: .junk :: .junk :: .junk :: .junk :: .junk :: .junk :: .junk :: .junk :: .junk :: .junk :: .junk :: .junk :: .junk :: .junk :: .junk :: .junk :: .junk :: .junk :: .junk :: .junk :: .junk :: .junk :: .junk :: .junk :: .junk :: .junk :: .junk :: .junk :: .junk :: .junk :: .junk :: .junk :: .junk :: .junk :: .junk :: .junk :: .junk :: .junk :: .junk :: .junk :: .junk :: [],[.var [.lsl 1 0 v15.length,.lsl 2 0 v17.length],.rows 1 (v15.map e_Li_),.rows 1 (v17.map e_i)]⟩) (fun v20=>(.exit 0,⟨.junk :: .list 1 (v3.map e_i) :: .junk :: .junk :: .junk :: .junk :: .junk :: .junk :: .junk :: .lptr 0 0 0 :: .junk :: .junk :: .junk :: .junk :: .junk :: .junk :: .junk :: .junk :: .junk :: .junk :: .junk :: .junk :: .junk :: .junk :: .junk :: .junk :: .junk :: .junk :: .junk :: .junk :: .junk :: .junk :: .junk :: .junk :: .junk :: .junk :: .junk :: .junk :: .junk :: .junk :: .junk :: .junk :: .junk :: .junk :: .junk :: .junk :: .junk :: .junk :: .junk :: .junk :: .junk :: .junk :: .junk :: .junk :: .junk :: .junk :: .junk :: .junk :: .junk :: .junk :: .junk :: .junk :: .junk :: .junk :: .junk :: .junk :: .junk :: .junk :: .junk :: .junk :: .junk :: .junk :: .junk :: .junk :: .junk :: .junk :: .junk :: .junk :: .junk :: .junk :: .junk :: .junk :: .junk :: .junk :: .junk :: .junk :: .junk :: .junk :: .junk :: .junk :: .junk :: .junk :: .junk :: .junk :: .junk :: .junk :: .junk :: .junk :: .junk :: .junk :: .junk :: .junk :: .junk :: .junk :: .junk :: .junk :: .junk :: .junk :: .junk :: .junk :: .junk :: .junk :: .junk :: .junk :: .junk :: .junk :: .junk :: .junk :: .junk :: .junk :: .junk :: .junk :: .junk :: [],[.var [.lsl 1 0 v15.length,.lsl 2 0 v20.length],.rows 1 (v15.map e_Li_),.rows 1 (v20.map e_i)]⟩)) ?_ ?_ ?_ ?_
              · rintro ⟨v17,v18⟩ v0 hr
                dsimp only [law03_EnergyReciprocals_l1] at hr
                try dsimp only
                repeat (first|(with_reducible first|refine mv ?_|refine TO.nil ?_)|((with_reducible first|apply TO.mv|apply TO.fa|apply TO.ld|apply TO.len|apply TO.bin);(repeat (focus (show _ = _;first|exact k2 rfl|(simp only [zz,y33,Nat.reduceAdd,tfieldAddr,tload,rowOf,partT,tlen]<;>exact rfl)|exact rfl)));(with_reducible apply TO.here))|((with_reducible apply TX.region);(focus (simp only []<;>exact rfl));(focus rfl);(try dsimp only)))
                rcases Bool.eq_false_or_eq_true ((decide (v18 < (v17.length : Int)))) with h18|h18
                · rw [if_pos h18] at hr
                  repeat (first|with_reducible refine mv ?_|((with_reducible first|apply TO.fa|apply TO.ld|apply TO.mv);(repeat (focus (show _ = _;first|exact k2 rfl|(simp only [zz,y33,Nat.reduceAdd,tfieldAddr,tload,rowOf,partT,h18]<;>exact rfl)|exact rfl)));(with_reducible apply TO.here))|((with_reducible apply TX.region);(focus (simp only []<;>exact rfl));(focus rfl);(try dsimp only))|((with_reducible apply TX.cond_true);(focus rfl);(focus ((simp only [z1,h18];done)))))
                  obtain ⟨v21,h19,hr⟩:=Option.bind_eq_some_iff.1 hr
                  try dsimp only at hr
                  have h19m:=tidx_map (f:=e_i) h19
                  have h19l:=getI_lt h19
                  try simp only [List.length_set] at h19l
                  have h19a:=getI_at h19
                  repeat (first|((with_reducible apply TO.ia);(repeat (focus (show _ = _;first|exact k2 rfl|(simp only [zz,y33,tindexAddr,Nat.zero_add,h19l]<;>exact rfl))));(with_reducible apply TO.here)))
                  apply TO.sr e_i v17 v21 0 h19a (by first|rfl|(simp only [twant,z1,z7,h2,h7,h9,h11,h13,h14,h18,h19m,h19l,h19a]<;>rfl)) rfl rfl rfl rfl rfl ok3 (by rw [cs3];rfl) rfl rfl rfl rfl
                  (repeat (focus (show _ = _;(simp only [zz]<;>exact rfl))))
                  with_reducible apply TO.here
                  repeat (first|(with_reducible first|refine mv ?_|refine TO.nil ?_)|((with_reducible first|apply TO.mv|apply TO.bin|apply TO.asg);(repeat (focus (show _ = _;first|exact k2 rfl|(simp only [zz]<;>exact rfl))));(with_reducible apply TO.here))|((with_reducible apply TX.region);(focus (simp only []<;>exact rfl));(focus rfl);(try dsimp only)))
                  cases hr
                  refine ⟨rfl,?_⟩
                  exact Wk.ren [some 0,some 1,some 2] rfl (rv (.rows (.rows .nil rfl rfl) rfl rfl) rfl) (by (repeat (first|exact RNs.nil|refine RNs.cons .junk ?_|refine RNs.cons (.keep rfl rfl) ?_|refine RNs.cons (.lptr rfl) ?_)))
                · rw [if_neg (by rw [h18];exact Bool.false_ne_true)] at hr
                  repeat (first|with_reducible refine mv ?_|((with_reducible apply TX.cond_false);(focus rfl);(focus ((simp only [z1,h18];done)))))
                  cases hr
                  refine ⟨rfl,?_⟩
                  exact Wk.ren [some 0,some 1,some 2] rfl (rv (.rows (.rows .nil rfl rfl) rfl rfl) rfl) (by (repeat (first|exact RNs.nil|refine RNs.cons .junk ?_|refine RNs.cons (.keep rfl rfl) ?_|refine RNs.cons (.lptr rfl) ?_)))
              · intro e h;cases h
              · try dsimp only
                repeat (first|with_reducible refine mv ?_|((with_reducible first|apply TD.ld|apply TD.mv);(repeat (focus (show _ = _;first|exact k2 rfl|(simp only [zz,y33,Nat.reduceAdd,Nat.reduceLeDiff,tload,rowOf,partT]<;>exact rfl)|exact rfl)));(with_reducible refine TD.here ?_))|((with_reducible apply TX.drawn);(focus decide +kernel);(focus (simp only []<;>exact rfl));(focus exact rfl);(try dsimp only)))
                obtain ⟨v23,h21,hr⟩:=Option.bind_eq_some_iff.1 hr
                try dsimp only at hr
                first|apply TD.cal (by first|rfl|(simp only [twant,z1,z7,h2,h7,h9,h11,h13,h14]<;>rfl)) rfl goFn23 (Spec.ov (base_CopyInts_spec h21) (by decide)) rfl rfl rfl|apply TD.calw (by first|rfl|(simp only [twant,z1,z7,h2,h7,h9,h11,h13,h14]<;>rfl)) rfl goFn23 (Spec.ov (base_CopyInts_spec h21) (by decide)) rfl rfl rfl rfl
                (repeat (focus (show _ = _;(simp only [zz,Nat.reduceAdd,shift]<;>exact rfl))))
                with_reducible apply TD.here
                obtain ⟨⟨v24,v25,v26⟩,h22,hr⟩:=Option.bind_eq_some_iff.1 hr
                try dsimp only at hr
                first|apply TD.lok (by first|rfl|(simp only [twant,z1,z7,h2,h7,h9,h11,h13,h14]<;>rfl)) rfl goFn22 (Spec.ov (energy_Step_spec h22) (by decide)) (by simp only [view,z1,z3,tmlc]<;>rfl) rfl rfl (by simp [clTB,cl,e_i])|apply TD.lokw (by first|rfl|(simp only [twant,z1,z7,h2,h7,h9,h11,h13,h14]<;>rfl)) rfl goFn22 (Spec.ov (energy_Step_spec h22) (by decide)) (by simp only [view,z1,z3,zl,tml,tmlc,List.length_set,Nat.reduceEqDiff,if_false]<;>rfl) rfl rfl (by simp [clTB,cl,e_i,e_Li_]) rfl
                (repeat (focus (show _ = _;(simp only [zz,Nat.reduceAdd,shift]<;>exact rfl))))
                with_reducible apply TD.here
                repeat (first|with_reducible refine mv ?_|((with_reducible first|apply TO.mv|apply TO.bin);(repeat (focus (show _ = _;first|exact k2 rfl|(simp only [zz]<;>exact rfl))));(with_reducible apply TO.here))|((with_reducible apply TX.region);(focus (simp only []<;>exact rfl));(focus rfl);(try dsimp only))|with_reducible refine TD.nil ?_|((with_reducible first|apply TD.mv|apply TD.ext|apply TD.asg);(repeat (focus (show _ = _;first|exact k2 rfl|(simp only [zz]<;>exact rfl))));(with_reducible refine TD.here ?_)))
                rcases Bool.eq_false_or_eq_true ((decide (v26 ≠ 0))) with h23|h23
                · rw [if_pos h23] at hr
                  repeat (first|(with_reducible first|refine mv ?_|refine TO.nil ?_)|((with_reducible first|apply TO.pk|apply TO.mv|apply TO.asg);(repeat (focus (show _ = _;first|exact k2 rfl|(simp only [zz,h23]<;>exact rfl))));(with_reducible apply TO.here))|((with_reducible apply TO.skip1);(repeat (focus (show _ = _;(simp only [zz,twant,zp,zs,h23]<;>exact rfl))));(with_reducible apply TO.here))|((with_reducible apply TX.region);(focus (simp only []<;>exact rfl));(focus rfl);(try dsimp only))|((with_reducible apply TX.cond_true);(focus rfl);(focus (rfl))))
                  have hb:=Option.some.inj hr
                  first|(cases hb;done)|(refine ⟨.inr rfl,?_⟩;first|(simp only [tresAll,tres,z1,hb,Option.map_some]<;>exact rfl)|(simp only [h2,h7,h9,h11,h13,h14,h23] at hb;simp only [tresAll,tres,z1,hb,Option.map_some]<;>exact rfl))
                · rw [if_neg (by rw [h23];exact Bool.false_ne_true)] at hr
                  repeat (first|((with_reducible first|apply TO.mv|apply TO.bin|apply TO.pk);(repeat (focus (show _ = _;first|exact k2 rfl|(simp only [zz,h23]<;>exact rfl))));(with_reducible apply TO.here)))
                  rcases Bool.eq_false_or_eq_true ((decide (v25 ≠ 0))) with h24|h24
                  · rw [if_pos h24] at hr
                    repeat (first|(with_reducible first|refine mv ?_|refine TO.nil ?_)|((with_reducible first|apply TO.pk|apply TO.asg);(repeat (focus (show _ = _;first|exact k2 rfl|(simp only [zz]<;>exact rfl))));(with_reducible apply TO.here))|((with_reducible apply TO.skip1);(repeat (focus (show _ = _;(simp only [zz,twant,zp,zs,h24]<;>exact rfl))));(with_reducible apply TO.here))|((with_reducible apply TX.region);(focus (simp only []<;>exact rfl));(focus rfl);(try dsimp only))|((with_reducible apply TX.cond_true);(focus rfl);(focus (rfl))))
                    have hb:=Option.some.inj hr
                    first|(cases hb;done)|(refine ⟨.inr rfl,?_⟩;first|(simp only [tresAll,tres,z1,hb,Option.map_some]<;>exact rfl)|(simp only [h2,h7,h9,h11,h13,h14,h23,h24] at hb;simp only [tresAll,tres,z1,hb,Option.map_some]<;>exact rfl))
                  · rw [if_neg (by rw [h24];exact Bool.false_ne_true)] at hr
                    repeat (first|(with_reducible first|refine mv ?_|refine TO.nil ?_)|((with_reducible first|apply TO.mv|apply TO.len|apply TO.bin|apply TO.pk);(repeat (focus (show _ = _;first|exact k2 rfl|(simp only [zz,y33,tlen,h24]<;>exact rfl))));(with_reducible apply TO.here)))
                    rcases Bool.eq_false_or_eq_true ((decide ((v24.length : Int) ≠ (v3.length : Int)))) with h25|h25
                    · rw [if_pos h25] at hr
                      repeat (first|(with_reducible first|refine mv ?_|refine TO.nil ?_)|((with_reducible apply TO.asg);(repeat (focus (show _ = _;first|exact k2 rfl|(simp only [zz,h25]<;>exact rfl))));(with_reducible apply TO.here))|((with_reducible apply TX.region);(focus (simp only []<;>exact rfl));(focus rfl);(try dsimp only))|((with_reducible apply TX.cond_true);(focus rfl);(focus ((simp only [z1,h25];done)))))
                      have hb:=Option.some.inj hr
                      first|(cases hb;done)|(refine ⟨.inr rfl,?_⟩;first|(simp only [tresAll,tres,z1,hb,Option.map_some]<;>exact rfl)|(simp only [h2,h7,h9,h11,h13,h14,h23,h24,h25] at hb;simp only [tresAll,tres,z1,hb,Option.map_some]<;>exact rfl))
                    · rw [if_neg (by rw [h25];exact Bool.false_ne_true)] at hr
                      repeat (first|(with_reducible first|refine mv ?_|refine TO.nil ?_)|((with_reducible first|apply TO.mv|apply TO.len|apply TO.bin|apply TO.asg);(repeat (focus (show _ = _;first|exact k2 rfl|(simp only [zz,y33,tlen,h25]<;>exact rfl))));(with_reducible apply TO.here))|((with_reducible apply TX.region);(focus (simp only []<;>exact rfl));(focus rfl);(try dsimp only))|((with_reducible apply TX.cond_false);(focus rfl);(focus ((simp only [z1,h25];done)))))
                      obtain ⟨v34,h36,hr⟩:=Option.bind_eq_some_iff.1 hr
                      refine TX.loopE (step:=law03_EnergyReciprocals_l2 v3 v24) (x:=0) h36 (fun v27=>⟨.junk :: .list 1 (v3.map e_i) :: .junk :: .junk :: .junk :: .junk :: .junk :: .junk :: .junk :: .junk :: .junk :: .lsl 0 0 v24.length :: .junk :: .junk :: .v (.int .i64 (IntKind.i64.wrap ((v3.length : Int) * (v3.length : Int)))) :: .v (.int .i64 v27) :: .junk :: .junk :: .junk :: .junk :: .junk :: .junk :: .junk :: .junk :: .junk :: .junk :: .junk :: .junk :: .junk :: .junk :: .junk :: .junk :: .junk :: .junk :: .junk :: .junk :: .junk :: .junk :: .junk :: .junk :: .junk :: .junk :: .junk :: .junk :: .junk :: .junk :: .junk :: .junk :: .junk :: .junk :: .junk :: .junk :: .junk :: .junk :: .junk :: .junk :: .junk :: .junk :: .junk :: .junk :: .junk :: .junk :: .junk :: .junk :: .junk :: .junk :: .junk :: .junk :: .junk :: .junk :: .junk :: .junk :: .junk :: .junk :: .junk :: .junk :: .junk :: .junk :: .junk :: .junk :: .junk :: .junk :: .junk :: .junk :: .junk :: .junk :: .junk :: .junk :: .junk :: .junk :: .junk :: .junk :: .junk :: .junk :: .junk :: .junk :: .junk :: .junk :: .junk :: .junk :: .junk :: .junk :: .junk :: .junk :: .junk :: .junk :: .junk :: .junk :: .junk :: .junk :: .junk :: .junk :: .junk :: .junk :: .junk :: .junk :: .junk :: .junk :: .junk :: .junk :: .junk :: .junk :: .junk :: [],[.rows 1 (v24.map e_i)]⟩) (fun e=>match e with|(.inl _)=>(.ret,⟨.junk :: .junk :: .junk :: .junk :: .v (.bool false) :: .junk :: .junk :: .junk :: .junk :: .junk :: .junk :: .junk :: .junk :: .junk :: .junk :: .junk :: .junk :: .junk :: .junk :: .junk :: .junk :: .junk :: .junk :: .junk :: .junk :: .junk :: .junk :: .junk :: .junk :: .junk :: .junk :: .junk :: .junk :: .junk :: .junk :: .junk :: .junk :: .junk :: .junk :: .junk :: .junk :: .junk :: .junk :: .junk :: .junk :: .junk :: .junk :: .junk :: .junk :: .junk :: .junk :: .junk :: .junk :: .junk :: .junk :: .junk :: .junk :: .junk :: .junk :: .junk :: .junk :: .junk :: .junk :: .junk :: .junk :: .junk :: .junk :: .junk :: .junk :: .junk :: .junk :: .junk :: .junk :: .junk :: .junk :: .junk :: .junk :: .junk :: .junk :: .junk :: .junk :: .junk :: .junk :: .junk :: .junk :: .junk :: .junk :: .junk :: .junk :: .junk :: .junk :: .junk :: .junk :: .junk :: .junk :: .junk :: .junk :: .junk :: .junk :: .junk :: .junk :: .junk :: .junk :: .junk :: .junk :: .junk :: .junk :: .junk :: .junk :: .junk :: .junk :: .junk :: .junk :: .junk :: .junk :: .junk :: .junk :: .junk :: .junk :: .junk :: .junk :: .junk :: .junk :: [],[]⟩)|(.inr _)=>(.exit 2,⟨.junk :: .junk :: .junk :: .junk :: .junk :: .junk :: .junk :: .junk :: .junk :: .junk :: .junk :: .junk :: .junk :: .junk :: .junk :: .junk :: .junk :: .junk :: .junk :: .junk :: .junk :: .junk :: .junk :: .junk :: .junk :: .junk :: .junk :: .junk :: .junk :: .junk :: .junk :: .junk :: .junk :: .junk :: .junk :: .junk :: .junk :: .junk :: .junk :: .junk :: .junk :: .junk :: .junk :: .junk :: .junk :: .junk :: .junk :: .junk :: .junk :: .junk :: .junk :: .junk :: .junk :: .junk :: .junk :: .junk :: .junk :: .junk :: .junk :: .junk :: .junk :: .junk :: .junk :: .junk :: .junk :: .junk :: .junk :: .junk :: .junk :: .junk :: .junk :: .junk :: .junk :: .junk :: .junk :: .junk :: .junk :: .junk :: .junk :: .junk :: .junk :: .junk :: .junk :: .junk :: .junk :: .junk :: .junk :: .junk :: .junk :: .junk :: .junk :: .junk :: .junk :: .junk :: .junk :: .junk :: .junk :: .junk :: .junk :: .junk :: .junk :: .junk :: .junk :: .junk :: .junk :: .junk :: .junk :: .junk :: .junk :: .junk :: .junk :: .junk :: .junk :: .junk :: .junk :: .junk :: .junk :: .junk :: .junk :: .junk :: .junk :: .junk :: .junk :: [],[]⟩)) ?_ ?_ ?_ ?_
                      · rintro v27 v0 hr
                        dsimp only [law03_EnergyReciprocals_l2] at hr
                        try dsimp only
                        repeat (first|(with_reducible first|refine mv ?_|refine TO.nil ?_)|((with_reducible first|apply TO.mv|apply TO.len|apply TO.bin);(repeat (focus (show _ = _;first|exact k2 rfl|(simp only [zz,y33,tlen]<;>exact rfl))));(with_reducible apply TO.here))|((with_reducible apply TX.region);(focus (simp only []<;>exact rfl));(focus rfl);(try dsimp only)))
                        rcases Bool.eq_false_or_eq_true ((decide (v27 < (v24.length : Int)))) with h31|h31
                        · rw [if_pos h31] at hr
                          repeat (first|with_reducible refine mv ?_|((with_reducible apply TD.mv);(repeat (focus (show _ = _;first|exact k2 rfl|(simp only [zz,h31]<;>exact rfl))));(with_reducible refine TD.here ?_))|((with_reducible apply TX.drawn);(focus decide +kernel);(focus (simp only []<;>exact rfl));(focus exact rfl);(try dsimp only))|((with_reducible apply TX.cond_true);(focus rfl);(focus ((simp only [z1,h31];done)))))
                          obtain ⟨v31,h32,hr⟩:=Option.bind_eq_some_iff.1 hr
                          try dsimp only at hr
                          have h32m:=tidx_map (f:=e_i) h32
                          have h32l:=getI_lt h32
                          try simp only [List.length_set] at h32l
                          have h32a:=getI_at h32
                          repeat (first|((with_reducible first|apply TD.ia|apply TD.ld|apply TD.mv);(repeat (focus (show _ = _;first|exact k2 rfl|(simp only [zz,y33,e_i,tindexAddr,Nat.zero_add,tload,rowOf,partT,List.getElem?_map,h32l,h32a]<;>exact rfl)|exact rfl)));(with_reducible refine TD.here ?_)))
                          obtain ⟨v32,h33,hr⟩:=Option.bind_eq_some_iff.1 hr
                          try dsimp only at hr
                          have h33m:=tidx_map (f:=e_i) h33
                          have h33l:=getI_lt h33
                          try simp only [List.length_set] at h33l
                          have h33a:=getI_at h33
                          repeat (first|((with_reducible first|apply TD.ia|apply TD.ld|apply TD.mv|apply TD.bin);(repeat (focus (show _ = _;first|exact k2 rfl|(simp only [zz,y33,e_i,tindexAddr,tload,rowOf,partT,h33m]<;>exact rfl)|exact rfl)));(with_reducible refine TD.here ?_)))
                          obtain ⟨v33,h34,hr⟩:=Option.bind_eq_some_iff.1 hr
                          try dsimp only at hr
                          first|apply TD.cal (by first|rfl|(simp only [twant,z1,z7,h2,h7,h9,h11,h13,h14,h23,h24,h25,h31,h32m,h32l,h32a,h33m,h33l,h33a]<;>rfl)) rfl goFn31 (Spec.ov (base_Within_spec h34) (by decide)) rfl rfl rfl|apply TD.calw (by first|rfl|(simp only [twant,z1,z7,h2,h7,h9,h11,h13,h14,h23,h24,h25,h31,h32m,h32l,h32a,h33m,h33l,h33a]<;>rfl)) rfl goFn31 (Spec.ov (base_Within_spec h34) (by decide)) rfl rfl rfl rfl
                          (repeat (focus (show _ = _;(simp only [zz,shift]<;>exact rfl))))
                          with_reducible apply TD.here
                          apply TD.pop1 (by first|rfl|(simp only [twant,z1,z7,h2,h7,h9,h11,h13,h14,h23,h24,h25,h31,h32m,h32l,h32a,h33m,h33l,h33a]<;>rfl)) (pop_not rfl)
                          (repeat (focus (show _ = _;(simp only [zz]<;>exact rfl))))
                          with_reducible apply TD.here
                          repeat (first|(with_reducible first|refine mv ?_|refine TD.nil ?_))
                          rcases Bool.eq_false_or_eq_true (v33) with h35|h35
                          · rw [if_pos h35] at hr
                            repeat (first|(with_reducible first|refine mv ?_|refine TO.nil ?_)|((with_reducible first|apply TO.mv|apply TO.bin|apply TO.asg);(repeat (focus (show _ = _;first|exact k2 rfl|(simp only [zz,h35]<;>exact rfl))));(with_reducible apply TO.here))|((with_reducible apply TX.region);(focus (simp only []<;>exact rfl));(focus rfl);(try dsimp only))|((with_reducible apply TX.cond_false);(focus rfl);(focus ((simp only [z1,Bool.not_true,h35];done)))))
                            cases hr
                            refine ⟨rfl,?_⟩
                            exact Wk.ren [some 0] rfl (.rows .nil rfl rfl) (by (repeat (first|exact RNs.nil|refine RNs.cons .junk ?_|refine RNs.cons (.keep rfl rfl) ?_|refine RNs.cons (.lsl rfl rfl) ?_)))
                          · rw [if_neg (by rw [h35];exact Bool.false_ne_true)] at hr
                            repeat (first|(with_reducible first|refine mv ?_|refine TO.nil ?_)|((with_reducible apply TO.asg);(repeat (focus (show _ = _;first|exact k2 rfl|(simp only [zz,h35]<;>exact rfl))));(with_reducible apply TO.here))|((with_reducible apply TX.region);(focus (simp only []<;>exact rfl));(focus rfl);(try dsimp only))|((with_reducible apply TX.cond_true);(focus rfl);(focus ((simp only [z1,Bool.not_false,h35];done)))))
                            cases hr
                            refine ⟨rfl,?_⟩
                            exact Wk.ren [] rfl .nil (by (repeat (first|exact RNs.nil|refine RNs.cons .junk ?_|refine RNs.cons (.keep rfl rfl) ?_)))
                        · rw [if_neg (by rw [h31];exact Bool.false_ne_true)] at hr
                          repeat (first|with_reducible refine mv ?_|((with_reducible apply TX.cond_false);(focus rfl);(focus ((simp only [z1,h31];done)))))
                          cases hr
                          refine ⟨rfl,?_⟩
                          exact Wk.ren [] rfl .nil (by (repeat (first|exact RNs.nil|refine RNs.cons .junk ?_)))
                      · intro e h;rcases e with _|e<;>cases h
                      · try dsimp only
                        rcases v34 with _|_
                        · try dsimp only at hr
                          try dsimp only
                          repeat (first|with_reducible refine mv ?_)
                          have hb:=Option.some.inj hr
                          first|(cases hb;done)|(refine ⟨.inr rfl,?_⟩;first|(simp only [tresAll,tres,z1,hb,Option.map_some]<;>exact rfl)|(simp only [h2,h7,h9,h11,h13,h14,h23,h24,h25] at hb;simp only [tresAll,tres,z1,hb,Option.map_some]<;>exact rfl))
                        · try dsimp only at hr
                          try dsimp only
                          repeat (first|(with_reducible first|refine mv ?_|refine TO.nil ?_)|((with_reducible apply TO.asg);(repeat (focus (show _ = _;first|exact k2 rfl|(simp only [zz]<;>exact rfl))));(with_reducible apply TO.here))|((with_reducible apply TX.region);(focus (simp only []<;>exact rfl));(focus rfl);(try dsimp only)))
                          have hb:=Option.some.inj hr
                          first|(cases hb;done)|(refine ⟨.inr rfl,?_⟩;first|(simp only []<;>exact rfl)|(simp only [h2,h7,h9,h11,h13,h14,h23,h24,h25] at hb;simp only [tresAll,tres,z1,hb,Option.map_some]<;>exact rfl))
                      · try dsimp only
                        exact Wk.ren [some 4] rfl (.rows .nil rfl rfl) (by (repeat (first|exact RNs.nil|refine RNs.cons .junk ?_|refine RNs.cons (.keep rfl rfl) ?_|refine RNs.cons (.lsl rfl rfl) ?_)))
              · try dsimp only
                exact Wk.ren [some 5,some 3,some 4] rfl (rv (.rows (.rows .nil rfl rfl) rfl rfl) rfl) (by (repeat (first|exact RNs.nil|refine RNs.cons .junk ?_|refine RNs.cons (.keep rfl rfl) ?_|refine RNs.cons (.lptr rfl) ?_)))
            · rw [if_neg (by rw [h14];exact Bool.false_ne_true)] at hr
              repeat (first|(with_reducible first|refine mv ?_|refine TO.nil ?_)|((with_reducible apply TO.asg);(repeat (focus (show _ = _;first|exact k2 rfl|(simp only [zz,h14]<;>exact rfl))));(with_reducible apply TO.here))|((with_reducible apply TX.region);(focus (simp only []<;>exact rfl));(focus rfl);(try dsimp only))|((with_reducible apply TX.cond_true);(focus rfl);(focus ((simp only [z1,zn,h14];done)))))
              have hb:=Option.some.inj hr
              first|(cases hb;done)|(refine ⟨.inr rfl,?_⟩;first|(simp only []<;>exact rfl)|(simp only [h2,h7,h9,h11,h13,h14] at hb;simp only [tresAll,tres,z1,hb,Option.map_some]<;>exact rfl))
          · rw [if_neg (by rw [h13];exact Bool.false_ne_true)] at hr
            repeat (first|(with_reducible first|refine mv ?_|refine TO.nil ?_)|((with_reducible apply TO.asg);(repeat (focus (show _ = _;first|exact k2 rfl|(simp only [zz,h13]<;>exact rfl))));(with_reducible apply TO.here))|((with_reducible apply TX.region);(focus (simp only []<;>exact rfl));(focus rfl);(try dsimp only))|((with_reducible apply TX.cond_true);(focus rfl);(focus ((simp only [z1,zn,h13];done)))))
            have hb:=Option.some.inj hr
            first|(cases hb;done)|(refine ⟨.inr rfl,?_⟩;first|(simp only [tresAll,tres,z1,hb,Option.map_some]<;>exact rfl)|(simp only [h2,h7,h9,h11,h13] at hb;simp only [tresAll,tres,z1,hb,Option.map_some]<;>exact rfl))
    · rw [if_neg (by rw [h7];exact Bool.false_ne_true)] at hr
      repeat (first|(with_reducible first|refine mv ?_|refine TO.nil ?_)|((with_reducible first|apply TO.mv|apply TO.bin);(repeat (focus (show _ = _;first|exact k2 rfl|(simp only [zz,h7]<;>exact rfl))));(with_reducible apply TO.here))|((with_reducible apply TX.region);(focus (simp only []<;>exact rfl));(focus rfl);(try dsimp only))|((with_reducible apply TX.cond_false);(focus rfl);(focus ((simp only [z1,Bool.not_true,h7];done)))))
      rcases Bool.eq_false_or_eq_true ((decide (v12 ≠ 0))) with h37|h37
      · rw [if_pos h37] at hr
        repeat (first|with_reducible refine mv ?_|((with_reducible first|apply TO.mv|apply TO.bin);(repeat (focus (show _ = _;first|exact k2 rfl|(simp only [zz,h37]<;>exact rfl))));(with_reducible apply TO.here))|((with_reducible apply TX.region);(focus (simp only []<;>exact rfl));(focus rfl);(try dsimp only))|((with_reducible apply TX.cond_true);(focus rfl);(focus ((simp only [z1,Bool.not_true,h37];done)))))
        rcases Bool.eq_false_or_eq_true ((decide (v10 = v12))) with h38|h38
        · rw [if_pos h38] at hr
          repeat (first|((with_reducible apply TO.mv);(repeat (focus (show _ = _;(simp only [zz,h38]<;>exact rfl))));(with_reducible apply TO.here)))
          apply TO.pop1 (by first|rfl|(simp only [twant,z1,z7,h2,h7,h37,h38]<;>rfl)) (pop_not rfl)
          (repeat (focus (show _ = _;(simp only [zz]<;>exact rfl))))
          with_reducible apply TO.here
          repeat (first|(with_reducible first|refine mv ?_|refine TO.nil ?_)|((with_reducible first|apply TO.pk|apply TO.asg);(repeat (focus (show _ = _;first|exact k2 rfl|(simp only [zz]<;>exact rfl))));(with_reducible apply TO.here)))
          have hb:=Option.some.inj hr
          first|(cases hb;done)|(refine ⟨.inr rfl,?_⟩;first|(simp only [hb]<;>exact rfl)|(simp only [h2,h7,h37,h38] at hb;simp only [tresAll,tres,z1,hb,Option.map_some]<;>exact rfl))
        · rw [if_neg (by rw [h38];exact Bool.false_ne_true)] at hr
          repeat (first|(with_reducible first|refine mv ?_|refine TO.nil ?_)|((with_reducible first|apply TO.pk|apply TO.asg);(repeat (focus (show _ = _;first|exact k2 rfl|(simp only [zz]<;>exact rfl))));(with_reducible apply TO.here))|((with_reducible apply TO.skip1);(repeat (focus (show _ = _;(simp only [zz,twant,zp,zs,h38]<;>exact rfl))));(with_reducible apply TO.here)))
          have hb:=Option.some.inj hr
          first|(cases hb;done)|(refine ⟨.inr rfl,?_⟩;first|(simp only [tresAll,tres,z1,hb,Option.map_some]<;>exact rfl)|(simp only [h2,h7,h37,h38] at hb;simp only [tresAll,tres,z1,hb,Option.map_some]<;>exact rfl))
      · rw [if_neg (by rw [h37];exact Bool.false_ne_true)] at hr
        repeat (first|with_reducible refine mv ?_|((with_reducible first|apply TO.mv|apply TO.bin);(repeat (focus (show _ = _;first|exact k2 rfl|(simp only [zz,h37]<;>exact rfl))));(with_reducible apply TO.here))|((with_reducible apply TX.region);(focus (simp only []<;>exact rfl));(focus rfl);(try dsimp only))|((with_reducible apply TX.cond_false);(focus rfl);(focus ((simp only [z1,Bool.not_true,h37];done)))))
        rcases Bool.eq_false_or_eq_true ((decide (v10 ≠ 0))) with h39|h39
        · rw [if_pos h39] at hr
          repeat (first|(with_reducible first|refine mv ?_|refine TO.nil ?_)|((with_reducible first|apply TO.pk|apply TO.asg);(repeat (focus (show _ = _;first|exact k2 rfl|(simp only [zz]<;>exact rfl))));(with_reducible apply TO.here))|((with_reducible apply TO.skip1);(repeat (focus (show _ = _;(simp only [zz,twant,zp,zs,h39]<;>exact rfl))));(with_reducible apply TO.here))|((with_reducible apply TX.region);(focus (simp only []<;>exact rfl));(focus rfl);(try dsimp only))|((with_reducible apply TX.cond_true);(focus rfl);(focus (rfl))))
          have hb:=Option.some.inj hr
          first|(cases hb;done)|(refine ⟨.inr rfl,?_⟩;first|(simp only [tresAll,tres,z1,hb,Option.map_some]<;>exact rfl)|(simp only [h2,h7,h37,h39] at hb;simp only [tresAll,tres,z1,hb,Option.map_some]<;>exact rfl))
        · rw [if_neg (by rw [h39];exact Bool.false_ne_true)] at hr
          repeat (first|((with_reducible first|apply TO.mv|apply TO.ld);(repeat (focus (show _ = _;first|exact k2 rfl|(simp only [zz,y33,Nat.reduceAdd,Nat.reduceLeDiff,tload,rowOf,partT,h39]<;>exact rfl)|exact rfl)));(with_reducible apply TO.here)))
          obtain ⟨v35,h40,hr⟩:=Option.bind_eq_some_iff.1 hr
          try dsimp only at hr
          apply TO.cal (by first|rfl|(simp only [twant,z1,z7,h2,h7,h37,h39]<;>rfl)) rfl goFn40 (Spec.ov (ref03_IsReciprocal_spec h40) (by decide)) rfl rfl rfl
          (repeat (focus (show _ = _;(simp only [zz,shift]<;>exact rfl))))
          with_reducible apply TO.here
          apply TO.pop1 (by first|rfl|(simp only [twant,z1,z7,h2,h7,h37,h39]<;>rfl)) (pop_beq rfl rfl ub4).2
          (repeat (focus (show _ = _;(simp only [zz]<;>exact rfl))))
          with_reducible apply TO.here
          repeat (first|(with_reducible first|refine mv ?_|refine TO.nil ?_)|((with_reducible apply TO.pk);(repeat (focus (show _ = _;first|exact k2 rfl|(simp only [zz]<;>exact rfl))));(with_reducible apply TO.here)))
          rcases Bool.eq_false_or_eq_true ((v9 == v35)) with h41|h41
          · rw [if_pos h41] at hr
            repeat (first|with_reducible refine mv ?_|((with_reducible apply TO.mv);(repeat (focus (show _ = _;first|exact k2 rfl|(simp only [zz,h41]<;>exact rfl))));(with_reducible apply TO.here))|((with_reducible apply TX.region);(focus (simp only []<;>exact rfl));(focus rfl);(try dsimp only))|((with_reducible apply TX.cond_false);(focus rfl);(focus ((simp only [z1,Bool.not_true,h41];done)))))
            apply TO.pop1 (by first|rfl|(simp only [twant,z1,z7,h2,h7,h37,h39,h41]<;>rfl)) (pop_not rfl)
            (repeat (focus (show _ = _;(simp only [zz]<;>exact rfl))))
            with_reducible apply TO.here
            repeat (first|(with_reducible first|refine mv ?_|refine TO.nil ?_))
            rcases Bool.eq_false_or_eq_true (v9) with h42|h42
            · rw [if_pos h42] at hr
              repeat (first|with_reducible refine mv ?_|((with_reducible apply TO.ld);(repeat (focus (show _ = _;first|exact k2 rfl|(simp only [zz,y33,Nat.reduceAdd,Nat.reduceLeDiff,tload,rowOf,partT,h42]<;>exact rfl)|exact rfl)));(with_reducible apply TO.here))|((with_reducible apply TX.region);(focus (simp only []<;>exact rfl));(focus rfl);(try dsimp only))|((with_reducible apply TX.cond_false);(focus rfl);(focus ((simp only [z1,Bool.not_true,h42];done)))))
              obtain ⟨⟨v36,v37⟩,h43,hr⟩:=Option.bind_eq_some_iff.1 hr
              try dsimp only at hr
              apply TO.cal (by first|rfl|(simp only [twant,z1,z7,h2,h7,h37,h39,h41,h42]<;>rfl)) rfl goFn21 (Spec.ov (ref03_CopyExchange_spec h43) (by decide)) rfl rfl rfl
              (repeat (focus (show _ = _;(simp only [zz,Nat.reduceAdd,shift]<;>exact rfl))))
              with_reducible apply TO.here
              repeat (first|(with_reducible first|refine mv ?_|refine TO.nil ?_)|((with_reducible first|apply TO.al|apply TO.sv|apply TO.asg);(repeat (focus (show _ = _;first|exact k1 rfl|exact k2 rfl|(simp only [zz,y33,Nat.reduceAdd]<;>exact rfl))));(with_reducible apply TO.here))|((with_reducible apply TX.region);(focus (simp only []<;>exact rfl));(focus rfl);(try dsimp only)))
              obtain ⟨v43,h48,hr⟩:=Option.bind_eq_some_iff.1 hr
              try dsimp only at hr
              refine TX.loopE (step:=law03_EnergyReciprocals_l3) (x:=(v37,0)) h48 (fun (v38,v39)=>⟨.junk :: .list 1 (v3.map e_i) :: .junk :: .junk :: .junk :: .junk :: .junk :: .junk :: .junk :: .lptr 0 0 0 :: .v (.int .i64 v39) :: .junk :: .junk :: .junk :: .junk :: .junk :: .junk :: .junk :: .junk :: .junk :: .junk :: .junk :: .junk :: .junk :: .junk :: .junk :: .junk :: .junk :: .junk :: .junk :: .junk :: .junk :: .junk :: .junk :: .junk :: .junk :: .junk :: .junk :: .junk :: .junk :: .junk :: .junk :: .junk :: .junk :: .junk :: .junk :: .junk :: .junk :: .junk :: .junk :: .junk :: .junk :: .junk :: .junk :: .junk :: .junk :: .junk :: .junk :: .junk :: .junk :: .junk :: .junk :: .junk :: .junk :: .junk :: .junk :: .junk :: .junk :: .junk :: .junk :: .junk :: .junk :: .junk :: .junk :: .junk :: .junk :: .junk :: .junk :: .junk :: .junk :: .junk :: .junk :: .junk :: .junk :: .junk :: .junk :: .junk :: .junk :: .junk :: .junk :: .junk :: .junk :: .junk :: .junk :: .junk :: .junk :: .junk :: .junk :: .junk :: .junk :: .junk :: .junk :: .junk :: .junk :: .junk :: .junk :: .junk :: .junk :: .junk :: .junk :: .junk :: .junk :: .junk :: .junk :: .junk :: .junk :: .junk :: .junk :: .junk :: .junk :: .junk :: .junk :: .junk :: [],[.var [.lsl 1 0 v36.length,.lsl 2 0 v38.length],.rows 1 (v36.map e_Li_),.rows 1 (v38.map e_i)]⟩) (fun v41=>(.exit 0,⟨.junk :: .list 1 (v3.map e_i) :: .junk :: .junk :: .junk :: .junk :: .junk :: .junk :: .junk :: .lptr 0 0 0 :: .junk :: .junk :: .junk :: .junk :: .junk :: .junk :: .junk :: .junk :: .junk :: .junk :: .junk :: .junk :: .junk :: .junk :: .junk :: .junk :: .junk :: .junk :: .junk :: .junk :: .junk :: .junk :: .junk :: .junk :: .junk :: .junk :: .junk :: .junk :: .junk :: .junk :: .junk :: .junk :: .junk :: .junk :: .junk :: .junk :: .junk :: .junk :: .junk :: .junk :: .junk :: .junk :: .junk :: .junk :: .junk :: .junk :: .junk :: .junk :: .junk :: .junk :: .junk :: .junk :: .junk :: .junk :: .junk :: .junk :: .junk :: .junk :: .junk :: .junk :: .junk :: .junk :: .junk :: .junk :: .junk :: .junk :: .junk :: .junk :: .junk :: .junk :: .junk :: .junk :: .junk :: .junk :: .junk :: .junk :: .junk :: .junk :: .junk :: .junk :: .junk :: .junk :: .junk :: .junk :: .junk :: .junk :: .junk :: .junk :: .junk :: .junk :: .junk :: .junk :: .junk :: .junk :: .junk :: .junk :: .junk :: .junk :: .junk :: .junk :: .junk :: .junk :: .junk :: .junk :: .junk :: .junk :: .junk :: .junk :: .junk :: .junk :: .junk :: .junk :: .junk :: [],[.var [.lsl 1 0 v36.length,.lsl 2 0 v41.length],.rows 1 (v36.map e_Li_),.rows 1 (v41.map e_i)]⟩)) ?_ ?_ ?_ ?_
              · rintro ⟨v38,v39⟩ v0 hr
                dsimp only [law03_EnergyReciprocals_l3] at hr
                try dsimp only
                repeat (first|(with_reducible first|refine mv ?_|refine TO.nil ?_)|((with_reducible first|apply TO.mv|apply TO.fa|apply TO.ld|apply TO.len|apply TO.bin);(repeat (focus (show _ = _;first|exact k2 rfl|(simp only [zz,y33,Nat.reduceAdd,tfieldAddr,tload,rowOf,partT,tlen]<;>exact rfl)|exact rfl)));(with_reducible apply TO.here))|((with_reducible apply TX.region);(focus (simp only []<;>exact rfl));(focus rfl);(try dsimp only)))
                rcases Bool.eq_false_or_eq_true ((decide (v39 < (v38.length : Int)))) with h46|h46
                · rw [if_pos h46] at hr
                  repeat (first|with_reducible refine mv ?_|((with_reducible first|apply TO.fa|apply TO.ld|apply TO.mv);(repeat (focus (show _ = _;first|exact k2 rfl|(simp only [zz,y33,Nat.reduceAdd,tfieldAddr,tload,rowOf,partT,h46]<;>exact rfl)|exact rfl)));(with_reducible apply TO.here))|((with_reducible apply TX.region);(focus (simp only []<;>exact rfl));(focus rfl);(try dsimp only))|((with_reducible apply TX.cond_true);(focus rfl);(focus ((simp only [z1,h46];done)))))
                  obtain ⟨v42,h47,hr⟩:=Option.bind_eq_some_iff.1 hr
                  try dsimp only at hr
                  have h47m:=tidx_map (f:=e_i) h47
                  have h47l:=getI_lt h47
                  try simp only [List.length_set] at h47l
                  have h47a:=getI_at h47
                  repeat (first|((with_reducible apply TO.ia);(repeat (focus (show _ = _;first|exact k2 rfl|(simp only [zz,y33,tindexAddr,Nat.zero_add,h47l]<;>exact rfl))));(with_reducible apply TO.here)))
                  apply TO.sr e_i v38 v42 0 h47a (by first|rfl|(simp only [twant,z1,z7,h2,h7,h37,h39,h41,h42,h46,h47m,h47l,h47a]<;>rfl)) rfl rfl rfl rfl rfl ok3 (by rw [cs3];rfl) rfl rfl rfl rfl
                  (repeat (focus (show _ = _;(simp only [zz]<;>exact rfl))))
                  with_reducible apply TO.here
                  repeat (first|(with_reducible first|refine mv ?_|refine TO.nil ?_)|((with_reducible first|apply TO.mv|apply TO.bin|apply TO.asg);(repeat (focus (show _ = _;first|exact k2 rfl|(simp only [zz]<;>exact rfl))));(with_reducible apply TO.here))|((with_reducible apply TX.region);(focus (simp only []<;>exact rfl));(focus rfl);(try dsimp only)))
                  cases hr
                  refine ⟨rfl,?_⟩
                  exact Wk.ren [some 0,some 1,some 2] rfl (rv (.rows (.rows .nil rfl rfl) rfl rfl) rfl) (by (repeat (first|exact RNs.nil|refine RNs.cons .junk ?_|refine RNs.cons (.keep rfl rfl) ?_|refine RNs.cons (.lptr rfl) ?_)))
                · rw [if_neg (by rw [h46];exact Bool.false_ne_true)] at hr
                  repeat (first|with_reducible refine mv ?_|((with_reducible apply TX.cond_false);(focus rfl);(focus ((simp only [z1,h46];done)))))
                  cases hr
                  refine ⟨rfl,?_⟩
                  exact Wk.ren [some 0,some 1,some 2] rfl (rv (.rows (.rows .nil rfl rfl) rfl rfl) rfl) (by (repeat (first|exact RNs.nil|refine RNs.cons .junk ?_|refine RNs.cons (.keep rfl rfl) ?_|refine RNs.cons (.lptr rfl) ?_)))
              · intro e h;cases h
              · try dsimp only
                repeat (first|with_reducible refine mv ?_|((with_reducible first|apply TD.ld|apply TD.mv);(repeat (focus (show _ = _;first|exact k2 rfl|(simp only [zz,y33,Nat.reduceAdd,Nat.reduceLeDiff,tload,rowOf,partT]<;>exact rfl)|exact rfl)));(with_reducible refine TD.here ?_))|((with_reducible apply TX.drawn);(focus decide +kernel);(focus (simp only []<;>exact rfl));(focus exact rfl);(try dsimp only)))
                obtain ⟨v44,h49,hr⟩:=Option.bind_eq_some_iff.1 hr
                try dsimp only at hr
                first|apply TD.cal (by first|rfl|(simp only [twant,z1,z7,h2,h7,h37,h39,h41,h42]<;>rfl)) rfl goFn23 (Spec.ov (base_CopyInts_spec h49) (by decide)) rfl rfl rfl|apply TD.calw (by first|rfl|(simp only [twant,z1,z7,h2,h7,h37,h39,h41,h42]<;>rfl)) rfl goFn23 (Spec.ov (base_CopyInts_spec h49) (by decide)) rfl rfl rfl rfl
                (repeat (focus (show _ = _;(simp only [zz,Nat.reduceAdd,shift]<;>exact rfl))))
                with_reducible apply TD.here
                obtain ⟨⟨v45,v46,v47⟩,h50,hr⟩:=Option.bind_eq_some_iff.1 hr
                try dsimp only at hr
                first|apply TD.lok (by first|rfl|(simp only [twant,z1,z7,h2,h7,h37,h39,h41,h42]<;>rfl)) rfl goFn22 (Spec.ov (energy_Step_spec h50) (by decide)) (by simp only [view,z1,z3,tmlc]<;>rfl) rfl rfl (by simp [clTB,cl,e_i])|apply TD.lokw (by first|rfl|(simp only [twant,z1,z7,h2,h7,h37,h39,h41,h42]<;>rfl)) rfl goFn22 (Spec.ov (energy_Step_spec h50) (by decide)) (by simp only [view,z1,z3,zl,tml,tmlc,List.length_set,Nat.reduceEqDiff,if_false]<;>rfl) rfl rfl (by simp [clTB,cl,e_i,e_Li_]) rfl
                (repeat (focus (show _ = _;(simp only [zz,Nat.reduceAdd,shift]<;>exact rfl))))
                with_reducible apply TD.here
                repeat (first|with_reducible refine mv ?_|((with_reducible first|apply TO.mv|apply TO.bin);(repeat (focus (show _ = _;first|exact k2 rfl|(simp only [zz]<;>exact rfl))));(with_reducible apply TO.here))|((with_reducible apply TX.region);(focus (simp only []<;>exact rfl));(focus rfl);(try dsimp only))|with_reducible refine TD.nil ?_|((with_reducible first|apply TD.mv|apply TD.ext|apply TD.asg);(repeat (focus (show _ = _;first|exact k2 rfl|(simp only [zz]<;>exact rfl))));(with_reducible refine TD.here ?_)))
                rcases Bool.eq_false_or_eq_true ((decide (v47 ≠ 0))) with h51|h51
                · rw [if_pos h51] at hr
                  repeat (first|(with_reducible first|refine mv ?_|refine TO.nil ?_)|((with_reducible first|apply TO.pk|apply TO.mv|apply TO.asg);(repeat (focus (show _ = _;first|exact k2 rfl|(simp only [zz,h51]<;>exact rfl))));(with_reducible apply TO.here))|((with_reducible apply TO.skip1);(repeat (focus (show _ = _;(simp only [zz,twant,zp,zs,h51]<;>exact rfl))));(with_reducible apply TO.here))|((with_reducible apply TX.region);(focus (simp only []<;>exact rfl));(focus rfl);(try dsimp only))|((with_reducible apply TX.cond_true);(focus rfl);(focus (rfl))))
                  have hb:=Option.some.inj hr
                  first|(cases hb;done)|(refine ⟨.inr rfl,?_⟩;first|(simp only [tresAll,tres,z1,hb,Option.map_some]<;>exact rfl)|(simp only [h2,h7,h37,h39,h41,h42,h51] at hb;simp only [tresAll,tres,z1,hb,Option.map_some]<;>exact rfl))
                · rw [if_neg (by rw [h51];exact Bool.false_ne_true)] at hr
                  repeat (first|((with_reducible first|apply TO.mv|apply TO.bin|apply TO.pk);(repeat (focus (show _ = _;first|exact k2 rfl|(simp only [zz,h51]<;>exact rfl))));(with_reducible apply TO.here)))
                  rcases Bool.eq_false_or_eq_true ((decide (v46 ≠ 0))) with h52|h52
                  · rw [if_pos h52] at hr
                    repeat (first|(with_reducible first|refine mv ?_|refine TO.nil ?_)|((with_reducible first|apply TO.pk|apply TO.asg);(repeat (focus (show _ = _;first|exact k2 rfl|(simp only [zz]<;>exact rfl))));(with_reducible apply TO.here))|((with_reducible apply TO.skip1);(repeat (focus (show _ = _;(simp only [zz,twant,zp,zs,h52]<;>exact rfl))));(with_reducible apply TO.here))|((with_reducible apply TX.region);(focus (simp only []<;>exact rfl));(focus rfl);(try dsimp only))|((with_reducible apply TX.cond_true);(focus rfl);(focus (rfl))))
                    have hb:=Option.some.inj hr
                    first|(cases hb;done)|(refine ⟨.inr rfl,?_⟩;first|(simp only [tresAll,tres,z1,hb,Option.map_some]<;>exact rfl)|(simp only [h2,h7,h37,h39,h41,h42,h51,h52] at hb;simp only [tresAll,tres,z1,hb,Option.map_some]<;>exact rfl))
                  · rw [if_neg (by rw [h52];exact Bool.false_ne_true)] at hr
                    repeat (first|(with_reducible first|refine mv ?_|refine TO.nil ?_)|((with_reducible first|apply TO.mv|apply TO.len|apply TO.bin|apply TO.pk);(repeat (focus (show _ = _;first|exact k2 rfl|(simp only [zz,y33,tlen,h52]<;>exact rfl))));(with_reducible apply TO.here)))
                    rcases Bool.eq_false_or_eq_true ((decide ((v45.length : Int) ≠ (v3.length : Int)))) with h53|h53
                    · rw [if_pos h53] at hr
                      repeat (first|(with_reducible first|refine mv ?_|refine TO.nil ?_)|((with_reducible apply TO.asg);(repeat (focus (show _ = _;first|exact k2 rfl|(simp only [zz,h53]<;>exact rfl))));(with_reducible apply TO.here))|((with_reducible apply TX.region);(focus (simp only []<;>exact rfl));(focus rfl);(try dsimp only))|((with_reducible apply TX.cond_true);(focus rfl);(focus ((simp only [z1,h53];done)))))
                      have hb:=Option.some.inj hr
                      first|(cases hb;done)|(refine ⟨.inr rfl,?_⟩;first|(simp only [tresAll,tres,z1,hb,Option.map_some]<;>exact rfl)|(simp only [h2,h7,h37,h39,h41,h42,h51,h52,h53] at hb;simp only [tresAll,tres,z1,hb,Option.map_some]<;>exact rfl))
                    · rw [if_neg (by rw [h53];exact Bool.false_ne_true)] at hr
                      repeat (first|(with_reducible first|refine mv ?_|refine TO.nil ?_)|((with_reducible first|apply TO.mv|apply TO.len|apply TO.bin|apply TO.asg);(repeat (focus (show _ = _;first|exact k2 rfl|(simp only [zz,y33,tlen,h53]<;>exact rfl))));(with_reducible apply TO.here))|((with_reducible apply TX.region);(focus (simp only []<;>exact rfl));(focus rfl);(try dsimp only))|((with_reducible apply TX.cond_false);(focus rfl);(focus ((simp only [z1,h53];done)))))
                      obtain ⟨v55,h64,hr⟩:=Option.bind_eq_some_iff.1 hr
                      refine TX.loopE (step:=law03_EnergyReciprocals_l4 v3 v45) (x:=0) h64 (fun v48=>⟨.junk :: .list 1 (v3.map e_i) :: .junk :: .junk :: .junk :: .junk :: .junk :: .junk :: .junk :: .junk :: .junk :: .lsl 0 0 v45.length :: .junk :: .junk :: .v (.int .i64 (IntKind.i64.wrap ((v3.length : Int) * (v3.length : Int)))) :: .v (.int .i64 v48) :: .junk :: .junk :: .junk :: .junk :: .junk :: .junk :: .junk :: .junk :: .junk :: .junk :: .junk :: .junk :: .junk :: .junk :: .junk :: .junk :: .junk :: .junk :: .junk :: .junk :: .junk :: .junk :: .junk :: .junk :: .junk :: .junk :: .junk :: .junk :: .junk :: .junk :: .junk :: .junk :: .junk :: .junk :: .junk :: .junk :: .junk :: .junk :: .junk :: .junk :: .junk :: .junk :: .junk :: .junk :: .junk :: .junk :: .junk :: .junk :: .junk :: .junk :: .junk :: .junk :: .junk :: .junk :: .junk :: .junk :: .junk :: .junk :: .junk :: .junk :: .junk :: .junk :: .junk :: .junk :: .junk :: .junk :: .junk :: .junk :: .junk :: .junk :: .junk :: .junk :: .junk :: .junk :: .junk :: .junk :: .junk :: .junk :: .junk :: .junk :: .junk :: .junk :: .junk :: .junk :: .junk :: .junk :: .junk :: .junk :: .junk :: .junk :: .junk :: .junk :: .junk :: .junk :: .junk :: .junk :: .junk :: .junk :: .junk :: .junk :: .junk :: .junk :: .junk :: .junk :: .junk :: .junk :: .junk :: [],[.rows 1 (v45.map e_i)]⟩) (fun e=>match e with|(.inl _)=>(.ret,⟨.junk :: .junk :: .junk :: .junk :: .v (.bool false) :: .junk :: .junk :: .junk :: .junk :: .junk :: .junk :: .junk :: .junk :: .junk :: .junk :: .junk :: .junk :: .junk :: .junk :: .junk :: .junk :: .junk :: .junk :: .junk :: .junk :: .junk :: .junk :: .junk :: .junk :: .junk :: .junk :: .junk :: .junk :: .junk :: .junk :: .junk :: .junk :: .junk :: .junk :: .junk :: .junk :: .junk :: .junk :: .junk :: .junk :: .junk :: .junk :: .junk :: .junk :: .junk :: .junk :: .junk :: .junk :: .junk :: .junk :: .junk :: .junk :: .junk :: .junk :: .junk :: .junk :: .junk :: .junk :: .junk :: .junk :: .junk :: .junk :: .junk :: .junk :: .junk :: .junk :: .junk :: .junk :: .junk :: .junk :: .junk :: .junk :: .junk :: .junk :: .junk :: .junk :: .junk :: .junk :: .junk :: .junk :: .junk :: .junk :: .junk :: .junk :: .junk :: .junk :: .junk :: .junk :: .junk :: .junk :: .junk :: .junk :: .junk :: .junk :: .junk :: .junk :: .junk :: .junk :: .junk :: .junk :: .junk :: .junk :: .junk :: .junk :: .junk :: .junk :: .junk :: .junk :: .junk :: .junk :: .junk :: .junk :: .junk :: .junk :: .junk :: .junk :: .junk :: .junk :: [],[]⟩)|(.inr _)=>(.exit 2,⟨.junk :: .junk :: .junk :: .junk :: .junk :: .junk :: .junk :: .junk :: .junk :: .junk :: .junk :: .junk :: .junk :: .junk :: .junk :: .junk :: .junk :: .junk :: .junk :: .junk :: .junk :: .junk :: .junk :: .junk :: .junk :: .junk :: .junk :: .junk :: .junk :: .junk :: .junk :: .junk :: .junk :: .junk :: .junk :: .junk :: .junk :: .junk :: .junk :: .junk :: .junk :: .junk :: .junk :: .junk :: .junk :: .junk :: .junk :: .junk :: .junk :: .junk :: .junk :: .junk :: .junk :: .junk :: .junk :: .junk :: .junk :: .junk :: .junk :: .junk :: .junk :: .junk :: .junk :: .junk :: .junk :: .junk :: .junk :: .junk :: .junk :: .junk :: .junk :: .junk :: .junk :: .junk :: .junk :: .junk :: .junk :: .junk :: .junk :: .junk :: .junk :: .junk :: .junk :: .junk :: .junk :: .junk :: .junk :: .junk :: .junk :: .junk :: .junk :: .junk :: .junk :: .junk :: .junk :: .junk :: .junk :: .junk :: .junk :: .junk :: .junk :: .junk :: .junk :: .junk :: .junk :: .junk :: .junk :: .junk :: .junk :: .junk :: .junk :: .junk :: .junk :: .junk :: .junk :: .junk :: .junk :: .junk :: .junk :: .junk :: .junk :: .junk :: .junk :: [],[]⟩)) ?_ ?_ ?_ ?_
                      · rintro v48 v0 hr
                        dsimp only [law03_EnergyReciprocals_l4] at hr
                        try dsimp only
                        repeat (first|(with_reducible first|refine mv ?_|refine TO.nil ?_)|((with_reducible first|apply TO.mv|apply TO.len|apply TO.bin);(repeat (focus (show _ = _;first|exact k2 rfl|(simp only [zz,y33,tlen]<;>exact rfl))));(with_reducible apply TO.here))|((with_reducible apply TX.region);(focus (simp only []<;>exact rfl));(focus rfl);(try dsimp only)))
                        rcases Bool.eq_false_or_eq_true ((decide (v48 < (v45.length : Int)))) with h59|h59
                        · rw [if_pos h59] at hr
                          repeat (first|with_reducible refine mv ?_|((with_reducible apply TD.mv);(repeat (focus (show _ = _;first|exact k2 rfl|(simp only [zz,h59]<;>exact rfl))));(with_reducible refine TD.here ?_))|((with_reducible apply TX.drawn);(focus decide +kernel);(focus (simp only []<;>exact rfl));(focus exact rfl);(try dsimp only))|((with_reducible apply TX.cond_true);(focus rfl);(focus ((simp only [z1,h59];done)))))
                          obtain ⟨v52,h60,hr⟩:=Option.bind_eq_some_iff.1 hr
                          try dsimp only at hr
                          have h60m:=tidx_map (f:=e_i) h60
                          have h60l:=getI_lt h60
                          try simp only [List.length_set] at h60l
                          have h60a:=getI_at h60
                          repeat (first|((with_reducible first|apply TD.ia|apply TD.ld|apply TD.mv);(repeat (focus (show _ = _;first|exact k2 rfl|(simp only [zz,y33,e_i,tindexAddr,Nat.zero_add,tload,rowOf,partT,List.getElem?_map,h60l,h60a]<;>exact rfl)|exact rfl)));(with_reducible refine TD.here ?_)))
                          obtain ⟨v53,h61,hr⟩:=Option.bind_eq_some_iff.1 hr
                          try dsimp only at hr
                          have h61m:=tidx_map (f:=e_i) h61
                          have h61l:=getI_lt h61
                          try simp only [List.length_set] at h61l
                          have h61a:=getI_at h61
                          repeat (first|((with_reducible first|apply TD.ia|apply TD.ld|apply TD.mv|apply TD.bin);(repeat (focus (show _ = _;first|exact k2 rfl|(simp only [zz,y33,e_i,tindexAddr,tload,rowOf,partT,h61m]<;>exact rfl)|exact rfl)));(with_reducible refine TD.here ?_)))
                          obtain ⟨v54,h62,hr⟩:=Option.bind_eq_some_iff.1 hr
                          try dsimp only at hr
                          first|apply TD.cal (by first|rfl|(simp only [twant,z1,z7,h2,h7,h37,h39,h41,h42,h51,h52,h53,h59,h60m,h60l,h60a,h61m,h61l,h61a]<;>rfl)) rfl goFn31 (Spec.ov (base_Within_spec h62) (by decide)) rfl rfl rfl|apply TD.calw (by first|rfl|(simp only [twant,z1,z7,h2,h7,h37,h39,h41,h42,h51,h52,h53,h59,h60m,h60l,h60a,h61m,h61l,h61a]<;>rfl)) rfl goFn31 (Spec.ov (base_Within_spec h62) (by decide)) rfl rfl rfl rfl
                          (repeat (focus (show _ = _;(simp only [zz,shift]<;>exact rfl))))
                          with_reducible apply TD.here
                          apply TD.pop1 (by first|rfl|(simp only [twant,z1,z7,h2,h7,h37,h39,h41,h42,h51,h52,h53,h59,h60m,h60l,h60a,h61m,h61l,h61a]<;>rfl)) (pop_not rfl)
                          (repeat (focus (show _ = _;(simp only [zz]<;>exact rfl))))
                          with_reducible apply TD.here
                          repeat (first|(with_reducible first|refine mv ?_|refine TD.nil ?_))
                          rcases Bool.eq_false_or_eq_true (v54) with h63|h63
                          · rw [if_pos h63] at hr
                            repeat (first|(with_reducible first|refine mv ?_|refine TO.nil ?_)|((with_reducible first|apply TO.mv|apply TO.bin|apply TO.asg);(repeat (focus (show _ = _;first|exact k2 rfl|(simp only [zz,h63]<;>exact rfl))));(with_reducible apply TO.here))|((with_reducible apply TX.region);(focus (simp only []<;>exact rfl));(focus rfl);(try dsimp only))|((with_reducible apply TX.cond_false);(focus rfl);(focus ((simp only [z1,Bool.not_true,h63];done)))))
                            cases hr
                            refine ⟨rfl,?_⟩
                            exact Wk.ren [some 0] rfl (.rows .nil rfl rfl) (by (repeat (first|exact RNs.nil|refine RNs.cons .junk ?_|refine RNs.cons (.keep rfl rfl) ?_|refine RNs.cons (.lsl rfl rfl) ?_)))
                          · rw [if_neg (by rw [h63];exact Bool.false_ne_true)] at hr
                            repeat (first|(with_reducible first|refine mv ?_|refine TO.nil ?_)|((with_reducible apply TO.asg);(repeat (focus (show _ = _;first|exact k2 rfl|(simp only [zz,h63]<;>exact rfl))));(with_reducible apply TO.here))|((with_reducible apply TX.region);(focus (simp only []<;>exact rfl));(focus rfl);(try dsimp only))|((with_reducible apply TX.cond_true);(focus rfl);(focus ((simp only [z1,Bool.not_false,h63];done)))))
                            cases hr
                            refine ⟨rfl,?_⟩
                            exact Wk.ren [] rfl .nil (by (repeat (first|exact RNs.nil|refine RNs.cons .junk ?_|refine RNs.cons (.keep rfl rfl) ?_)))
                        · rw [if_neg (by rw [h59];exact Bool.false_ne_true)] at hr
                          repeat (first|with_reducible refine mv ?_|((with_reducible apply TX.cond_false);(focus rfl);(focus ((simp only [z1,h59];done)))))
                          cases hr
                          refine ⟨rfl,?_⟩
                          exact Wk.ren [] rfl .nil (by (repeat (first|exact RNs.nil|refine RNs.cons .junk ?_)))
                      · intro e h;rcases e with _|e<;>cases h
                      · try dsimp only
                        rcases v55 with _|_
                        · try dsimp only at hr
                          try dsimp only
                          repeat (first|with_reducible refine mv ?_)
                          have hb:=Option.some.inj hr
                          first|(cases hb;done)|(refine ⟨.inr rfl,?_⟩;first|(simp only [tresAll,tres,z1,hb,Option.map_some]<;>exact rfl)|(simp only [h2,h7,h37,h39,h41,h42,h51,h52,h53] at hb;simp only [tresAll,tres,z1,hb,Option.map_some]<;>exact rfl))
                        · try dsimp only at hr
                          try dsimp only
                          repeat (first|(with_reducible first|refine mv ?_|refine TO.nil ?_)|((with_reducible apply TO.asg);(repeat (focus (show _ = _;first|exact k2 rfl|(simp only [zz]<;>exact rfl))));(with_reducible apply TO.here))|((with_reducible apply TX.region);(focus (simp only []<;>exact rfl));(focus rfl);(try dsimp only)))
                          have hb:=Option.some.inj hr
                          first|(cases hb;done)|(refine ⟨.inr rfl,?_⟩;first|(simp only []<;>exact rfl)|(simp only [h2,h7,h37,h39,h41,h42,h51,h52,h53] at hb;simp only [tresAll,tres,z1,hb,Option.map_some]<;>exact rfl))
                      · try dsimp only
                        exact Wk.ren [some 4] rfl (.rows .nil rfl rfl) (by (repeat (first|exact RNs.nil|refine RNs.cons .junk ?_|refine RNs.cons (.keep rfl rfl) ?_|refine RNs.cons (.lsl rfl rfl) ?_)))
              · try dsimp only
                exact Wk.ren [some 5,some 3,some 4] rfl (rv (.rows (.rows .nil rfl rfl) rfl rfl) rfl) (by (repeat (first|exact RNs.nil|refine RNs.cons .junk ?_|refine RNs.cons (.keep rfl rfl) ?_|refine RNs.cons (.lptr rfl) ?_)))
            · rw [if_neg (by rw [h42];exact Bool.false_ne_true)] at hr
              repeat (first|(with_reducible first|refine mv ?_|refine TO.nil ?_)|((with_reducible apply TO.asg);(repeat (focus (show _ = _;first|exact k2 rfl|(simp only [zz,h42]<;>exact rfl))));(with_reducible apply TO.here))|((with_reducible apply TX.region);(focus (simp only []<;>exact rfl));(focus rfl);(try dsimp only))|((with_reducible apply TX.cond_true);(focus rfl);(focus ((simp only [z1,zn,h42];done)))))
              have hb:=Option.some.inj hr
              first|(cases hb;done)|(refine ⟨.inr rfl,?_⟩;first|(simp only []<;>exact rfl)|(simp only [h2,h7,h37,h39,h41,h42] at hb;simp only [tresAll,tres,z1,hb,Option.map_some]<;>exact rfl))
          · rw [if_neg (by rw [h41];exact Bool.false_ne_true)] at hr
            repeat (first|(with_reducible first|refine mv ?_|refine TO.nil ?_)|((with_reducible apply TO.asg);(repeat (focus (show _ = _;first|exact k2 rfl|(simp only [zz,h41]<;>exact rfl))));(with_reducible apply TO.here))|((with_reducible apply TX.region);(focus (simp only []<;>exact rfl));(focus rfl);(try dsimp only))|((with_reducible apply TX.cond_true);(focus rfl);(focus ((simp only [z1,zn,h41];done)))))
            have hb:=Option.some.inj hr
            first|(cases hb;done)|(refine ⟨.inr rfl,?_⟩;first|(simp only [tresAll,tres,z1,hb,Option.map_some]<;>exact rfl)|(simp only [h2,h7,h37,h39,h41] at hb;simp only [tresAll,tres,z1,hb,Option.map_some]<;>exact rfl))
  · rw [if_neg (by rw [h2];exact Bool.false_ne_true)] at hr
    repeat (first|(with_reducible first|refine mv ?_|refine TO.nil ?_)|((with_reducible apply TO.asg);(repeat (focus (show _ = _;first|exact k2 rfl|(simp only [zz,h2]<;>exact rfl))));(with_reducible apply TO.here))|((with_reducible apply TX.region);(focus (simp only []<;>exact rfl));(focus rfl);(try dsimp only))|((with_reducible apply TX.cond_true);(focus rfl);(focus ((simp only [z1,zn,h2];done)))))
    have hb:=Option.some.inj hr
    first|(cases hb;done)|(refine ⟨.inr rfl,?_⟩;first|(simp only []<;>exact rfl)|(simp only [h2] at hb;simp only [tresAll,tres,z1,hb,Option.map_some]<;>exact rfl))

end Go.Rex
