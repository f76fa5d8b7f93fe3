/- Proofs that the program's functions do what these plain functions say. -/
import Derived.Test.YtnjbkoobeobfiaaGreatGB
import Derived.Test.YtnjbkoobeobfiaaGreatS
import Derived.Test.YtnjbkoobeobfiaaGreatG1
import Derived.Test.YtnjbkoobeobfiaaGreatG2
set_option linter.unusedSimpArgs false
set_option linter.unusedVariables false
set_option linter.defProp false
namespace Go.Rex
open Go.Proofs
open Go Go.Rex Go.RowKit
set_option maxRecDepth 100000
set_option maxHeartbeats 4000000
def y36:=an @ag3 <| an @ag30 <| an @ag46 <| an @ar61 <| an @cs3 <| an @cs30 <| an @cs46 <| an @eqg30 <| an @eqs30 <| an @fd30_0 <| an @fd30_1 <| an @ok3 <| an @ok30 <| an @ok46 <| an @so61 <| an @st30 <| @zc30
theorem law03_EnergyBounded_law {v1 : (List (List Int))} {v2 : (List Int)} {v3 : (List Int)} {v4 : Int} {v5 : Int} (hr : law03_EnergyBounded v1 v2 v3 v4 v5 = some true) {Fz : Nat → Prop} {h : List Blk} {vs : List Value} (hfz : ∀ n, Fz n → n < h.length) (hargs : VLs Fz h noL [.agg [.list 1 (v1.map e_Li_), .list 1 (v2.map e_i)], .list 1 (v3.map e_i), .agg [.v (.int .i64 v4), .v (.int .i64 v5)]] vs)
    {B lo : Nat} {D : Nat → Prop} {m : NMap} {w : World} {args' : List Value} (hrel : Rel B lo D m h w) (hlo : lo ≤ h.length) (hargs' : VRs D m vs args') : Calls Tryz.prog 6 ⟨args'⟩ w (fun e w'=>e = .returned (.bool true) ∧ Below w.heap.size w w'):=by
  unfold law03_EnergyBounded at hr
  refine law_tex follows awake_true Tryz.func6 rfl (tm0:=.agg [.list 1 (v1.map e_Li_),.list 1 (v2.map e_i)] :: .list 1 (v3.map e_i) :: .agg [.v (.int .i64 v4),.v (.int .i64 v5)] :: .junk :: .junk :: .junk :: .junk :: .junk :: .junk :: .junk :: .junk :: .junk :: .junk :: .junk :: .junk :: .junk :: .junk :: .junk :: .junk :: .junk :: .junk :: .junk :: .junk :: .junk :: .junk :: .junk :: .junk :: .junk :: .junk :: .junk :: .junk :: .junk :: .junk :: .junk :: .junk :: .junk :: .junk :: .junk :: .junk :: .junk :: .junk :: .junk :: .junk :: .junk :: .junk :: .junk :: .junk :: .junk :: .junk :: .junk :: .junk :: .junk :: .junk :: .junk :: .junk :: .junk :: .junk :: .junk :: .junk :: .junk :: .junk :: .junk :: .junk :: .junk :: .junk :: .junk :: .junk :: .junk :: .junk :: .junk :: .junk :: .junk :: .junk :: .junk :: .junk :: .junk :: .junk :: .junk :: .junk :: .junk :: .junk :: .junk :: .junk :: .junk :: .junk :: .junk :: .junk :: .junk :: .junk :: .junk :: .junk :: .junk :: .junk :: .junk :: .junk :: .junk :: .junk :: .junk :: .junk :: .junk :: .junk :: .junk :: .junk :: .junk :: .junk :: .junk :: .junk :: .junk :: .junk :: .junk :: .junk :: .junk :: .junk :: .junk :: .junk :: .junk :: .junk :: .junk :: .junk :: .junk :: .junk :: .junk :: []) (by simp [Tryz.f6]<;>exact rfl) ?_ hfz hargs hrel hlo hargs'
  repeat (first|(with_reducible first|refine mv ?_|refine TO.nil ?_)|((with_reducible first|apply TO.bf|apply TO.asg);(repeat (focus (show _ = _;first|exact k1 rfl|exact k2 rfl|(simp only [zz]<;>exact rfl)|exact rfl)));(with_reducible apply TO.here))|((with_reducible apply TX.region);(focus (simp only []<;>exact rfl));(focus rfl);(try dsimp only)))
  apply TO.cal (by first|rfl|(simp only [twant,z1,z7]<;>rfl)) rfl goFn9 Spec.awake rfl rfl rfl
  (repeat (focus (show _ = _;(simp only [zz,shift]<;>exact rfl))))
  with_reducible apply TO.here
  apply TO.pop1 (by first|rfl|(simp only [twant,z1,z7]<;>rfl)) (pop_not rfl)
  (repeat (focus (show _ = _;(simp only [zz]<;>exact rfl))))
  with_reducible apply TO.here
  repeat (first|(with_reducible first|refine mv ?_|refine TO.nil ?_)|((with_reducible first|apply TO.ld|apply TO.mv);(repeat (focus (show _ = _;first|exact k2 rfl|(simp only [zz,y36,Nat.reduceAdd,Nat.reduceLeDiff,tload,rowOf,partT]<;>exact rfl)|exact rfl)));(with_reducible apply TO.here))|((with_reducible apply TX.region);(focus (simp only []<;>exact rfl));(focus rfl);(try dsimp only))|((with_reducible apply TX.cond_false);(focus rfl);(focus (rfl))))
  obtain ⟨v7,h1,hr⟩:=Option.bind_eq_some_iff.1 hr
  try dsimp only at hr
  apply TO.cal (by first|rfl|(simp only [twant,z1,z7]<;>rfl)) rfl goFn19 (Spec.ov (law03_patches_spec h1) (by decide)) rfl rfl rfl
  (repeat (focus (show _ = _;(simp only [zz,shift]<;>exact rfl))))
  with_reducible apply TO.here
  apply TO.pop1 (by first|rfl|(simp only [twant,z1,z7]<;>rfl)) (pop_not rfl)
  (repeat (focus (show _ = _;(simp only [zz]<;>exact rfl))))
  with_reducible apply TO.here
  repeat (first|((with_reducible apply TO.mv);(repeat (focus (show _ = _;first|exact k2 rfl|(simp only [zz]<;>exact rfl))));(with_reducible apply TO.here)))
  rcases Bool.eq_false_or_eq_true (v7) with h2|h2
  · rw [if_pos h2] at hr
    repeat (first|((with_reducible first|apply TO.ia|apply TO.ld|apply TO.bin|apply TO.mv);(repeat (focus (show _ = _;first|exact k2 rfl|(simp only [zz,y36,Nat.reduceAdd,Nat.reduceMul,tindexAddr,Int.reduceToNat,Int.reduceLE,Int.reduceLT,Int.cast_ofNat_Int,tload,rowOf,partT,h2]<;>exact rfl)|exact rfl)));(with_reducible apply TO.here)))
    rcases Bool.eq_false_or_eq_true ((decide (v5 > 20))) with h3|h3
    · rw [if_pos h3] at hr
      repeat (first|(with_reducible first|refine mv ?_|refine TO.nil ?_)|((with_reducible first|apply TO.ia|apply TO.ld|apply TO.bin|apply TO.pk);(repeat (focus (show _ = _;first|exact k2 rfl|(simp only [zz,y36,Nat.reduceAdd,Nat.reduceMul,tindexAddr,Int.reduceToNat,Int.reduceLE,Int.reduceLT,Int.cast_ofNat_Int,tload,rowOf,partT,h3]<;>exact rfl)|exact rfl)));(with_reducible apply TO.here)))
      rcases Bool.eq_false_or_eq_true ((decide (v5 ≤ 1000))) with h4|h4
      · rw [if_pos h4] at hr
        repeat (first|(with_reducible first|refine mv ?_|refine TO.nil ?_)|((with_reducible apply TO.asg);(repeat (focus (show _ = _;first|exact k2 rfl|(simp only [zz,h4]<;>exact rfl))));(with_reducible apply TO.here))|((with_reducible apply TX.region);(focus (simp only []<;>exact rfl));(focus rfl);(try dsimp only))|((with_reducible apply TX.cond_true);(focus rfl);(focus ((simp only [z1,Bool.not_true,h4];done)))))
        have hb:=Option.some.inj hr
        first|(cases hb;done)|(refine ⟨.inr rfl,?_⟩;first|(simp only []<;>exact rfl)|(simp only [h2,h3,h4] at hb;simp only [tresAll,tres,z1,hb,Option.map_some]<;>exact rfl))
      · rw [if_neg (by rw [h4];exact Bool.false_ne_true)] at hr
        repeat (first|with_reducible refine mv ?_|((with_reducible apply TD.ld);(repeat (focus (show _ = _;first|exact k2 rfl|(simp only [zz,y36,Nat.reduceAdd,Nat.reduceLeDiff,tload,rowOf,partT,h4]<;>exact rfl)|exact rfl)));(with_reducible refine TD.here ?_))|((with_reducible apply TX.drawn);(focus decide +kernel);(focus (simp only []<;>exact rfl));(focus exact rfl);(try dsimp only))|((with_reducible apply TX.cond_false);(focus rfl);(focus ((simp only [z1,Bool.not_true,h4];done)))))
        obtain ⟨⟨v8,v9⟩,h5,hr⟩:=Option.bind_eq_some_iff.1 hr
        try dsimp only at hr
        first|apply TD.cal (by first|rfl|(simp only [twant,z1,z7,h2,h3,h4]<;>rfl)) rfl goFn21 (Spec.ov (ref03_CopyExchange_spec h5) (by decide)) rfl rfl rfl|apply TD.calw (by first|rfl|(simp only [twant,z1,z7,h2,h3,h4]<;>rfl)) rfl goFn21 (Spec.ov (ref03_CopyExchange_spec h5) (by decide)) rfl rfl rfl rfl
        (repeat (focus (show _ = _;(simp only [zz,Nat.reduceAdd,shift]<;>exact rfl))))
        with_reducible apply TD.here
        repeat (first|((with_reducible first|apply TD.ia|apply TD.ld);(repeat (focus (show _ = _;first|exact k2 rfl|(simp only [zz,y36,Nat.reduceAdd,Nat.reduceMul,tindexAddr,Int.reduceToNat,Int.reduceLE,Int.reduceLT,Int.cast_ofNat_Int,tload,rowOf,partT]<;>exact rfl)|exact rfl)));(with_reducible refine TD.here ?_)))
        obtain ⟨⟨v10,v11,v12⟩,h6,hr⟩:=Option.bind_eq_some_iff.1 hr
        try dsimp only at hr
        first|apply TD.lok (by first|rfl|(simp only [twant,z1,z7,h2,h3,h4]<;>rfl)) rfl goFn34 (Spec.ov (energy_BoundOf_spec h6) (by decide)) (by simp only [view,z1,z3,tmlc]<;>rfl) rfl rfl (by simp [])|apply TD.lokw (by first|rfl|(simp only [twant,z1,z7,h2,h3,h4]<;>rfl)) rfl goFn34 (Spec.ov (energy_BoundOf_spec h6) (by decide)) (by simp only [view,z1,z3,zl,tml,tmlc,List.length_set,Nat.reduceEqDiff,if_false]<;>rfl) rfl rfl (by simp [clTB,cl,e_i,e_Li_]) rfl
        (repeat (focus (show _ = _;(simp only [zz,Nat.reduceAdd,shift]<;>exact rfl))))
        with_reducible apply TD.here
        repeat (first|with_reducible refine mv ?_|((with_reducible apply TO.ld);(repeat (focus (show _ = _;first|exact k2 rfl|(simp only [zz,y36,Nat.reduceAdd,Nat.reduceLeDiff,tload,rowOf,partT]<;>exact rfl)|exact rfl)));(with_reducible apply TO.here))|((with_reducible apply TX.region);(focus (simp only []<;>exact rfl));(focus rfl);(try dsimp only))|with_reducible refine TD.nil ?_|((with_reducible first|apply TD.mv|apply TD.ext|apply TD.al|apply TD.sv|apply TD.asg);(repeat (focus (show _ = _;first|exact k1 rfl|exact k2 rfl|(simp only [zz,y36,Nat.reduceAdd]<;>exact rfl))));(with_reducible refine TD.here ?_)))
        obtain ⟨⟨v13,v14⟩,h7,hr⟩:=Option.bind_eq_some_iff.1 hr
        try dsimp only at hr
        apply TO.cal (by first|rfl|(simp only [twant,z1,z7,h2,h3,h4]<;>rfl)) rfl goFn25 (Spec.ov (ref03_CheckExchange_spec h7) (by decide)) rfl rfl rfl
        (repeat (focus (show _ = _;(simp only [zz,Nat.reduceAdd,shift]<;>exact rfl))))
        with_reducible apply TO.here
        repeat (first|(with_reducible first|refine mv ?_|refine TO.nil ?_)|((with_reducible first|apply TO.mv|apply TO.ext|apply TO.asg|apply TO.bin);(repeat (focus (show _ = _;first|exact k2 rfl|(simp only [zz]<;>exact rfl))));(with_reducible apply TO.here))|((with_reducible apply TX.region);(focus (simp only []<;>exact rfl));(focus rfl);(try dsimp only)))
        rcases Bool.eq_false_or_eq_true ((decide (v14 = 0))) with h8|h8
        · rw [if_pos h8] at hr
          repeat (first|((with_reducible first|apply TO.ia|apply TO.ld);(repeat (focus (show _ = _;first|exact k2 rfl|(simp only [zz,y36,Nat.reduceAdd,Nat.reduceMul,tindexAddr,Int.reduceToNat,Int.reduceLE,Int.reduceLT,Int.cast_ofNat_Int,tload,rowOf,partT,h8]<;>exact rfl)|exact rfl)));(with_reducible apply TO.here)))
          obtain ⟨v15,h9,hr⟩:=Option.bind_eq_some_iff.1 hr
          try dsimp only at hr
          apply TO.cal (by first|rfl|(simp only [twant,z1,z7,h2,h3,h4,h8]<;>rfl)) rfl goFn31 (Spec.ov (base_Within_spec h9) (by decide)) rfl rfl rfl
          (repeat (focus (show _ = _;(simp only [zz,shift]<;>exact rfl))))
          with_reducible apply TO.here
          apply TO.pop1 (by first|rfl|(simp only [twant,z1,z7,h2,h3,h4,h8]<;>rfl)) (pop_not rfl)
          (repeat (focus (show _ = _;(simp only [zz]<;>exact rfl))))
          with_reducible apply TO.here
          repeat (first|(with_reducible first|refine mv ?_|refine TO.nil ?_)|((with_reducible apply TO.pk);(repeat (focus (show _ = _;first|exact k2 rfl|(simp only [zz]<;>exact rfl))));(with_reducible apply TO.here)))
          rcases Bool.eq_false_or_eq_true (v15) with h10|h10
          · rw [if_pos h10] at hr
            repeat (first|(with_reducible first|refine mv ?_|refine TO.nil ?_)|((with_reducible first|apply TO.mv|apply TO.bin|apply TO.ia|apply TO.ld);(repeat (focus (show _ = _;first|exact k2 rfl|(simp only [zz,y36,Nat.reduceAdd,Nat.reduceMul,tindexAddr,Int.reduceToNat,Int.reduceLE,Int.reduceLT,Int.cast_ofNat_Int,tload,rowOf,partT,h8,h10]<;>exact rfl)|exact rfl)));(with_reducible apply TO.here))|((with_reducible apply TX.region);(focus (simp only []<;>exact rfl));(focus rfl);(try dsimp only))|((with_reducible apply TX.cond_true);(focus rfl);(focus (rfl)))|((with_reducible apply TX.cond_false);(focus rfl);(focus ((simp only [z1,Bool.not_true,h10];done)))))
            obtain ⟨v16,h11,hr⟩:=Option.bind_eq_some_iff.1 hr
            try dsimp only at hr
            apply TO.cal (by first|rfl|(simp only [twant,z1,z7,h2,h3,h4,h8,h10]<;>rfl)) rfl goFn29 (Spec.ov (ref03_StepsErr_spec h11) (by decide)) rfl rfl rfl
            (repeat (focus (show _ = _;(simp only [zz,shift]<;>exact rfl))))
            with_reducible apply TO.here
            repeat (first|(with_reducible first|refine mv ?_|refine TO.nil ?_)|((with_reducible first|apply TO.asg|apply TO.mv|apply TO.bin);(repeat (focus (show _ = _;first|exact k2 rfl|(simp only [zz]<;>exact rfl))));(with_reducible apply TO.here))|((with_reducible apply TX.region);(focus (simp only []<;>exact rfl));(focus rfl);(try dsimp only)))
            rcases Bool.eq_false_or_eq_true ((decide (v16 ≠ 0))) with h12|h12
            · rw [if_pos h12] at hr
              repeat (first|with_reducible refine mv ?_|((with_reducible first|apply TO.mv|apply TO.bin);(repeat (focus (show _ = _;first|exact k2 rfl|(simp only [zz,h12]<;>exact rfl))));(with_reducible apply TO.here))|((with_reducible apply TX.region);(focus (simp only []<;>exact rfl));(focus rfl);(try dsimp only))|((with_reducible apply TX.cond_true);(focus rfl);(focus ((simp only [z1,Bool.not_true,h12];done)))))
              rcases Bool.eq_false_or_eq_true ((decide (v12 = v16))) with h13|h13
              · rw [if_pos h13] at hr
                repeat (first|((with_reducible first|apply TO.ld|apply TO.bld);(repeat (focus (show _ = _;first|exact k2 rfl|(simp only [zz,y36,Nat.reduceAdd,Nat.reduceLeDiff,tload,rowOf,partT,tbuild,tfill,h13]<;>exact rfl)|exact rfl)));(with_reducible apply TO.here)))
                apply TO.pop1 (by first|rfl|(simp only [twant,z1,z7,h2,h3,h4,h8,h10,h12,h13]<;>rfl)) (pop_eqs1 (X:=⟨[.int .i64 (v10),.int .i64 (v11)]⟩) (Y:=⟨[.int .i64 (0),.int .i64 (0)]⟩) rfl rfl rfl rfl rfl rfl rfl eqg30 eqs30 rfl)
                (repeat (focus (show _ = _;(simp only [zz]<;>exact rfl))))
                with_reducible apply TO.here
                repeat (first|(with_reducible first|refine mv ?_|refine TO.nil ?_)|((with_reducible first|apply TO.pk|apply TO.asg);(repeat (focus (show _ = _;first|exact k2 rfl|(simp only [zz]<;>exact rfl))));(with_reducible apply TO.here)))
                have hb:=Option.some.inj hr
                first|(cases hb;done)|(refine ⟨.inr rfl,?_⟩;first|(simp only [hb]<;>exact rfl)|(simp only [h2,h3,h4,h8,h10,h12,h13] at hb;simp only [tresAll,tres,z1,hb,Option.map_some]<;>exact rfl))
              · rw [if_neg (by rw [h13];exact Bool.false_ne_true)] at hr
                repeat (first|(with_reducible first|refine mv ?_|refine TO.nil ?_)|((with_reducible first|apply TO.pk|apply TO.asg);(repeat (focus (show _ = _;first|exact k2 rfl|(simp only [zz]<;>exact rfl))));(with_reducible apply TO.here))|((with_reducible apply TO.skip1);(repeat (focus (show _ = _;(simp only [zz,twant,zp,zs,h13]<;>exact rfl))));(with_reducible apply TO.here)))
                have hb:=Option.some.inj hr
                first|(cases hb;done)|(refine ⟨.inr rfl,?_⟩;first|(simp only [tresAll,tres,z1,hb,Option.map_some]<;>exact rfl)|(simp only [h2,h3,h4,h8,h10,h12,h13] at hb;simp only [tresAll,tres,z1,hb,Option.map_some]<;>exact rfl))
            · rw [if_neg (by rw [h12];exact Bool.false_ne_true)] at hr
              repeat (first|with_reducible refine mv ?_|((with_reducible first|apply TD.mv|apply TD.bin);(repeat (focus (show _ = _;first|exact k2 rfl|(simp only [zz,h12]<;>exact rfl))));(with_reducible refine TD.here ?_))|((with_reducible apply TX.drawn);(focus decide +kernel);(focus (simp only []<;>exact rfl));(focus exact rfl);(try dsimp only))|((with_reducible apply TX.cond_false);(focus rfl);(focus ((simp only [z1,Bool.not_true,h12];done)))))
              rcases Bool.eq_false_or_eq_true ((decide (v12 ≠ 0))) with h14|h14
              · rw [if_pos h14] at hr
                repeat (first|(with_reducible first|refine mv ?_|refine TO.nil ?_)|((with_reducible apply TO.asg);(repeat (focus (show _ = _;first|exact k2 rfl|(simp only [zz]<;>exact rfl))));(with_reducible apply TO.here))|((with_reducible apply TX.region);(focus (simp only []<;>exact rfl));(focus rfl);(try dsimp only))|with_reducible refine TD.nil ?_|((with_reducible apply TD.pk);(repeat (focus (show _ = _;first|exact k2 rfl|(simp only [zz]<;>exact rfl))));(with_reducible refine TD.here ?_))|((with_reducible apply TD.skip1);(repeat (focus (show _ = _;(simp only [zz,twant,zp,zs,h14]<;>exact rfl))));(with_reducible refine TD.here ?_))|((with_reducible apply TX.cond_true);(focus rfl);(focus (rfl))))
                have hb:=Option.some.inj hr
                first|(cases hb;done)|(refine ⟨.inr rfl,?_⟩;first|(simp only [tresAll,tres,z1,hb,Option.map_some]<;>exact rfl)|(simp only [h2,h3,h4,h8,h10,h12,h14] at hb;simp only [tresAll,tres,z1,hb,Option.map_some]<;>exact rfl))
              · rw [if_neg (by rw [h14];exact Bool.false_ne_true)] at hr
                repeat (first|((with_reducible first|apply TD.ld|apply TD.ia);(repeat (focus (show _ = _;first|exact k2 rfl|(simp only [zz,y36,Nat.reduceAdd,Nat.reduceMul,Nat.reduceLeDiff,tload,rowOf,partT,tindexAddr,Int.reduceToNat,Int.reduceLE,Int.reduceLT,Int.cast_ofNat_Int,h14]<;>exact rfl)|exact rfl)));(with_reducible refine TD.here ?_)))
                obtain ⟨⟨v17,v18⟩,h15,hr⟩:=Option.bind_eq_some_iff.1 hr
                try dsimp only at hr
                first|apply TD.cal (by first|rfl|(simp only [twant,z1,z7,h2,h3,h4,h8,h10,h12,h14]<;>rfl)) rfl goFn35 (Spec.ov (ref03_BoundOf_spec h15) (by decide)) rfl rfl rfl|apply TD.calw (by first|rfl|(simp only [twant,z1,z7,h2,h3,h4,h8,h10,h12,h14]<;>rfl)) rfl goFn35 (Spec.ov (ref03_BoundOf_spec h15) (by decide)) rfl rfl rfl rfl
                (repeat (focus (show _ = _;(simp only [zz,Nat.reduceAdd,shift]<;>exact rfl))))
                with_reducible apply TD.here
                apply TD.pop1 (by first|rfl|(simp only [twant,z1,z7,h2,h3,h4,h8,h10,h12,h14]<;>rfl)) (pop_eqs2 (X:=⟨[.int .i64 (v10),.int .i64 (v11)]⟩) (Y:=⟨[.int .i64 (v17),.int .i64 (v18)]⟩) rfl rfl rfl rfl rfl rfl rfl eqg30 eqs30 rfl)
                (repeat (focus (show _ = _;(simp only [zz]<;>exact rfl))))
                with_reducible apply TD.here
                repeat (first|(with_reducible first|refine mv ?_|refine TD.nil ?_)|((with_reducible apply TD.pk);(repeat (focus (show _ = _;first|exact k2 rfl|(simp only [zz]<;>exact rfl))));(with_reducible refine TD.here ?_)))
                rcases Bool.eq_false_or_eq_true (([v10 == v17,v11 == v18].all id)) with h16|h16
                · rw [if_pos h16] at hr
                  repeat (first|with_reducible refine mv ?_|((with_reducible first|apply TO.ld|apply TO.mv);(repeat (focus (show _ = _;first|exact k2 rfl|(simp only [zz,y36,Nat.reduceAdd,Nat.reduceLeDiff,tload,rowOf,partT,h16]<;>exact rfl)|exact rfl)));(with_reducible apply TO.here))|((with_reducible apply TX.region);(focus (simp only []<;>exact rfl));(focus rfl);(try dsimp only))|((with_reducible apply TX.cond_false);(focus rfl);(focus ((simp only [z1,Bool.not_true,h16];done)))))
                  obtain ⟨v19,h17,hr⟩:=Option.bind_eq_some_iff.1 hr
                  try dsimp only at hr
                  apply TO.cal (by first|rfl|(simp only [twant,z1,z7,h2,h3,h4,h8,h10,h12,h14,h16]<;>rfl)) rfl goFn33 (Spec.ov (ref03_EnergiesErr_spec h17) (by decide)) rfl rfl rfl
                  (repeat (focus (show _ = _;(simp only [zz,shift]<;>exact rfl))))
                  with_reducible apply TO.here
                  repeat (first|(with_reducible first|refine mv ?_|refine TO.nil ?_)|((with_reducible apply TO.bin);(repeat (focus (show _ = _;first|exact k2 rfl|(simp only [zz]<;>exact rfl))));(with_reducible apply TO.here)))
                  rcases Bool.eq_false_or_eq_true ((decide (v19 ≠ 0))) with h18|h18
                  · rw [if_pos h18] at hr
                    repeat (first|(with_reducible first|refine mv ?_|refine TO.nil ?_)|((with_reducible apply TO.asg);(repeat (focus (show _ = _;first|exact k2 rfl|(simp only [zz,h18]<;>exact rfl))));(with_reducible apply TO.here))|((with_reducible apply TX.region);(focus (simp only []<;>exact rfl));(focus rfl);(try dsimp only))|((with_reducible apply TX.cond_true);(focus rfl);(focus ((simp only [z1,Bool.not_true,h18];done)))))
                    have hb:=Option.some.inj hr
                    first|(cases hb;done)|(refine ⟨.inr rfl,?_⟩;first|(simp only []<;>exact rfl)|(simp only [h2,h3,h4,h8,h10,h12,h14,h16,h18] at hb;simp only [tresAll,tres,z1,hb,Option.map_some]<;>exact rfl))
                  · rw [if_neg (by rw [h18];exact Bool.false_ne_true)] at hr
                    repeat (first|with_reducible refine mv ?_|((with_reducible apply TD.ld);(repeat (focus (show _ = _;first|exact k2 rfl|(simp only [zz,y36,Nat.reduceAdd,Nat.reduceLeDiff,tload,rowOf,partT,h18]<;>exact rfl)|exact rfl)));(with_reducible refine TD.here ?_))|((with_reducible apply TX.drawn);(focus decide +kernel);(focus (simp only []<;>exact rfl));(focus exact rfl);(try dsimp only))|((with_reducible apply TX.cond_false);(focus rfl);(focus ((simp only [z1,Bool.not_true,h18];done)))))
                    obtain ⟨⟨v20,v21⟩,h19,hr⟩:=Option.bind_eq_some_iff.1 hr
                    try dsimp only at hr
                    first|apply TD.cal (by first|rfl|(simp only [twant,z1,z7,h2,h3,h4,h8,h10,h12,h14,h16,h18]<;>rfl)) rfl goFn21 (Spec.ov (ref03_CopyExchange_spec h19) (by decide)) rfl rfl rfl|apply TD.calw (by first|rfl|(simp only [twant,z1,z7,h2,h3,h4,h8,h10,h12,h14,h16,h18]<;>rfl)) rfl goFn21 (Spec.ov (ref03_CopyExchange_spec h19) (by decide)) rfl rfl rfl rfl
                    (repeat (focus (show _ = _;(simp only [zz,Nat.reduceAdd,shift]<;>exact rfl))))
                    with_reducible apply TD.here
                    repeat (first|((with_reducible apply TD.mv);(repeat (focus (show _ = _;first|exact k2 rfl|(simp only [zz]<;>exact rfl))));(with_reducible refine TD.here ?_)))
                    obtain ⟨v22,h20,hr⟩:=Option.bind_eq_some_iff.1 hr
                    try dsimp only at hr
                    first|apply TD.cal (by first|rfl|(simp only [twant,z1,z7,h2,h3,h4,h8,h10,h12,h14,h16,h18]<;>rfl)) rfl goFn32 (Spec.ov (ref03_Total_spec h20) (by decide)) rfl rfl rfl|apply TD.calw (by first|rfl|(simp only [twant,z1,z7,h2,h3,h4,h8,h10,h12,h14,h16,h18]<;>rfl)) rfl goFn32 (Spec.ov (ref03_Total_spec h20) (by decide)) rfl rfl rfl rfl
                    (repeat (focus (show _ = _;(simp only [zz,shift]<;>exact rfl))))
                    with_reducible apply TD.here
                    repeat (first|((with_reducible first|apply TD.ia|apply TD.ld);(repeat (focus (show _ = _;first|exact k2 rfl|(simp only [zz,y36,Nat.reduceAdd,Nat.reduceMul,tindexAddr,Int.reduceToNat,Int.reduceLE,Int.reduceLT,Int.cast_ofNat_Int,tload,rowOf,partT]<;>exact rfl)|exact rfl)));(with_reducible refine TD.here ?_)))
                    obtain ⟨⟨v23,v24,v25⟩,h21,hr⟩:=Option.bind_eq_some_iff.1 hr
                    try dsimp only at hr
                    first|apply TD.lok (by first|rfl|(simp only [twant,z1,z7,h2,h3,h4,h8,h10,h12,h14,h16,h18]<;>rfl)) rfl goFn34 (Spec.ov (energy_BoundOf_spec h21) (by decide)) (by simp only [view,z1,z3,tmlc]<;>rfl) rfl rfl (by simp [])|apply TD.lokw (by first|rfl|(simp only [twant,z1,z7,h2,h3,h4,h8,h10,h12,h14,h16,h18]<;>rfl)) rfl goFn34 (Spec.ov (energy_BoundOf_spec h21) (by decide)) (by simp only [view,z1,z3,zl,tml,tmlc,List.length_set,Nat.reduceEqDiff,if_false]<;>rfl) rfl rfl (by simp [clTB,cl,e_i,e_Li_]) rfl
                    (repeat (focus (show _ = _;(simp only [zz,Nat.reduceAdd,shift]<;>exact rfl))))
                    with_reducible apply TD.here
                    repeat (first|(with_reducible first|refine mv ?_|refine TD.nil ?_)|((with_reducible first|apply TD.mv|apply TD.ext|apply TD.al|apply TD.sv|apply TD.asg|apply TD.ld);(repeat (focus (show _ = _;first|exact k1 rfl|exact k2 rfl|(simp only [zz,y36,Nat.reduceAdd,Nat.reduceLeDiff,tload,rowOf,partT]<;>exact rfl)|exact rfl)));(with_reducible refine TD.here ?_))|((with_reducible apply TX.drawn);(focus decide +kernel);(focus (simp only []<;>exact rfl));(focus exact rfl);(try dsimp only)))
                    obtain ⟨⟨v26,v27⟩,h22,hr⟩:=Option.bind_eq_some_iff.1 hr
                    try dsimp only at hr
                    first|apply TD.cal (by first|rfl|(simp only [twant,z1,z7,h2,h3,h4,h8,h10,h12,h14,h16,h18]<;>rfl)) rfl goFn21 (Spec.ov (ref03_CopyExchange_spec h22) (by decide)) rfl rfl rfl|apply TD.calw (by first|rfl|(simp only [twant,z1,z7,h2,h3,h4,h8,h10,h12,h14,h16,h18]<;>rfl)) rfl goFn21 (Spec.ov (ref03_CopyExchange_spec h22) (by decide)) rfl rfl rfl rfl
                    (repeat (focus (show _ = _;(simp only [zz,Nat.reduceAdd,shift]<;>exact rfl))))
                    with_reducible apply TD.here
                    repeat (first|((with_reducible apply TD.mv);(repeat (focus (show _ = _;first|exact k2 rfl|(simp only [zz]<;>exact rfl))));(with_reducible refine TD.here ?_)))
                    obtain ⟨v28,h23,hr⟩:=Option.bind_eq_some_iff.1 hr
                    try dsimp only at hr
                    first|apply TD.cal (by first|rfl|(simp only [twant,z1,z7,h2,h3,h4,h8,h10,h12,h14,h16,h18]<;>rfl)) rfl goFn23 (Spec.ov (base_CopyInts_spec h23) (by decide)) rfl rfl rfl|apply TD.calw (by first|rfl|(simp only [twant,z1,z7,h2,h3,h4,h8,h10,h12,h14,h16,h18]<;>rfl)) rfl goFn23 (Spec.ov (base_CopyInts_spec h23) (by decide)) rfl rfl rfl rfl
                    (repeat (focus (show _ = _;(simp only [zz,Nat.reduceAdd,shift]<;>exact rfl))))
                    with_reducible apply TD.here
                    repeat (first|((with_reducible first|apply TD.ia|apply TD.ld);(repeat (focus (show _ = _;first|exact k2 rfl|(simp only [zz,y36,Nat.reduceAdd,Nat.reduceMul,tindexAddr,Int.reduceToNat,Int.reduceLE,Int.reduceLT,Int.cast_ofNat_Int,tload,rowOf,partT]<;>exact rfl)|exact rfl)));(with_reducible refine TD.here ?_)))
                    obtain ⟨⟨v29,v30,v31⟩,h24,hr⟩:=Option.bind_eq_some_iff.1 hr
                    try dsimp only at hr
                    first|apply TD.lok (by first|rfl|(simp only [twant,z1,z7,h2,h3,h4,h8,h10,h12,h14,h16,h18]<;>rfl)) rfl goFn24 (Spec.ov (energy_Run_spec h24) (by decide)) (by simp only [view,z1,z3,tmlc]<;>rfl) rfl rfl (by simp [clTB,cl,e_i])|apply TD.lokw (by first|rfl|(simp only [twant,z1,z7,h2,h3,h4,h8,h10,h12,h14,h16,h18]<;>rfl)) rfl goFn24 (Spec.ov (energy_Run_spec h24) (by decide)) (by simp only [view,z1,z3,zl,tml,tmlc,List.length_set,Nat.reduceEqDiff,if_false]<;>rfl) rfl rfl (by simp [clTB,cl,e_i,e_Li_]) rfl
                    (repeat (focus (show _ = _;(simp only [zz,Nat.reduceAdd,shift]<;>exact rfl))))
                    with_reducible apply TD.here
                    repeat (first|(with_reducible first|refine mv ?_|refine TD.nil ?_)|((with_reducible first|apply TD.mv|apply TD.ext|apply TD.asg|apply TD.bin);(repeat (focus (show _ = _;first|exact k2 rfl|(simp only [zz]<;>exact rfl))));(with_reducible refine TD.here ?_))|((with_reducible apply TX.drawn);(focus decide +kernel);(focus (simp only []<;>exact rfl));(focus exact rfl);(try dsimp only)))
                    rcases Bool.eq_false_or_eq_true ((decide (v25 = 0))) with h25|h25
                    · rw [if_pos h25] at hr
                      repeat (first|((with_reducible first|apply TD.mv|apply TD.bin|apply TD.pk);(repeat (focus (show _ = _;first|exact k2 rfl|(simp only [zz,h25]<;>exact rfl))));(with_reducible refine TD.here ?_)))
                      rcases Bool.eq_false_or_eq_true ((decide (v31 = 0))) with h26|h26
                      · rw [if_pos h26] at hr
                        repeat (first|((with_reducible apply TD.mv);(repeat (focus (show _ = _;(simp only [zz,h26]<;>exact rfl))));(with_reducible refine TD.here ?_)))
                        obtain ⟨v32,h27,hr⟩:=Option.bind_eq_some_iff.1 hr
                        try dsimp only at hr
                        first|apply TD.lok (by first|rfl|(simp only [twant,z1,z7,h2,h3,h4,h8,h10,h12,h14,h16,h18,h25,h26]<;>rfl)) rfl goFn32 (Spec.ov (ref03_Total_spec h27) (by decide)) (by simp only [view,z1,z3,tmlc]<;>rfl) rfl rfl (by simp [])|apply TD.lokw (by first|rfl|(simp only [twant,z1,z7,h2,h3,h4,h8,h10,h12,h14,h16,h18,h25,h26]<;>rfl)) rfl goFn32 (Spec.ov (ref03_Total_spec h27) (by decide)) (by simp only [view,z1,z3,zl,tml,tmlc,List.length_set,Nat.reduceEqDiff,if_false]<;>rfl) rfl rfl (by simp [clTB,cl,e_i,e_Li_]) rfl
                        (repeat (focus (show _ = _;(simp only [zz,shift]<;>exact rfl))))
                        with_reducible apply TD.here
                        repeat (first|((with_reducible first|apply TD.fa|apply TD.ld);(repeat (focus (show _ = _;first|exact k2 rfl|(simp only [zz,y36,Nat.reduceAdd,tfieldAddr,tload,rowOf,partT]<;>exact rfl)|exact rfl)));(with_reducible refine TD.here ?_)))
                        obtain ⟨v33,h28,hr⟩:=Option.bind_eq_some_iff.1 hr
                        try dsimp only at hr
                        first|apply TD.cal (by first|rfl|(simp only [twant,z1,z7,h2,h3,h4,h8,h10,h12,h14,h16,h18,h25,h26]<;>rfl)) rfl goFn31 (Spec.ov (base_Within_spec h28) (by decide)) rfl rfl rfl|apply TD.calw (by first|rfl|(simp only [twant,z1,z7,h2,h3,h4,h8,h10,h12,h14,h16,h18,h25,h26]<;>rfl)) rfl goFn31 (Spec.ov (base_Within_spec h28) (by decide)) rfl rfl rfl rfl
                        (repeat (focus (show _ = _;(simp only [zz,shift]<;>exact rfl))))
                        with_reducible apply TD.here
                        repeat (first|(with_reducible first|refine mv ?_|refine TD.nil ?_)|((with_reducible first|apply TD.pk|apply TD.asg);(repeat (focus (show _ = _;first|exact k2 rfl|(simp only [zz]<;>exact rfl))));(with_reducible refine TD.here ?_)))
                        have hb:=Option.some.inj hr
                        first|(cases hb;done)|(refine ⟨.inr rfl,?_⟩;first|(simp only [hb]<;>exact rfl)|(simp only [h2,h3,h4,h8,h10,h12,h14,h16,h18,h25,h26] at hb;simp only [tresAll,tres,z1,hb,Option.map_some]<;>exact rfl))
                      · rw [if_neg (by rw [h26];exact Bool.false_ne_true)] at hr
                        repeat (first|(with_reducible first|refine mv ?_|refine TD.nil ?_)|((with_reducible first|apply TD.pk|apply TD.asg);(repeat (focus (show _ = _;first|exact k2 rfl|(simp only [zz]<;>exact rfl))));(with_reducible refine TD.here ?_))|((with_reducible apply TD.skip1);(repeat (focus (show _ = _;(simp only [zz,twant,zp,zs,h26]<;>exact rfl))));(with_reducible refine TD.here ?_)))
                        have hb:=Option.some.inj hr
                        first|(cases hb;done)|(refine ⟨.inr rfl,?_⟩;first|(simp only [tresAll,tres,z1,hb,Option.map_some]<;>exact rfl)|(simp only [h2,h3,h4,h8,h10,h12,h14,h16,h18,h25,h26] at hb;simp only [tresAll,tres,z1,hb,Option.map_some]<;>exact rfl))
                    · rw [if_neg (by rw [h25];exact Bool.false_ne_true)] at hr
                      repeat (first|(with_reducible first|refine mv ?_|refine TD.nil ?_)|((with_reducible first|apply TD.pk|apply TD.mv|apply TD.asg);(repeat (focus (show _ = _;first|exact k2 rfl|(simp only [zz,h25]<;>exact rfl))));(with_reducible refine TD.here ?_))|((with_reducible apply TD.skip1);(repeat (focus (show _ = _;(simp only [zz,twant,zp,zs,h25]<;>exact rfl))));(with_reducible refine TD.here ?_)))
                      have hb:=Option.some.inj hr
                      first|(cases hb;done)|(refine ⟨.inr rfl,?_⟩;first|(simp only [tresAll,tres,z1,hb,Option.map_some]<;>exact rfl)|(simp only [h2,h3,h4,h8,h10,h12,h14,h16,h18,h25] at hb;simp only [tresAll,tres,z1,hb,Option.map_some]<;>exact rfl))
                · rw [if_neg (by rw [h16];exact Bool.false_ne_true)] at hr
                  repeat (first|(with_reducible first|refine mv ?_|refine TO.nil ?_)|((with_reducible apply TO.asg);(repeat (focus (show _ = _;first|exact k2 rfl|(simp only [zz,h16]<;>exact rfl))));(with_reducible apply TO.here))|((with_reducible apply TX.region);(focus (simp only []<;>exact rfl));(focus rfl);(try dsimp only))|((with_reducible apply TX.cond_true);(focus rfl);(focus ((simp only [z1,zn,h16];done)))))
                  have hb:=Option.some.inj hr
                  first|(cases hb;done)|(refine ⟨.inr rfl,?_⟩;first|(simp only [tresAll,tres,z1,hb,Option.map_some]<;>exact rfl)|(simp only [h2,h3,h4,h8,h10,h12,h14,h16] at hb;simp only [tresAll,tres,z1,hb,Option.map_some]<;>exact rfl))
          · rw [if_neg (by rw [h10];exact Bool.false_ne_true)] at hr
            repeat (first|(with_reducible first|refine mv ?_|refine TO.nil ?_)|((with_reducible first|apply TO.asg|apply TO.mv|apply TO.bin);(repeat (focus (show _ = _;first|exact k2 rfl|(simp only [zz,h10]<;>exact rfl))));(with_reducible apply TO.here))|((with_reducible apply TX.region);(focus (simp only []<;>exact rfl));(focus rfl);(try dsimp only))|((with_reducible apply TX.cond_true);(focus rfl);(focus (first|rfl|(simp only [z1,zn,h10];done))))|((with_reducible apply TX.cond_false);(focus rfl);(focus (rfl))))
            rcases Bool.eq_false_or_eq_true ((decide (v12 = 2))) with h29|h29
            · rw [if_pos h29] at hr
              repeat (first|((with_reducible first|apply TO.ld|apply TO.bld);(repeat (focus (show _ = _;first|exact k2 rfl|(simp only [zz,y36,Nat.reduceAdd,Nat.reduceLeDiff,tload,rowOf,partT,tbuild,tfill,h29]<;>exact rfl)|exact rfl)));(with_reducible apply TO.here)))
              apply TO.pop1 (by first|rfl|(simp only [twant,z1,z7,h2,h3,h4,h8,h10,h29]<;>rfl)) (pop_eqs1 (X:=⟨[.int .i64 (v10),.int .i64 (v11)]⟩) (Y:=⟨[.int .i64 (0),.int .i64 (0)]⟩) rfl rfl rfl rfl rfl rfl rfl eqg30 eqs30 rfl)
              (repeat (focus (show _ = _;(simp only [zz]<;>exact rfl))))
              with_reducible apply TO.here
              repeat (first|(with_reducible first|refine mv ?_|refine TO.nil ?_)|((with_reducible first|apply TO.pk|apply TO.asg);(repeat (focus (show _ = _;first|exact k2 rfl|(simp only [zz]<;>exact rfl))));(with_reducible apply TO.here)))
              have hb:=Option.some.inj hr
              first|(cases hb;done)|(refine ⟨.inr rfl,?_⟩;first|(simp only [hb]<;>exact rfl)|(simp only [h2,h3,h4,h8,h10,h29] at hb;simp only [tresAll,tres,z1,hb,Option.map_some]<;>exact rfl))
            · rw [if_neg (by rw [h29];exact Bool.false_ne_true)] at hr
              repeat (first|(with_reducible first|refine mv ?_|refine TO.nil ?_)|((with_reducible first|apply TO.pk|apply TO.asg);(repeat (focus (show _ = _;first|exact k2 rfl|(simp only [zz]<;>exact rfl))));(with_reducible apply TO.here))|((with_reducible apply TO.skip1);(repeat (focus (show _ = _;(simp only [zz,twant,zp,zs,h29]<;>exact rfl))));(with_reducible apply TO.here)))
              have hb:=Option.some.inj hr
              first|(cases hb;done)|(refine ⟨.inr rfl,?_⟩;first|(simp only [tresAll,tres,z1,hb,Option.map_some]<;>exact rfl)|(simp only [h2,h3,h4,h8,h10,h29] at hb;simp only [tresAll,tres,z1,hb,Option.map_some]<;>exact rfl))
        · rw [if_neg (by rw [h8];exact Bool.false_ne_true)] at hr
          repeat (first|(with_reducible first|refine mv ?_|refine TO.nil ?_)|((with_reducible first|apply TO.pk|apply TO.mv|apply TO.bin);(repeat (focus (show _ = _;first|exact k2 rfl|(simp only [zz,h8]<;>exact rfl))));(with_reducible apply TO.here))|((with_reducible apply TO.skip1);(repeat (focus (show _ = _;(simp only [zz,twant,zp,zs,h8]<;>exact rfl))));(with_reducible apply TO.here))|((with_reducible apply TX.region);(focus (simp only []<;>exact rfl));(focus rfl);(try dsimp only))|((with_reducible apply TX.cond_false);(focus rfl);(focus (rfl))))
          rcases Bool.eq_false_or_eq_true ((decide (v14 ≠ 0))) with h30|h30
          · rw [if_pos h30] at hr
            repeat (first|with_reducible refine mv ?_|((with_reducible first|apply TO.mv|apply TO.bin);(repeat (focus (show _ = _;first|exact k2 rfl|(simp only [zz,h30]<;>exact rfl))));(with_reducible apply TO.here))|((with_reducible apply TX.region);(focus (simp only []<;>exact rfl));(focus rfl);(try dsimp only))|((with_reducible apply TX.cond_true);(focus rfl);(focus ((simp only [z1,Bool.not_true,h30];done)))))
            rcases Bool.eq_false_or_eq_true ((decide (v12 = v14))) with h31|h31
            · rw [if_pos h31] at hr
              repeat (first|((with_reducible first|apply TO.ld|apply TO.bld);(repeat (focus (show _ = _;first|exact k2 rfl|(simp only [zz,y36,Nat.reduceAdd,Nat.reduceLeDiff,tload,rowOf,partT,tbuild,tfill,h31]<;>exact rfl)|exact rfl)));(with_reducible apply TO.here)))
              apply TO.pop1 (by first|rfl|(simp only [twant,z1,z7,h2,h3,h4,h8,h30,h31]<;>rfl)) (pop_eqs1 (X:=⟨[.int .i64 (v10),.int .i64 (v11)]⟩) (Y:=⟨[.int .i64 (0),.int .i64 (0)]⟩) rfl rfl rfl rfl rfl rfl rfl eqg30 eqs30 rfl)
              (repeat (focus (show _ = _;(simp only [zz]<;>exact rfl))))
              with_reducible apply TO.here
              repeat (first|(with_reducible first|refine mv ?_|refine TO.nil ?_)|((with_reducible first|apply TO.pk|apply TO.asg);(repeat (focus (show _ = _;first|exact k2 rfl|(simp only [zz]<;>exact rfl))));(with_reducible apply TO.here)))
              have hb:=Option.some.inj hr
              first|(cases hb;done)|(refine ⟨.inr rfl,?_⟩;first|(simp only [hb]<;>exact rfl)|(simp only [h2,h3,h4,h8,h30,h31] at hb;simp only [tresAll,tres,z1,hb,Option.map_some]<;>exact rfl))
            · rw [if_neg (by rw [h31];exact Bool.false_ne_true)] at hr
              repeat (first|(with_reducible first|refine mv ?_|refine TO.nil ?_)|((with_reducible first|apply TO.pk|apply TO.asg);(repeat (focus (show _ = _;first|exact k2 rfl|(simp only [zz]<;>exact rfl))));(with_reducible apply TO.here))|((with_reducible apply TO.skip1);(repeat (focus (show _ = _;(simp only [zz,twant,zp,zs,h31]<;>exact rfl))));(with_reducible apply TO.here)))
              have hb:=Option.some.inj hr
              first|(cases hb;done)|(refine ⟨.inr rfl,?_⟩;first|(simp only [tresAll,tres,z1,hb,Option.map_some]<;>exact rfl)|(simp only [h2,h3,h4,h8,h30,h31] at hb;simp only [tresAll,tres,z1,hb,Option.map_some]<;>exact rfl))
          · rw [if_neg (by rw [h30];exact Bool.false_ne_true)] at hr
            repeat (first|with_reducible refine mv ?_|((with_reducible first|apply TD.mv|apply TD.bin);(repeat (focus (show _ = _;first|exact k2 rfl|(simp only [zz,h30]<;>exact rfl))));(with_reducible refine TD.here ?_))|((with_reducible apply TX.drawn);(focus decide +kernel);(focus (simp only []<;>exact rfl));(focus exact rfl);(try dsimp only))|((with_reducible apply TX.cond_false);(focus rfl);(focus ((simp only [z1,Bool.not_true,h30];done)))))
            rcases Bool.eq_false_or_eq_true ((decide (v12 ≠ 0))) with h32|h32
            · rw [if_pos h32] at hr
              repeat (first|(with_reducible first|refine mv ?_|refine TO.nil ?_)|((with_reducible apply TO.asg);(repeat (focus (show _ = _;first|exact k2 rfl|(simp only [zz]<;>exact rfl))));(with_reducible apply TO.here))|((with_reducible apply TX.region);(focus (simp only []<;>exact rfl));(focus rfl);(try dsimp only))|with_reducible refine TD.nil ?_|((with_reducible apply TD.pk);(repeat (focus (show _ = _;first|exact k2 rfl|(simp only [zz]<;>exact rfl))));(with_reducible refine TD.here ?_))|((with_reducible apply TD.skip1);(repeat (focus (show _ = _;(simp only [zz,twant,zp,zs,h32]<;>exact rfl))));(with_reducible refine TD.here ?_))|((with_reducible apply TX.cond_true);(focus rfl);(focus (rfl))))
              have hb:=Option.some.inj hr
              first|(cases hb;done)|(refine ⟨.inr rfl,?_⟩;first|(simp only [tresAll,tres,z1,hb,Option.map_some]<;>exact rfl)|(simp only [h2,h3,h4,h8,h30,h32] at hb;simp only [tresAll,tres,z1,hb,Option.map_some]<;>exact rfl))
            · rw [if_neg (by rw [h32];exact Bool.false_ne_true)] at hr
              repeat (first|((with_reducible first|apply TD.ld|apply TD.ia);(repeat (focus (show _ = _;first|exact k2 rfl|(simp only [zz,y36,Nat.reduceAdd,Nat.reduceMul,Nat.reduceLeDiff,tload,rowOf,partT,tindexAddr,Int.reduceToNat,Int.reduceLE,Int.reduceLT,Int.cast_ofNat_Int,h32]<;>exact rfl)|exact rfl)));(with_reducible refine TD.here ?_)))
              obtain ⟨⟨v34,v35⟩,h33,hr⟩:=Option.bind_eq_some_iff.1 hr
              try dsimp only at hr
              first|apply TD.cal (by first|rfl|(simp only [twant,z1,z7,h2,h3,h4,h8,h30,h32]<;>rfl)) rfl goFn35 (Spec.ov (ref03_BoundOf_spec h33) (by decide)) rfl rfl rfl|apply TD.calw (by first|rfl|(simp only [twant,z1,z7,h2,h3,h4,h8,h30,h32]<;>rfl)) rfl goFn35 (Spec.ov (ref03_BoundOf_spec h33) (by decide)) rfl rfl rfl rfl
              (repeat (focus (show _ = _;(simp only [zz,Nat.reduceAdd,shift]<;>exact rfl))))
              with_reducible apply TD.here
              apply TD.pop1 (by first|rfl|(simp only [twant,z1,z7,h2,h3,h4,h8,h30,h32]<;>rfl)) (pop_eqs2 (X:=⟨[.int .i64 (v10),.int .i64 (v11)]⟩) (Y:=⟨[.int .i64 (v34),.int .i64 (v35)]⟩) rfl rfl rfl rfl rfl rfl rfl eqg30 eqs30 rfl)
              (repeat (focus (show _ = _;(simp only [zz]<;>exact rfl))))
              with_reducible apply TD.here
              repeat (first|(with_reducible first|refine mv ?_|refine TD.nil ?_)|((with_reducible apply TD.pk);(repeat (focus (show _ = _;first|exact k2 rfl|(simp only [zz]<;>exact rfl))));(with_reducible refine TD.here ?_)))
              rcases Bool.eq_false_or_eq_true (([v10 == v34,v11 == v35].all id)) with h34|h34
              · rw [if_pos h34] at hr
                repeat (first|with_reducible refine mv ?_|((with_reducible first|apply TO.ld|apply TO.mv);(repeat (focus (show _ = _;first|exact k2 rfl|(simp only [zz,y36,Nat.reduceAdd,Nat.reduceLeDiff,tload,rowOf,partT,h34]<;>exact rfl)|exact rfl)));(with_reducible apply TO.here))|((with_reducible apply TX.region);(focus (simp only []<;>exact rfl));(focus rfl);(try dsimp only))|((with_reducible apply TX.cond_false);(focus rfl);(focus ((simp only [z1,Bool.not_true,h34];done)))))
                obtain ⟨v36,h35,hr⟩:=Option.bind_eq_some_iff.1 hr
                try dsimp only at hr
                apply TO.cal (by first|rfl|(simp only [twant,z1,z7,h2,h3,h4,h8,h30,h32,h34]<;>rfl)) rfl goFn33 (Spec.ov (ref03_EnergiesErr_spec h35) (by decide)) rfl rfl rfl
                (repeat (focus (show _ = _;(simp only [zz,shift]<;>exact rfl))))
                with_reducible apply TO.here
                repeat (first|(with_reducible first|refine mv ?_|refine TO.nil ?_)|((with_reducible apply TO.bin);(repeat (focus (show _ = _;first|exact k2 rfl|(simp only [zz]<;>exact rfl))));(with_reducible apply TO.here)))
                rcases Bool.eq_false_or_eq_true ((decide (v36 ≠ 0))) with h36|h36
                · rw [if_pos h36] at hr
                  repeat (first|(with_reducible first|refine mv ?_|refine TO.nil ?_)|((with_reducible apply TO.asg);(repeat (focus (show _ = _;first|exact k2 rfl|(simp only [zz,h36]<;>exact rfl))));(with_reducible apply TO.here))|((with_reducible apply TX.region);(focus (simp only []<;>exact rfl));(focus rfl);(try dsimp only))|((with_reducible apply TX.cond_true);(focus rfl);(focus ((simp only [z1,Bool.not_true,h36];done)))))
                  have hb:=Option.some.inj hr
                  first|(cases hb;done)|(refine ⟨.inr rfl,?_⟩;first|(simp only []<;>exact rfl)|(simp only [h2,h3,h4,h8,h30,h32,h34,h36] at hb;simp only [tresAll,tres,z1,hb,Option.map_some]<;>exact rfl))
                · rw [if_neg (by rw [h36];exact Bool.false_ne_true)] at hr
                  repeat (first|with_reducible refine mv ?_|((with_reducible apply TD.ld);(repeat (focus (show _ = _;first|exact k2 rfl|(simp only [zz,y36,Nat.reduceAdd,Nat.reduceLeDiff,tload,rowOf,partT,h36]<;>exact rfl)|exact rfl)));(with_reducible refine TD.here ?_))|((with_reducible apply TX.drawn);(focus decide +kernel);(focus (simp only []<;>exact rfl));(focus exact rfl);(try dsimp only))|((with_reducible apply TX.cond_false);(focus rfl);(focus ((simp only [z1,Bool.not_true,h36];done)))))
                  obtain ⟨⟨v37,v38⟩,h37,hr⟩:=Option.bind_eq_some_iff.1 hr
                  try dsimp only at hr
                  first|apply TD.cal (by first|rfl|(simp only [twant,z1,z7,h2,h3,h4,h8,h30,h32,h34,h36]<;>rfl)) rfl goFn21 (Spec.ov (ref03_CopyExchange_spec h37) (by decide)) rfl rfl rfl|apply TD.calw (by first|rfl|(simp only [twant,z1,z7,h2,h3,h4,h8,h30,h32,h34,h36]<;>rfl)) rfl goFn21 (Spec.ov (ref03_CopyExchange_spec h37) (by decide)) rfl rfl rfl rfl
                  (repeat (focus (show _ = _;(simp only [zz,Nat.reduceAdd,shift]<;>exact rfl))))
                  with_reducible apply TD.here
                  repeat (first|((with_reducible apply TD.mv);(repeat (focus (show _ = _;first|exact k2 rfl|(simp only [zz]<;>exact rfl))));(with_reducible refine TD.here ?_)))
                  obtain ⟨v39,h38,hr⟩:=Option.bind_eq_some_iff.1 hr
                  try dsimp only at hr
                  first|apply TD.cal (by first|rfl|(simp only [twant,z1,z7,h2,h3,h4,h8,h30,h32,h34,h36]<;>rfl)) rfl goFn32 (Spec.ov (ref03_Total_spec h38) (by decide)) rfl rfl rfl|apply TD.calw (by first|rfl|(simp only [twant,z1,z7,h2,h3,h4,h8,h30,h32,h34,h36]<;>rfl)) rfl goFn32 (Spec.ov (ref03_Total_spec h38) (by decide)) rfl rfl rfl rfl
                  (repeat (focus (show _ = _;(simp only [zz,shift]<;>exact rfl))))
                  with_reducible apply TD.here
                  repeat (first|((with_reducible first|apply TD.ia|apply TD.ld);(repeat (focus (show _ = _;first|exact k2 rfl|(simp only [zz,y36,Nat.reduceAdd,Nat.reduceMul,tindexAddr,Int.reduceToNat,Int.reduceLE,Int.reduceLT,Int.cast_ofNat_Int,tload,rowOf,partT]<;>exact rfl)|exact rfl)));(with_reducible refine TD.here ?_)))
                  obtain ⟨⟨v40,v41,v42⟩,h39,hr⟩:=Option.bind_eq_some_iff.1 hr
                  try dsimp only at hr
                  first|apply TD.lok (by first|rfl|(simp only [twant,z1,z7,h2,h3,h4,h8,h30,h32,h34,h36]<;>rfl)) rfl goFn34 (Spec.ov (energy_BoundOf_spec h39) (by decide)) (by simp only [view,z1,z3,tmlc]<;>rfl) rfl rfl (by simp [])|apply TD.lokw (by first|rfl|(simp only [twant,z1,z7,h2,h3,h4,h8,h30,h32,h34,h36]<;>rfl)) rfl goFn34 (Spec.ov (energy_BoundOf_spec h39) (by decide)) (by simp only [view,z1,z3,zl,tml,tmlc,List.length_set,Nat.reduceEqDiff,if_false]<;>rfl) rfl rfl (by simp [clTB,cl,e_i,e_Li_]) rfl
                  (repeat (focus (show _ = _;(simp only [zz,Nat.reduceAdd,shift]<;>exact rfl))))
                  with_reducible apply TD.here
                  repeat (first|(with_reducible first|refine mv ?_|refine TD.nil ?_)|((with_reducible first|apply TD.mv|apply TD.ext|apply TD.al|apply TD.sv|apply TD.asg|apply TD.ld);(repeat (focus (show _ = _;first|exact k1 rfl|exact k2 rfl|(simp only [zz,y36,Nat.reduceAdd,Nat.reduceLeDiff,tload,rowOf,partT]<;>exact rfl)|exact rfl)));(with_reducible refine TD.here ?_))|((with_reducible apply TX.drawn);(focus decide +kernel);(focus (simp only []<;>exact rfl));(focus exact rfl);(try dsimp only)))
                  obtain ⟨⟨v43,v44⟩,h40,hr⟩:=Option.bind_eq_some_iff.1 hr
                  try dsimp only at hr
                  first|apply TD.cal (by first|rfl|(simp only [twant,z1,z7,h2,h3,h4,h8,h30,h32,h34,h36]<;>rfl)) rfl goFn21 (Spec.ov (ref03_CopyExchange_spec h40) (by decide)) rfl rfl rfl|apply TD.calw (by first|rfl|(simp only [twant,z1,z7,h2,h3,h4,h8,h30,h32,h34,h36]<;>rfl)) rfl goFn21 (Spec.ov (ref03_CopyExchange_spec h40) (by decide)) rfl rfl rfl rfl
                  (repeat (focus (show _ = _;(simp only [zz,Nat.reduceAdd,shift]<;>exact rfl))))
                  with_reducible apply TD.here
                  repeat (first|((with_reducible apply TD.mv);(repeat (focus (show _ = _;first|exact k2 rfl|(simp only [zz]<;>exact rfl))));(with_reducible refine TD.here ?_)))
                  obtain ⟨v45,h41,hr⟩:=Option.bind_eq_some_iff.1 hr
                  try dsimp only at hr
                  first|apply TD.cal (by first|rfl|(simp only [twant,z1,z7,h2,h3,h4,h8,h30,h32,h34,h36]<;>rfl)) rfl goFn23 (Spec.ov (base_CopyInts_spec h41) (by decide)) rfl rfl rfl|apply TD.calw (by first|rfl|(simp only [twant,z1,z7,h2,h3,h4,h8,h30,h32,h34,h36]<;>rfl)) rfl goFn23 (Spec.ov (base_CopyInts_spec h41) (by decide)) rfl rfl rfl rfl
                  (repeat (focus (show _ = _;(simp only [zz,Nat.reduceAdd,shift]<;>exact rfl))))
                  with_reducible apply TD.here
                  repeat (first|((with_reducible first|apply TD.ia|apply TD.ld);(repeat (focus (show _ = _;first|exact k2 rfl|(simp only [zz,y36,Nat.reduceAdd,Nat.reduceMul,tindexAddr,Int.reduceToNat,Int.reduceLE,Int.reduceLT,Int.cast_ofNat_Int,tload,rowOf,partT]<;>exact rfl)|exact rfl)));(with_reducible refine TD.here ?_)))
                  obtain ⟨⟨v46,v47,v48⟩,h42,hr⟩:=Option.bind_eq_some_iff.1 hr
                  try dsimp only at hr
                  first|apply TD.lok (by first|rfl|(simp only [twant,z1,z7,h2,h3,h4,h8,h30,h32,h34,h36]<;>rfl)) rfl goFn24 (Spec.ov (energy_Run_spec h42) (by decide)) (by simp only [view,z1,z3,tmlc]<;>rfl) rfl rfl (by simp [clTB,cl,e_i])|apply TD.lokw (by first|rfl|(simp only [twant,z1,z7,h2,h3,h4,h8,h30,h32,h34,h36]<;>rfl)) rfl goFn24 (Spec.ov (energy_Run_spec h42) (by decide)) (by simp only [view,z1,z3,zl,tml,tmlc,List.length_set,Nat.reduceEqDiff,if_false]<;>rfl) rfl rfl (by simp [clTB,cl,e_i,e_Li_]) rfl
                  (repeat (focus (show _ = _;(simp only [zz,Nat.reduceAdd,shift]<;>exact rfl))))
                  with_reducible apply TD.here
                  repeat (first|(with_reducible first|refine mv ?_|refine TD.nil ?_)|((with_reducible first|apply TD.mv|apply TD.ext|apply TD.asg|apply TD.bin);(repeat (focus (show _ = _;first|exact k2 rfl|(simp only [zz]<;>exact rfl))));(with_reducible refine TD.here ?_))|((with_reducible apply TX.drawn);(focus decide +kernel);(focus (simp only []<;>exact rfl));(focus exact rfl);(try dsimp only)))
                  rcases Bool.eq_false_or_eq_true ((decide (v42 = 0))) with h43|h43
                  · rw [if_pos h43] at hr
                    repeat (first|((with_reducible first|apply TD.mv|apply TD.bin|apply TD.pk);(repeat (focus (show _ = _;first|exact k2 rfl|(simp only [zz,h43]<;>exact rfl))));(with_reducible refine TD.here ?_)))
                    rcases Bool.eq_false_or_eq_true ((decide (v48 = 0))) with h44|h44
                    · rw [if_pos h44] at hr
                      repeat (first|((with_reducible apply TD.mv);(repeat (focus (show _ = _;(simp only [zz,h44]<;>exact rfl))));(with_reducible refine TD.here ?_)))
                      obtain ⟨v49,h45,hr⟩:=Option.bind_eq_some_iff.1 hr
                      try dsimp only at hr
                      first|apply TD.lok (by first|rfl|(simp only [twant,z1,z7,h2,h3,h4,h8,h30,h32,h34,h36,h43,h44]<;>rfl)) rfl goFn32 (Spec.ov (ref03_Total_spec h45) (by decide)) (by simp only [view,z1,z3,tmlc]<;>rfl) rfl rfl (by simp [])|apply TD.lokw (by first|rfl|(simp only [twant,z1,z7,h2,h3,h4,h8,h30,h32,h34,h36,h43,h44]<;>rfl)) rfl goFn32 (Spec.ov (ref03_Total_spec h45) (by decide)) (by simp only [view,z1,z3,zl,tml,tmlc,List.length_set,Nat.reduceEqDiff,if_false]<;>rfl) rfl rfl (by simp [clTB,cl,e_i,e_Li_]) rfl
                      (repeat (focus (show _ = _;(simp only [zz,shift]<;>exact rfl))))
                      with_reducible apply TD.here
                      repeat (first|((with_reducible first|apply TD.fa|apply TD.ld);(repeat (focus (show _ = _;first|exact k2 rfl|(simp only [zz,y36,Nat.reduceAdd,tfieldAddr,tload,rowOf,partT]<;>exact rfl)|exact rfl)));(with_reducible refine TD.here ?_)))
                      obtain ⟨v50,h46,hr⟩:=Option.bind_eq_some_iff.1 hr
                      try dsimp only at hr
                      first|apply TD.cal (by first|rfl|(simp only [twant,z1,z7,h2,h3,h4,h8,h30,h32,h34,h36,h43,h44]<;>rfl)) rfl goFn31 (Spec.ov (base_Within_spec h46) (by decide)) rfl rfl rfl|apply TD.calw (by first|rfl|(simp only [twant,z1,z7,h2,h3,h4,h8,h30,h32,h34,h36,h43,h44]<;>rfl)) rfl goFn31 (Spec.ov (base_Within_spec h46) (by decide)) rfl rfl rfl rfl
                      (repeat (focus (show _ = _;(simp only [zz,shift]<;>exact rfl))))
                      with_reducible apply TD.here
                      repeat (first|(with_reducible first|refine mv ?_|refine TD.nil ?_)|((with_reducible first|apply TD.pk|apply TD.asg);(repeat (focus (show _ = _;first|exact k2 rfl|(simp only [zz]<;>exact rfl))));(with_reducible refine TD.here ?_)))
                      have hb:=Option.some.inj hr
                      first|(cases hb;done)|(refine ⟨.inr rfl,?_⟩;first|(simp only [hb]<;>exact rfl)|(simp only [h2,h3,h4,h8,h30,h32,h34,h36,h43,h44] at hb;simp only [tresAll,tres,z1,hb,Option.map_some]<;>exact rfl))
                    · rw [if_neg (by rw [h44];exact Bool.false_ne_true)] at hr
                      repeat (first|(with_reducible first|refine mv ?_|refine TD.nil ?_)|((with_reducible first|apply TD.pk|apply TD.asg);(repeat (focus (show _ = _;first|exact k2 rfl|(simp only [zz]<;>exact rfl))));(with_reducible refine TD.here ?_))|((with_reducible apply TD.skip1);(repeat (focus (show _ = _;(simp only [zz,twant,zp,zs,h44]<;>exact rfl))));(with_reducible refine TD.here ?_)))
                      have hb:=Option.some.inj hr
                      first|(cases hb;done)|(refine ⟨.inr rfl,?_⟩;first|(simp only [tresAll,tres,z1,hb,Option.map_some]<;>exact rfl)|(simp only [h2,h3,h4,h8,h30,h32,h34,h36,h43,h44] at hb;simp only [tresAll,tres,z1,hb,Option.map_some]<;>exact rfl))
                  · rw [if_neg (by rw [h43];exact Bool.false_ne_true)] at hr
                    repeat (first|(with_reducible first|refine mv ?_|refine TD.nil ?_)|((with_reducible first|apply TD.pk|apply TD.mv|apply TD.asg);(repeat (focus (show _ = _;first|exact k2 rfl|(simp only [zz,h43]<;>exact rfl))));(with_reducible refine TD.here ?_))|((with_reducible apply TD.skip1);(repeat (focus (show _ = _;(simp only [zz,twant,zp,zs,h43]<;>exact rfl))));(with_reducible refine TD.here ?_)))
                    have hb:=Option.some.inj hr
                    first|(cases hb;done)|(refine ⟨.inr rfl,?_⟩;first|(simp only [tresAll,tres,z1,hb,Option.map_some]<;>exact rfl)|(simp only [h2,h3,h4,h8,h30,h32,h34,h36,h43] at hb;simp only [tresAll,tres,z1,hb,Option.map_some]<;>exact rfl))
              · rw [if_neg (by rw [h34];exact Bool.false_ne_true)] at hr
                repeat (first|(with_reducible first|refine mv ?_|refine TO.nil ?_)|((with_reducible apply TO.asg);(repeat (focus (show _ = _;first|exact k2 rfl|(simp only [zz,h34]<;>exact rfl))));(with_reducible apply TO.here))|((with_reducible apply TX.region);(focus (simp only []<;>exact rfl));(focus rfl);(try dsimp only))|((with_reducible apply TX.cond_true);(focus rfl);(focus ((simp only [z1,zn,h34];done)))))
                have hb:=Option.some.inj hr
                first|(cases hb;done)|(refine ⟨.inr rfl,?_⟩;first|(simp only [tresAll,tres,z1,hb,Option.map_some]<;>exact rfl)|(simp only [h2,h3,h4,h8,h30,h32,h34] at hb;simp only [tresAll,tres,z1,hb,Option.map_some]<;>exact rfl))
    · rw [if_neg (by rw [h3];exact Bool.false_ne_true)] at hr
      repeat (first|(with_reducible first|refine mv ?_|refine TO.nil ?_)|((with_reducible apply TO.pk);(repeat (focus (show _ = _;first|exact k2 rfl|(simp only [zz]<;>exact rfl))));(with_reducible apply TO.here))|((with_reducible apply TO.skip1);(repeat (focus (show _ = _;(simp only [zz,twant,zp,zs,h3]<;>exact rfl))));(with_reducible apply TO.here))|((with_reducible apply TD.ld);(repeat (focus (show _ = _;first|exact k2 rfl|(simp only [zz,y36,Nat.reduceAdd,Nat.reduceLeDiff,tload,rowOf,partT]<;>exact rfl)|exact rfl)));(with_reducible refine TD.here ?_))|((with_reducible apply TX.drawn);(focus decide +kernel);(focus (simp only []<;>exact rfl));(focus exact rfl);(try dsimp only))|((with_reducible apply TX.cond_false);(focus rfl);(focus (rfl))))
      obtain ⟨⟨v51,v52⟩,h47,hr⟩:=Option.bind_eq_some_iff.1 hr
      try dsimp only at hr
      first|apply TD.cal (by first|rfl|(simp only [twant,z1,z7,h2,h3]<;>rfl)) rfl goFn21 (Spec.ov (ref03_CopyExchange_spec h47) (by decide)) rfl rfl rfl|apply TD.calw (by first|rfl|(simp only [twant,z1,z7,h2,h3]<;>rfl)) rfl goFn21 (Spec.ov (ref03_CopyExchange_spec h47) (by decide)) rfl rfl rfl rfl
      (repeat (focus (show _ = _;(simp only [zz,Nat.reduceAdd,shift]<;>exact rfl))))
      with_reducible apply TD.here
      repeat (first|((with_reducible first|apply TD.ia|apply TD.ld);(repeat (focus (show _ = _;first|exact k2 rfl|(simp only [zz,y36,Nat.reduceAdd,Nat.reduceMul,tindexAddr,Int.reduceToNat,Int.reduceLE,Int.reduceLT,Int.cast_ofNat_Int,tload,rowOf,partT]<;>exact rfl)|exact rfl)));(with_reducible refine TD.here ?_)))
      obtain ⟨⟨v53,v54,v55⟩,h48,hr⟩:=Option.bind_eq_some_iff.1 hr
      try dsimp only at hr
      first|apply TD.lok (by first|rfl|(simp only [twant,z1,z7,h2,h3]<;>rfl)) rfl goFn34 (Spec.ov (energy_BoundOf_spec h48) (by decide)) (by simp only [view,z1,z3,tmlc]<;>rfl) rfl rfl (by simp [])|apply TD.lokw (by first|rfl|(simp only [twant,z1,z7,h2,h3]<;>rfl)) rfl goFn34 (Spec.ov (energy_BoundOf_spec h48) (by decide)) (by simp only [view,z1,z3,zl,tml,tmlc,List.length_set,Nat.reduceEqDiff,if_false]<;>rfl) rfl rfl (by simp [clTB,cl,e_i,e_Li_]) rfl
      (repeat (focus (show _ = _;(simp only [zz,Nat.reduceAdd,shift]<;>exact rfl))))
      with_reducible apply TD.here
      repeat (first|with_reducible refine mv ?_|((with_reducible apply TO.ld);(repeat (focus (show _ = _;first|exact k2 rfl|(simp only [zz,y36,Nat.reduceAdd,Nat.reduceLeDiff,tload,rowOf,partT]<;>exact rfl)|exact rfl)));(with_reducible apply TO.here))|((with_reducible apply TX.region);(focus (simp only []<;>exact rfl));(focus rfl);(try dsimp only))|with_reducible refine TD.nil ?_|((with_reducible first|apply TD.mv|apply TD.ext|apply TD.al|apply TD.sv|apply TD.asg);(repeat (focus (show _ = _;first|exact k1 rfl|exact k2 rfl|(simp only [zz,y36,Nat.reduceAdd]<;>exact rfl))));(with_reducible refine TD.here ?_)))
      obtain ⟨⟨v56,v57⟩,h49,hr⟩:=Option.bind_eq_some_iff.1 hr
      try dsimp only at hr
      apply TO.cal (by first|rfl|(simp only [twant,z1,z7,h2,h3]<;>rfl)) rfl goFn25 (Spec.ov (ref03_CheckExchange_spec h49) (by decide)) rfl rfl rfl
      (repeat (focus (show _ = _;(simp only [zz,Nat.reduceAdd,shift]<;>exact rfl))))
      with_reducible apply TO.here
      repeat (first|(with_reducible first|refine mv ?_|refine TO.nil ?_)|((with_reducible first|apply TO.mv|apply TO.ext|apply TO.asg|apply TO.bin);(repeat (focus (show _ = _;first|exact k2 rfl|(simp only [zz]<;>exact rfl))));(with_reducible apply TO.here))|((with_reducible apply TX.region);(focus (simp only []<;>exact rfl));(focus rfl);(try dsimp only)))
      rcases Bool.eq_false_or_eq_true ((decide (v57 = 0))) with h50|h50
      · rw [if_pos h50] at hr
        repeat (first|((with_reducible first|apply TO.ia|apply TO.ld);(repeat (focus (show _ = _;first|exact k2 rfl|(simp only [zz,y36,Nat.reduceAdd,Nat.reduceMul,tindexAddr,Int.reduceToNat,Int.reduceLE,Int.reduceLT,Int.cast_ofNat_Int,tload,rowOf,partT,h50]<;>exact rfl)|exact rfl)));(with_reducible apply TO.here)))
        obtain ⟨v58,h51,hr⟩:=Option.bind_eq_some_iff.1 hr
        try dsimp only at hr
        apply TO.cal (by first|rfl|(simp only [twant,z1,z7,h2,h3,h50]<;>rfl)) rfl goFn31 (Spec.ov (base_Within_spec h51) (by decide)) rfl rfl rfl
        (repeat (focus (show _ = _;(simp only [zz,shift]<;>exact rfl))))
        with_reducible apply TO.here
        apply TO.pop1 (by first|rfl|(simp only [twant,z1,z7,h2,h3,h50]<;>rfl)) (pop_not rfl)
        (repeat (focus (show _ = _;(simp only [zz]<;>exact rfl))))
        with_reducible apply TO.here
        repeat (first|(with_reducible first|refine mv ?_|refine TO.nil ?_)|((with_reducible apply TO.pk);(repeat (focus (show _ = _;first|exact k2 rfl|(simp only [zz]<;>exact rfl))));(with_reducible apply TO.here)))
        rcases Bool.eq_false_or_eq_true (v58) with h52|h52
        · rw [if_pos h52] at hr
          repeat (first|(with_reducible first|refine mv ?_|refine TO.nil ?_)|((with_reducible first|apply TO.mv|apply TO.bin|apply TO.ia|apply TO.ld);(repeat (focus (show _ = _;first|exact k2 rfl|(simp only [zz,y36,Nat.reduceAdd,Nat.reduceMul,tindexAddr,Int.reduceToNat,Int.reduceLE,Int.reduceLT,Int.cast_ofNat_Int,tload,rowOf,partT,h50,h52]<;>exact rfl)|exact rfl)));(with_reducible apply TO.here))|((with_reducible apply TX.region);(focus (simp only []<;>exact rfl));(focus rfl);(try dsimp only))|((with_reducible apply TX.cond_true);(focus rfl);(focus (rfl)))|((with_reducible apply TX.cond_false);(focus rfl);(focus ((simp only [z1,Bool.not_true,h52];done)))))
          obtain ⟨v59,h53,hr⟩:=Option.bind_eq_some_iff.1 hr
          try dsimp only at hr
          apply TO.cal (by first|rfl|(simp only [twant,z1,z7,h2,h3,h50,h52]<;>rfl)) rfl goFn29 (Spec.ov (ref03_StepsErr_spec h53) (by decide)) rfl rfl rfl
          (repeat (focus (show _ = _;(simp only [zz,shift]<;>exact rfl))))
          with_reducible apply TO.here
          repeat (first|(with_reducible first|refine mv ?_|refine TO.nil ?_)|((with_reducible first|apply TO.asg|apply TO.mv|apply TO.bin);(repeat (focus (show _ = _;first|exact k2 rfl|(simp only [zz]<;>exact rfl))));(with_reducible apply TO.here))|((with_reducible apply TX.region);(focus (simp only []<;>exact rfl));(focus rfl);(try dsimp only)))
          rcases Bool.eq_false_or_eq_true ((decide (v59 ≠ 0))) with h54|h54
          · rw [if_pos h54] at hr
            repeat (first|with_reducible refine mv ?_|((with_reducible first|apply TO.mv|apply TO.bin);(repeat (focus (show _ = _;first|exact k2 rfl|(simp only [zz,h54]<;>exact rfl))));(with_reducible apply TO.here))|((with_reducible apply TX.region);(focus (simp only []<;>exact rfl));(focus rfl);(try dsimp only))|((with_reducible apply TX.cond_true);(focus rfl);(focus ((simp only [z1,Bool.not_true,h54];done)))))
            rcases Bool.eq_false_or_eq_true ((decide (v55 = v59))) with h55|h55
            · rw [if_pos h55] at hr
              repeat (first|((with_reducible first|apply TO.ld|apply TO.bld);(repeat (focus (show _ = _;first|exact k2 rfl|(simp only [zz,y36,Nat.reduceAdd,Nat.reduceLeDiff,tload,rowOf,partT,tbuild,tfill,h55]<;>exact rfl)|exact rfl)));(with_reducible apply TO.here)))
              apply TO.pop1 (by first|rfl|(simp only [twant,z1,z7,h2,h3,h50,h52,h54,h55]<;>rfl)) (pop_eqs1 (X:=⟨[.int .i64 (v53),.int .i64 (v54)]⟩) (Y:=⟨[.int .i64 (0),.int .i64 (0)]⟩) rfl rfl rfl rfl rfl rfl rfl eqg30 eqs30 rfl)
              (repeat (focus (show _ = _;(simp only [zz]<;>exact rfl))))
              with_reducible apply TO.here
              repeat (first|(with_reducible first|refine mv ?_|refine TO.nil ?_)|((with_reducible first|apply TO.pk|apply TO.asg);(repeat (focus (show _ = _;first|exact k2 rfl|(simp only [zz]<;>exact rfl))));(with_reducible apply TO.here)))
              have hb:=Option.some.inj hr
              first|(cases hb;done)|(refine ⟨.inr rfl,?_⟩;first|(simp only [hb]<;>exact rfl)|(simp only [h2,h3,h50,h52,h54,h55] at hb;simp only [tresAll,tres,z1,hb,Option.map_some]<;>exact rfl))
            · rw [if_neg (by rw [h55];exact Bool.false_ne_true)] at hr
              repeat (first|(with_reducible first|refine mv ?_|refine TO.nil ?_)|((with_reducible first|apply TO.pk|apply TO.asg);(repeat (focus (show _ = _;first|exact k2 rfl|(simp only [zz]<;>exact rfl))));(with_reducible apply TO.here))|((with_reducible apply TO.skip1);(repeat (focus (show _ = _;(simp only [zz,twant,zp,zs,h55]<;>exact rfl))));(with_reducible apply TO.here)))
              have hb:=Option.some.inj hr
              first|(cases hb;done)|(refine ⟨.inr rfl,?_⟩;first|(simp only [tresAll,tres,z1,hb,Option.map_some]<;>exact rfl)|(simp only [h2,h3,h50,h52,h54,h55] at hb;simp only [tresAll,tres,z1,hb,Option.map_some]<;>exact rfl))
          · rw [if_neg (by rw [h54];exact Bool.false_ne_true)] at hr
            repeat (first|with_reducible refine mv ?_|((with_reducible first|apply TD.mv|apply TD.bin);(repeat (focus (show _ = _;first|exact k2 rfl|(simp only [zz,h54]<;>exact rfl))));(with_reducible refine TD.here ?_))|((with_reducible apply TX.drawn);(focus decide +kernel);(focus (simp only []<;>exact rfl));(focus exact rfl);(try dsimp only))|((with_reducible apply TX.cond_false);(focus rfl);(focus ((simp only [z1,Bool.not_true,h54];done)))))
            rcases Bool.eq_false_or_eq_true ((decide (v55 ≠ 0))) with h56|h56
            · rw [if_pos h56] at hr
              repeat (first|(with_reducible first|refine mv ?_|refine TO.nil ?_)|((with_reducible apply TO.asg);(repeat (focus (show _ = _;first|exact k2 rfl|(simp only [zz]<;>exact rfl))));(with_reducible apply TO.here))|((with_reducible apply TX.region);(focus (simp only []<;>exact rfl));(focus rfl);(try dsimp only))|with_reducible refine TD.nil ?_|((with_reducible apply TD.pk);(repeat (focus (show _ = _;first|exact k2 rfl|(simp only [zz]<;>exact rfl))));(with_reducible refine TD.here ?_))|((with_reducible apply TD.skip1);(repeat (focus (show _ = _;(simp only [zz,twant,zp,zs,h56]<;>exact rfl))));(with_reducible refine TD.here ?_))|((with_reducible apply TX.cond_true);(focus rfl);(focus (rfl))))
              have hb:=Option.some.inj hr
              first|(cases hb;done)|(refine ⟨.inr rfl,?_⟩;first|(simp only [tresAll,tres,z1,hb,Option.map_some]<;>exact rfl)|(simp only [h2,h3,h50,h52,h54,h56] at hb;simp only [tresAll,tres,z1,hb,Option.map_some]<;>exact rfl))
            · rw [if_neg (by rw [h56];exact Bool.false_ne_true)] at hr
              repeat (first|((with_reducible first|apply TD.ld|apply TD.ia);(repeat (focus (show _ = _;first|exact k2 rfl|(simp only [zz,y36,Nat.reduceAdd,Nat.reduceMul,Nat.reduceLeDiff,tload,rowOf,partT,tindexAddr,Int.reduceToNat,Int.reduceLE,Int.reduceLT,Int.cast_ofNat_Int,h56]<;>exact rfl)|exact rfl)));(with_reducible refine TD.here ?_)))
              obtain ⟨⟨v60,v61⟩,h57,hr⟩:=Option.bind_eq_some_iff.1 hr
              try dsimp only at hr
              first|apply TD.cal (by first|rfl|(simp only [twant,z1,z7,h2,h3,h50,h52,h54,h56]<;>rfl)) rfl goFn35 (Spec.ov (ref03_BoundOf_spec h57) (by decide)) rfl rfl rfl|apply TD.calw (by first|rfl|(simp only [twant,z1,z7,h2,h3,h50,h52,h54,h56]<;>rfl)) rfl goFn35 (Spec.ov (ref03_BoundOf_spec h57) (by decide)) rfl rfl rfl rfl
              (repeat (focus (show _ = _;(simp only [zz,Nat.reduceAdd,shift]<;>exact rfl))))
              with_reducible apply TD.here
              apply TD.pop1 (by first|rfl|(simp only [twant,z1,z7,h2,h3,h50,h52,h54,h56]<;>rfl)) (pop_eqs2 (X:=⟨[.int .i64 (v53),.int .i64 (v54)]⟩) (Y:=⟨[.int .i64 (v60),.int .i64 (v61)]⟩) rfl rfl rfl rfl rfl rfl rfl eqg30 eqs30 rfl)
              (repeat (focus (show _ = _;(simp only [zz]<;>exact rfl))))
              with_reducible apply TD.here
              repeat (first|(with_reducible first|refine mv ?_|refine TD.nil ?_)|((with_reducible apply TD.pk);(repeat (focus (show _ = _;first|exact k2 rfl|(simp only [zz]<;>exact rfl))));(with_reducible refine TD.here ?_)))
              rcases Bool.eq_false_or_eq_true (([v53 == v60,v54 == v61].all id)) with h58|h58
              · rw [if_pos h58] at hr
                repeat (first|with_reducible refine mv ?_|((with_reducible first|apply TO.ld|apply TO.mv);(repeat (focus (show _ = _;first|exact k2 rfl|(simp only [zz,y36,Nat.reduceAdd,Nat.reduceLeDiff,tload,rowOf,partT,h58]<;>exact rfl)|exact rfl)));(with_reducible apply TO.here))|((with_reducible apply TX.region);(focus (simp only []<;>exact rfl));(focus rfl);(try dsimp only))|((with_reducible apply TX.cond_false);(focus rfl);(focus ((simp only [z1,Bool.not_true,h58];done)))))
                obtain ⟨v62,h59,hr⟩:=Option.bind_eq_some_iff.1 hr
                try dsimp only at hr
                apply TO.cal (by first|rfl|(simp only [twant,z1,z7,h2,h3,h50,h52,h54,h56,h58]<;>rfl)) rfl goFn33 (Spec.ov (ref03_EnergiesErr_spec h59) (by decide)) rfl rfl rfl
                (repeat (focus (show _ = _;(simp only [zz,shift]<;>exact rfl))))
                with_reducible apply TO.here
                repeat (first|(with_reducible first|refine mv ?_|refine TO.nil ?_)|((with_reducible apply TO.bin);(repeat (focus (show _ = _;first|exact k2 rfl|(simp only [zz]<;>exact rfl))));(with_reducible apply TO.here)))
                rcases Bool.eq_false_or_eq_true ((decide (v62 ≠ 0))) with h60|h60
                · rw [if_pos h60] at hr
                  repeat (first|(with_reducible first|refine mv ?_|refine TO.nil ?_)|((with_reducible apply TO.asg);(repeat (focus (show _ = _;first|exact k2 rfl|(simp only [zz,h60]<;>exact rfl))));(with_reducible apply TO.here))|((with_reducible apply TX.region);(focus (simp only []<;>exact rfl));(focus rfl);(try dsimp only))|((with_reducible apply TX.cond_true);(focus rfl);(focus ((simp only [z1,Bool.not_true,h60];done)))))
                  have hb:=Option.some.inj hr
                  first|(cases hb;done)|(refine ⟨.inr rfl,?_⟩;first|(simp only []<;>exact rfl)|(simp only [h2,h3,h50,h52,h54,h56,h58,h60] at hb;simp only [tresAll,tres,z1,hb,Option.map_some]<;>exact rfl))
                · rw [if_neg (by rw [h60];exact Bool.false_ne_true)] at hr
                  repeat (first|with_reducible refine mv ?_|((with_reducible apply TD.ld);(repeat (focus (show _ = _;first|exact k2 rfl|(simp only [zz,y36,Nat.reduceAdd,Nat.reduceLeDiff,tload,rowOf,partT,h60]<;>exact rfl)|exact rfl)));(with_reducible refine TD.here ?_))|((with_reducible apply TX.drawn);(focus decide +kernel);(focus (simp only []<;>exact rfl));(focus exact rfl);(try dsimp only))|((with_reducible apply TX.cond_false);(focus rfl);(focus ((simp only [z1,Bool.not_true,h60];done)))))
                  obtain ⟨⟨v63,v64⟩,h61,hr⟩:=Option.bind_eq_some_iff.1 hr
                  try dsimp only at hr
                  first|apply TD.cal (by first|rfl|(simp only [twant,z1,z7,h2,h3,h50,h52,h54,h56,h58,h60]<;>rfl)) rfl goFn21 (Spec.ov (ref03_CopyExchange_spec h61) (by decide)) rfl rfl rfl|apply TD.calw (by first|rfl|(simp only [twant,z1,z7,h2,h3,h50,h52,h54,h56,h58,h60]<;>rfl)) rfl goFn21 (Spec.ov (ref03_CopyExchange_spec h61) (by decide)) rfl rfl rfl rfl
                  (repeat (focus (show _ = _;(simp only [zz,Nat.reduceAdd,shift]<;>exact rfl))))
                  with_reducible apply TD.here
                  repeat (first|((with_reducible apply TD.mv);(repeat (focus (show _ = _;first|exact k2 rfl|(simp only [zz]<;>exact rfl))));(with_reducible refine TD.here ?_)))
                  obtain ⟨v65,h62,hr⟩:=Option.bind_eq_some_iff.1 hr
                  try dsimp only at hr
                  first|apply TD.cal (by first|rfl|(simp only [twant,z1,z7,h2,h3,h50,h52,h54,h56,h58,h60]<;>rfl)) rfl goFn32 (Spec.ov (ref03_Total_spec h62) (by decide)) rfl rfl rfl|apply TD.calw (by first|rfl|(simp only [twant,z1,z7,h2,h3,h50,h52,h54,h56,h58,h60]<;>rfl)) rfl goFn32 (Spec.ov (ref03_Total_spec h62) (by decide)) rfl rfl rfl rfl
                  (repeat (focus (show _ = _;(simp only [zz,shift]<;>exact rfl))))
                  with_reducible apply TD.here
                  repeat (first|((with_reducible first|apply TD.ia|apply TD.ld);(repeat (focus (show _ = _;first|exact k2 rfl|(simp only [zz,y36,Nat.reduceAdd,Nat.reduceMul,tindexAddr,Int.reduceToNat,Int.reduceLE,Int.reduceLT,Int.cast_ofNat_Int,tload,rowOf,partT]<;>exact rfl)|exact rfl)));(with_reducible refine TD.here ?_)))
                  obtain ⟨⟨v66,v67,v68⟩,h63,hr⟩:=Option.bind_eq_some_iff.1 hr
                  try dsimp only at hr
                  first|apply TD.lok (by first|rfl|(simp only [twant,z1,z7,h2,h3,h50,h52,h54,h56,h58,h60]<;>rfl)) rfl goFn34 (Spec.ov (energy_BoundOf_spec h63) (by decide)) (by simp only [view,z1,z3,tmlc]<;>rfl) rfl rfl (by simp [])|apply TD.lokw (by first|rfl|(simp only [twant,z1,z7,h2,h3,h50,h52,h54,h56,h58,h60]<;>rfl)) rfl goFn34 (Spec.ov (energy_BoundOf_spec h63) (by decide)) (by simp only [view,z1,z3,zl,tml,tmlc,List.length_set,Nat.reduceEqDiff,if_false]<;>rfl) rfl rfl (by simp [clTB,cl,e_i,e_Li_]) rfl
                  (repeat (focus (show _ = _;(simp only [zz,Nat.reduceAdd,shift]<;>exact rfl))))
                  with_reducible apply TD.here
                  repeat (first|(with_reducible first|refine mv ?_|refine TD.nil ?_)|((with_reducible first|apply TD.mv|apply TD.ext|apply TD.al|apply TD.sv|apply TD.asg|apply TD.ld);(repeat (focus (show _ = _;first|exact k1 rfl|exact k2 rfl|(simp only [zz,y36,Nat.reduceAdd,Nat.reduceLeDiff,tload,rowOf,partT]<;>exact rfl)|exact rfl)));(with_reducible refine TD.here ?_))|((with_reducible apply TX.drawn);(focus decide +kernel);(focus (simp only []<;>exact rfl));(focus exact rfl);(try dsimp only)))
                  obtain ⟨⟨v69,v70⟩,h64,hr⟩:=Option.bind_eq_some_iff.1 hr
                  try dsimp only at hr
                  first|apply TD.cal (by first|rfl|(simp only [twant,z1,z7,h2,h3,h50,h52,h54,h56,h58,h60]<;>rfl)) rfl goFn21 (Spec.ov (ref03_CopyExchange_spec h64) (by decide)) rfl rfl rfl|apply TD.calw (by first|rfl|(simp only [twant,z1,z7,h2,h3,h50,h52,h54,h56,h58,h60]<;>rfl)) rfl goFn21 (Spec.ov (ref03_CopyExchange_spec h64) (by decide)) rfl rfl rfl rfl
                  (repeat (focus (show _ = _;(simp only [zz,Nat.reduceAdd,shift]<;>exact rfl))))
                  with_reducible apply TD.here
                  repeat (first|((with_reducible apply TD.mv);(repeat (focus (show _ = _;first|exact k2 rfl|(simp only [zz]<;>exact rfl))));(with_reducible refine TD.here ?_)))
                  obtain ⟨v71,h65,hr⟩:=Option.bind_eq_some_iff.1 hr
                  try dsimp only at hr
                  first|apply TD.cal (by first|rfl|(simp only [twant,z1,z7,h2,h3,h50,h52,h54,h56,h58,h60]<;>rfl)) rfl goFn23 (Spec.ov (base_CopyInts_spec h65) (by decide)) rfl rfl rfl|apply TD.calw (by first|rfl|(simp only [twant,z1,z7,h2,h3,h50,h52,h54,h56,h58,h60]<;>rfl)) rfl goFn23 (Spec.ov (base_CopyInts_spec h65) (by decide)) rfl rfl rfl rfl
                  (repeat (focus (show _ = _;(simp only [zz,Nat.reduceAdd,shift]<;>exact rfl))))
                  with_reducible apply TD.here
                  repeat (first|((with_reducible first|apply TD.ia|apply TD.ld);(repeat (focus (show _ = _;first|exact k2 rfl|(simp only [zz,y36,Nat.reduceAdd,Nat.reduceMul,tindexAddr,Int.reduceToNat,Int.reduceLE,Int.reduceLT,Int.cast_ofNat_Int,tload,rowOf,partT]<;>exact rfl)|exact rfl)));(with_reducible refine TD.here ?_)))
                  obtain ⟨⟨v72,v73,v74⟩,h66,hr⟩:=Option.bind_eq_some_iff.1 hr
                  try dsimp only at hr
                  first|apply TD.lok (by first|rfl|(simp only [twant,z1,z7,h2,h3,h50,h52,h54,h56,h58,h60]<;>rfl)) rfl goFn24 (Spec.ov (energy_Run_spec h66) (by decide)) (by simp only [view,z1,z3,tmlc]<;>rfl) rfl rfl (by simp [clTB,cl,e_i])|apply TD.lokw (by first|rfl|(simp only [twant,z1,z7,h2,h3,h50,h52,h54,h56,h58,h60]<;>rfl)) rfl goFn24 (Spec.ov (energy_Run_spec h66) (by decide)) (by simp only [view,z1,z3,zl,tml,tmlc,List.length_set,Nat.reduceEqDiff,if_false]<;>rfl) rfl rfl (by simp [clTB,cl,e_i,e_Li_]) rfl
                  (repeat (focus (show _ = _;(simp only [zz,Nat.reduceAdd,shift]<;>exact rfl))))
                  with_reducible apply TD.here
                  repeat (first|(with_reducible first|refine mv ?_|refine TD.nil ?_)|((with_reducible first|apply TD.mv|apply TD.ext|apply TD.asg|apply TD.bin);(repeat (focus (show _ = _;first|exact k2 rfl|(simp only [zz]<;>exact rfl))));(with_reducible refine TD.here ?_))|((with_reducible apply TX.drawn);(focus decide +kernel);(focus (simp only []<;>exact rfl));(focus exact rfl);(try dsimp only)))
                  rcases Bool.eq_false_or_eq_true ((decide (v68 = 0))) with h67|h67
                  · rw [if_pos h67] at hr
                    repeat (first|((with_reducible first|apply TD.mv|apply TD.bin|apply TD.pk);(repeat (focus (show _ = _;first|exact k2 rfl|(simp only [zz,h67]<;>exact rfl))));(with_reducible refine TD.here ?_)))
                    rcases Bool.eq_false_or_eq_true ((decide (v74 = 0))) with h68|h68
                    · rw [if_pos h68] at hr
                      repeat (first|((with_reducible apply TD.mv);(repeat (focus (show _ = _;(simp only [zz,h68]<;>exact rfl))));(with_reducible refine TD.here ?_)))
                      obtain ⟨v75,h69,hr⟩:=Option.bind_eq_some_iff.1 hr
                      try dsimp only at hr
                      first|apply TD.lok (by first|rfl|(simp only [twant,z1,z7,h2,h3,h50,h52,h54,h56,h58,h60,h67,h68]<;>rfl)) rfl goFn32 (Spec.ov (ref03_Total_spec h69) (by decide)) (by simp only [view,z1,z3,tmlc]<;>rfl) rfl rfl (by simp [])|apply TD.lokw (by first|rfl|(simp only [twant,z1,z7,h2,h3,h50,h52,h54,h56,h58,h60,h67,h68]<;>rfl)) rfl goFn32 (Spec.ov (ref03_Total_spec h69) (by decide)) (by simp only [view,z1,z3,zl,tml,tmlc,List.length_set,Nat.reduceEqDiff,if_false]<;>rfl) rfl rfl (by simp [clTB,cl,e_i,e_Li_]) rfl
                      (repeat (focus (show _ = _;(simp only [zz,shift]<;>exact rfl))))
                      with_reducible apply TD.here
                      repeat (first|((with_reducible first|apply TD.fa|apply TD.ld);(repeat (focus (show _ = _;first|exact k2 rfl|(simp only [zz,y36,Nat.reduceAdd,tfieldAddr,tload,rowOf,partT]<;>exact rfl)|exact rfl)));(with_reducible refine TD.here ?_)))
                      obtain ⟨v76,h70,hr⟩:=Option.bind_eq_some_iff.1 hr
                      try dsimp only at hr
                      first|apply TD.cal (by first|rfl|(simp only [twant,z1,z7,h2,h3,h50,h52,h54,h56,h58,h60,h67,h68]<;>rfl)) rfl goFn31 (Spec.ov (base_Within_spec h70) (by decide)) rfl rfl rfl|apply TD.calw (by first|rfl|(simp only [twant,z1,z7,h2,h3,h50,h52,h54,h56,h58,h60,h67,h68]<;>rfl)) rfl goFn31 (Spec.ov (base_Within_spec h70) (by decide)) rfl rfl rfl rfl
                      (repeat (focus (show _ = _;(simp only [zz,shift]<;>exact rfl))))
                      with_reducible apply TD.here
                      repeat (first|(with_reducible first|refine mv ?_|refine TD.nil ?_)|((with_reducible first|apply TD.pk|apply TD.asg);(repeat (focus (show _ = _;first|exact k2 rfl|(simp only [zz]<;>exact rfl))));(with_reducible refine TD.here ?_)))
                      have hb:=Option.some.inj hr
                      first|(cases hb;done)|(refine ⟨.inr rfl,?_⟩;first|(simp only [hb]<;>exact rfl)|(simp only [h2,h3,h50,h52,h54,h56,h58,h60,h67,h68] at hb;simp only [tresAll,tres,z1,hb,Option.map_some]<;>exact rfl))
                    · rw [if_neg (by rw [h68];exact Bool.false_ne_true)] at hr
                      repeat (first|(with_reducible first|refine mv ?_|refine TD.nil ?_)|((with_reducible first|apply TD.pk|apply TD.asg);(repeat (focus (show _ = _;first|exact k2 rfl|(simp only [zz]<;>exact rfl))));(with_reducible refine TD.here ?_))|((with_reducible apply TD.skip1);(repeat (focus (show _ = _;(simp only [zz,twant,zp,zs,h68]<;>exact rfl))));(with_reducible refine TD.here ?_)))
                      have hb:=Option.some.inj hr
                      first|(cases hb;done)|(refine ⟨.inr rfl,?_⟩;first|(simp only [tresAll,tres,z1,hb,Option.map_some]<;>exact rfl)|(simp only [h2,h3,h50,h52,h54,h56,h58,h60,h67,h68] at hb;simp only [tresAll,tres,z1,hb,Option.map_some]<;>exact rfl))
                  · rw [if_neg (by rw [h67];exact Bool.false_ne_true)] at hr
                    repeat (first|(with_reducible first|refine mv ?_|refine TD.nil ?_)|((with_reducible first|apply TD.pk|apply TD.mv|apply TD.asg);(repeat (focus (show _ = _;first|exact k2 rfl|(simp only [zz,h67]<;>exact rfl))));(with_reducible refine TD.here ?_))|((with_reducible apply TD.skip1);(repeat (focus (show _ = _;(simp only [zz,twant,zp,zs,h67]<;>exact rfl))));(with_reducible refine TD.here ?_)))
                    have hb:=Option.some.inj hr
                    first|(cases hb;done)|(refine ⟨.inr rfl,?_⟩;first|(simp only [tresAll,tres,z1,hb,Option.map_some]<;>exact rfl)|(simp only [h2,h3,h50,h52,h54,h56,h58,h60,h67] at hb;simp only [tresAll,tres,z1,hb,Option.map_some]<;>exact rfl))
              · rw [if_neg (by rw [h58];exact Bool.false_ne_true)] at hr
                repeat (first|(with_reducible first|refine mv ?_|refine TO.nil ?_)|((with_reducible apply TO.asg);(repeat (focus (show _ = _;first|exact k2 rfl|(simp only [zz,h58]<;>exact rfl))));(with_reducible apply TO.here))|((with_reducible apply TX.region);(focus (simp only []<;>exact rfl));(focus rfl);(try dsimp only))|((with_reducible apply TX.cond_true);(focus rfl);(focus ((simp only [z1,zn,h58];done)))))
                have hb:=Option.some.inj hr
                first|(cases hb;done)|(refine ⟨.inr rfl,?_⟩;first|(simp only [tresAll,tres,z1,hb,Option.map_some]<;>exact rfl)|(simp only [h2,h3,h50,h52,h54,h56,h58] at hb;simp only [tresAll,tres,z1,hb,Option.map_some]<;>exact rfl))
        · rw [if_neg (by rw [h52];exact Bool.false_ne_true)] at hr
          repeat (first|(with_reducible first|refine mv ?_|refine TO.nil ?_)|((with_reducible first|apply TO.asg|apply TO.mv|apply TO.bin);(repeat (focus (show _ = _;first|exact k2 rfl|(simp only [zz,h52]<;>exact rfl))));(with_reducible apply TO.here))|((with_reducible apply TX.region);(focus (simp only []<;>exact rfl));(focus rfl);(try dsimp only))|((with_reducible apply TX.cond_true);(focus rfl);(focus (first|rfl|(simp only [z1,zn,h52];done))))|((with_reducible apply TX.cond_false);(focus rfl);(focus (rfl))))
          rcases Bool.eq_false_or_eq_true ((decide (v55 = 2))) with h71|h71
          · rw [if_pos h71] at hr
            repeat (first|((with_reducible first|apply TO.ld|apply TO.bld);(repeat (focus (show _ = _;first|exact k2 rfl|(simp only [zz,y36,Nat.reduceAdd,Nat.reduceLeDiff,tload,rowOf,partT,tbuild,tfill,h71]<;>exact rfl)|exact rfl)));(with_reducible apply TO.here)))
            apply TO.pop1 (by first|rfl|(simp only [twant,z1,z7,h2,h3,h50,h52,h71]<;>rfl)) (pop_eqs1 (X:=⟨[.int .i64 (v53),.int .i64 (v54)]⟩) (Y:=⟨[.int .i64 (0),.int .i64 (0)]⟩) rfl rfl rfl rfl rfl rfl rfl eqg30 eqs30 rfl)
            (repeat (focus (show _ = _;(simp only [zz]<;>exact rfl))))
            with_reducible apply TO.here
            repeat (first|(with_reducible first|refine mv ?_|refine TO.nil ?_)|((with_reducible first|apply TO.pk|apply TO.asg);(repeat (focus (show _ = _;first|exact k2 rfl|(simp only [zz]<;>exact rfl))));(with_reducible apply TO.here)))
            have hb:=Option.some.inj hr
            first|(cases hb;done)|(refine ⟨.inr rfl,?_⟩;first|(simp only [hb]<;>exact rfl)|(simp only [h2,h3,h50,h52,h71] at hb;simp only [tresAll,tres,z1,hb,Option.map_some]<;>exact rfl))
          · rw [if_neg (by rw [h71];exact Bool.false_ne_true)] at hr
            repeat (first|(with_reducible first|refine mv ?_|refine TO.nil ?_)|((with_reducible first|apply TO.pk|apply TO.asg);(repeat (focus (show _ = _;first|exact k2 rfl|(simp only [zz]<;>exact rfl))));(with_reducible apply TO.here))|((with_reducible apply TO.skip1);(repeat (focus (show _ = _;(simp only [zz,twant,zp,zs,h71]<;>exact rfl))));(with_reducible apply TO.here)))
            have hb:=Option.some.inj hr
            first|(cases hb;done)|(refine ⟨.inr rfl,?_⟩;first|(simp only [tresAll,tres,z1,hb,Option.map_some]<;>exact rfl)|(simp only [h2,h3,h50,h52,h71] at hb;simp only [tresAll,tres,z1,hb,Option.map_some]<;>exact rfl))
      · rw [if_neg (by rw [h50];exact Bool.false_ne_true)] at hr
        repeat (first|(with_reducible first|refine mv ?_|refine TO.nil ?_)|((with_reducible first|apply TO.pk|apply TO.mv|apply TO.bin);(repeat (focus (show _ = _;first|exact k2 rfl|(simp only [zz,h50]<;>exact rfl))));(with_reducible apply TO.here))|((with_reducible apply TO.skip1);(repeat (focus (show _ = _;(simp only [zz,twant,zp,zs,h50]<;>exact rfl))));(with_reducible apply TO.here))|((with_reducible apply TX.region);(focus (simp only []<;>exact rfl));(focus rfl);(try dsimp only))|((with_reducible apply TX.cond_false);(focus rfl);(focus (rfl))))
        rcases Bool.eq_false_or_eq_true ((decide (v57 ≠ 0))) with h72|h72
        · rw [if_pos h72] at hr
          repeat (first|with_reducible refine mv ?_|((with_reducible first|apply TO.mv|apply TO.bin);(repeat (focus (show _ = _;first|exact k2 rfl|(simp only [zz,h72]<;>exact rfl))));(with_reducible apply TO.here))|((with_reducible apply TX.region);(focus (simp only []<;>exact rfl));(focus rfl);(try dsimp only))|((with_reducible apply TX.cond_true);(focus rfl);(focus ((simp only [z1,Bool.not_true,h72];done)))))
          rcases Bool.eq_false_or_eq_true ((decide (v55 = v57))) with h73|h73
          · rw [if_pos h73] at hr
            repeat (first|((with_reducible first|apply TO.ld|apply TO.bld);(repeat (focus (show _ = _;first|exact k2 rfl|(simp only [zz,y36,Nat.reduceAdd,Nat.reduceLeDiff,tload,rowOf,partT,tbuild,tfill,h73]<;>exact rfl)|exact rfl)));(with_reducible apply TO.here)))
            apply TO.pop1 (by first|rfl|(simp only [twant,z1,z7,h2,h3,h50,h72,h73]<;>rfl)) (pop_eqs1 (X:=⟨[.int .i64 (v53),.int .i64 (v54)]⟩) (Y:=⟨[.int .i64 (0),.int .i64 (0)]⟩) rfl rfl rfl rfl rfl rfl rfl eqg30 eqs30 rfl)
            (repeat (focus (show _ = _;(simp only [zz]<;>exact rfl))))
            with_reducible apply TO.here
            repeat (first|(with_reducible first|refine mv ?_|refine TO.nil ?_)|((with_reducible first|apply TO.pk|apply TO.asg);(repeat (focus (show _ = _;first|exact k2 rfl|(simp only [zz]<;>exact rfl))));(with_reducible apply TO.here)))
            have hb:=Option.some.inj hr
            first|(cases hb;done)|(refine ⟨.inr rfl,?_⟩;first|(simp only [hb]<;>exact rfl)|(simp only [h2,h3,h50,h72,h73] at hb;simp only [tresAll,tres,z1,hb,Option.map_some]<;>exact rfl))
          · rw [if_neg (by rw [h73];exact Bool.false_ne_true)] at hr
            repeat (first|(with_reducible first|refine mv ?_|refine TO.nil ?_)|((with_reducible first|apply TO.pk|apply TO.asg);(repeat (focus (show _ = _;first|exact k2 rfl|(simp only [zz]<;>exact rfl))));(with_reducible apply TO.here))|((with_reducible apply TO.skip1);(repeat (focus (show _ = _;(simp only [zz,twant,zp,zs,h73]<;>exact rfl))));(with_reducible apply TO.here)))
            have hb:=Option.some.inj hr
            first|(cases hb;done)|(refine ⟨.inr rfl,?_⟩;first|(simp only [tresAll,tres,z1,hb,Option.map_some]<;>exact rfl)|(simp only [h2,h3,h50,h72,h73] at hb;simp only [tresAll,tres,z1,hb,Option.map_some]<;>exact rfl))
        · rw [if_neg (by rw [h72];exact Bool.false_ne_true)] at hr
          repeat (first|with_reducible refine mv ?_|((with_reducible first|apply TD.mv|apply TD.bin);(repeat (focus (show _ = _;first|exact k2 rfl|(simp only [zz,h72]<;>exact rfl))));(with_reducible refine TD.here ?_))|((with_reducible apply TX.drawn);(focus decide +kernel);(focus (simp only []<;>exact rfl));(focus exact rfl);(try dsimp only))|((with_reducible apply TX.cond_false);(focus rfl);(focus ((simp only [z1,Bool.not_true,h72];done)))))
          rcases Bool.eq_false_or_eq_true ((decide (v55 ≠ 0))) with h74|h74
          · rw [if_pos h74] at hr
            repeat (first|(with_reducible first|refine mv ?_|refine TO.nil ?_)|((with_reducible apply TO.asg);(repeat (focus (show _ = _;first|exact k2 rfl|(simp only [zz]<;>exact rfl))));(with_reducible apply TO.here))|((with_reducible apply TX.region);(focus (simp only []<;>exact rfl));(focus rfl);(try dsimp only))|with_reducible refine TD.nil ?_|((with_reducible apply TD.pk);(repeat (focus (show _ = _;first|exact k2 rfl|(simp only [zz]<;>exact rfl))));(with_reducible refine TD.here ?_))|((with_reducible apply TD.skip1);(repeat (focus (show _ = _;(simp only [zz,twant,zp,zs,h74]<;>exact rfl))));(with_reducible refine TD.here ?_))|((with_reducible apply TX.cond_true);(focus rfl);(focus (rfl))))
            have hb:=Option.some.inj hr
            first|(cases hb;done)|(refine ⟨.inr rfl,?_⟩;first|(simp only [tresAll,tres,z1,hb,Option.map_some]<;>exact rfl)|(simp only [h2,h3,h50,h72,h74] at hb;simp only [tresAll,tres,z1,hb,Option.map_some]<;>exact rfl))
          · rw [if_neg (by rw [h74];exact Bool.false_ne_true)] at hr
            repeat (first|((with_reducible first|apply TD.ld|apply TD.ia);(repeat (focus (show _ = _;first|exact k2 rfl|(simp only [zz,y36,Nat.reduceAdd,Nat.reduceMul,Nat.reduceLeDiff,tload,rowOf,partT,tindexAddr,Int.reduceToNat,Int.reduceLE,Int.reduceLT,Int.cast_ofNat_Int,h74]<;>exact rfl)|exact rfl)));(with_reducible refine TD.here ?_)))
            obtain ⟨⟨v77,v78⟩,h75,hr⟩:=Option.bind_eq_some_iff.1 hr
            try dsimp only at hr
            first|apply TD.cal (by first|rfl|(simp only [twant,z1,z7,h2,h3,h50,h72,h74]<;>rfl)) rfl goFn35 (Spec.ov (ref03_BoundOf_spec h75) (by decide)) rfl rfl rfl|apply TD.calw (by first|rfl|(simp only [twant,z1,z7,h2,h3,h50,h72,h74]<;>rfl)) rfl goFn35 (Spec.ov (ref03_BoundOf_spec h75) (by decide)) rfl rfl rfl rfl
            (repeat (focus (show _ = _;(simp only [zz,Nat.reduceAdd,shift]<;>exact rfl))))
            with_reducible apply TD.here
            apply TD.pop1 (by first|rfl|(simp only [twant,z1,z7,h2,h3,h50,h72,h74]<;>rfl)) (pop_eqs2 (X:=⟨[.int .i64 (v53),.int .i64 (v54)]⟩) (Y:=⟨[.int .i64 (v77),.int .i64 (v78)]⟩) rfl rfl rfl rfl rfl rfl rfl eqg30 eqs30 rfl)
            (repeat (focus (show _ = _;(simp only [zz]<;>exact rfl))))
            with_reducible apply TD.here
            repeat (first|(with_reducible first|refine mv ?_|refine TD.nil ?_)|((with_reducible apply TD.pk);(repeat (focus (show _ = _;first|exact k2 rfl|(simp only [zz]<;>exact rfl))));(with_reducible refine TD.here ?_)))
            rcases Bool.eq_false_or_eq_true (([v53 == v77,v54 == v78].all id)) with h76|h76
            · rw [if_pos h76] at hr
              repeat (first|with_reducible refine mv ?_|((with_reducible first|apply TO.ld|apply TO.mv);(repeat (focus (show _ = _;first|exact k2 rfl|(simp only [zz,y36,Nat.reduceAdd,Nat.reduceLeDiff,tload,rowOf,partT,h76]<;>exact rfl)|exact rfl)));(with_reducible apply TO.here))|((with_reducible apply TX.region);(focus (simp only []<;>exact rfl));(focus rfl);(try dsimp only))|((with_reducible apply TX.cond_false);(focus rfl);(focus ((simp only [z1,Bool.not_true,h76];done)))))
              obtain ⟨v79,h77,hr⟩:=Option.bind_eq_some_iff.1 hr
              try dsimp only at hr
              apply TO.cal (by first|rfl|(simp only [twant,z1,z7,h2,h3,h50,h72,h74,h76]<;>rfl)) rfl goFn33 (Spec.ov (ref03_EnergiesErr_spec h77) (by decide)) rfl rfl rfl
              (repeat (focus (show _ = _;(simp only [zz,shift]<;>exact rfl))))
              with_reducible apply TO.here
              repeat (first|(with_reducible first|refine mv ?_|refine TO.nil ?_)|((with_reducible apply TO.bin);(repeat (focus (show _ = _;first|exact k2 rfl|(simp only [zz]<;>exact rfl))));(with_reducible apply TO.here)))
              rcases Bool.eq_false_or_eq_true ((decide (v79 ≠ 0))) with h78|h78
              · rw [if_pos h78] at hr
                repeat (first|(with_reducible first|refine mv ?_|refine TO.nil ?_)|((with_reducible apply TO.asg);(repeat (focus (show _ = _;first|exact k2 rfl|(simp only [zz,h78]<;>exact rfl))));(with_reducible apply TO.here))|((with_reducible apply TX.region);(focus (simp only []<;>exact rfl));(focus rfl);(try dsimp only))|((with_reducible apply TX.cond_true);(focus rfl);(focus ((simp only [z1,Bool.not_true,h78];done)))))
                have hb:=Option.some.inj hr
                first|(cases hb;done)|(refine ⟨.inr rfl,?_⟩;first|(simp only []<;>exact rfl)|(simp only [h2,h3,h50,h72,h74,h76,h78] at hb;simp only [tresAll,tres,z1,hb,Option.map_some]<;>exact rfl))
              · rw [if_neg (by rw [h78];exact Bool.false_ne_true)] at hr
                repeat (first|with_reducible refine mv ?_|((with_reducible apply TD.ld);(repeat (focus (show _ = _;first|exact k2 rfl|(simp only [zz,y36,Nat.reduceAdd,Nat.reduceLeDiff,tload,rowOf,partT,h78]<;>exact rfl)|exact rfl)));(with_reducible refine TD.here ?_))|((with_reducible apply TX.drawn);(focus decide +kernel);(focus (simp only []<;>exact rfl));(focus exact rfl);(try dsimp only))|((with_reducible apply TX.cond_false);(focus rfl);(focus ((simp only [z1,Bool.not_true,h78];done)))))
                obtain ⟨⟨v80,v81⟩,h79,hr⟩:=Option.bind_eq_some_iff.1 hr
                try dsimp only at hr
                first|apply TD.cal (by first|rfl|(simp only [twant,z1,z7,h2,h3,h50,h72,h74,h76,h78]<;>rfl)) rfl goFn21 (Spec.ov (ref03_CopyExchange_spec h79) (by decide)) rfl rfl rfl|apply TD.calw (by first|rfl|(simp only [twant,z1,z7,h2,h3,h50,h72,h74,h76,h78]<;>rfl)) rfl goFn21 (Spec.ov (ref03_CopyExchange_spec h79) (by decide)) rfl rfl rfl rfl
                (repeat (focus (show _ = _;(simp only [zz,Nat.reduceAdd,shift]<;>exact rfl))))
                with_reducible apply TD.here
                repeat (first|((with_reducible apply TD.mv);(repeat (focus (show _ = _;first|exact k2 rfl|(simp only [zz]<;>exact rfl))));(with_reducible refine TD.here ?_)))
                obtain ⟨v82,h80,hr⟩:=Option.bind_eq_some_iff.1 hr
                try dsimp only at hr
                first|apply TD.cal (by first|rfl|(simp only [twant,z1,z7,h2,h3,h50,h72,h74,h76,h78]<;>rfl)) rfl goFn32 (Spec.ov (ref03_Total_spec h80) (by decide)) rfl rfl rfl|apply TD.calw (by first|rfl|(simp only [twant,z1,z7,h2,h3,h50,h72,h74,h76,h78]<;>rfl)) rfl goFn32 (Spec.ov (ref03_Total_spec h80) (by decide)) rfl rfl rfl rfl
                (repeat (focus (show _ = _;(simp only [zz,shift]<;>exact rfl))))
                with_reducible apply TD.here
                repeat (first|((with_reducible first|apply TD.ia|apply TD.ld);(repeat (focus (show _ = _;first|exact k2 rfl|(simp only [zz,y36,Nat.reduceAdd,Nat.reduceMul,tindexAddr,Int.reduceToNat,Int.reduceLE,Int.reduceLT,Int.cast_ofNat_Int,tload,rowOf,partT]<;>exact rfl)|exact rfl)));(with_reducible refine TD.here ?_)))
                obtain ⟨⟨v83,v84,v85⟩,h81,hr⟩:=Option.bind_eq_some_iff.1 hr
                try dsimp only at hr
                first|apply TD.lok (by first|rfl|(simp only [twant,z1,z7,h2,h3,h50,h72,h74,h76,h78]<;>rfl)) rfl goFn34 (Spec.ov (energy_BoundOf_spec h81) (by decide)) (by simp only [view,z1,z3,tmlc]<;>rfl) rfl rfl (by simp [])|apply TD.lokw (by first|rfl|(simp only [twant,z1,z7,h2,h3,h50,h72,h74,h76,h78]<;>rfl)) rfl goFn34 (Spec.ov (energy_BoundOf_spec h81) (by decide)) (by simp only [view,z1,z3,zl,tml,tmlc,List.length_set,Nat.reduceEqDiff,if_false]<;>rfl) rfl rfl (by simp [clTB,cl,e_i,e_Li_]) rfl
                (repeat (focus (show _ = _;(simp only [zz,Nat.reduceAdd,shift]<;>exact rfl))))
                with_reducible apply TD.here
                repeat (first|(with_reducible first|refine mv ?_|refine TD.nil ?_)|((with_reducible first|apply TD.mv|apply TD.ext|apply TD.al|apply TD.sv|apply TD.asg|apply TD.ld);(repeat (focus (show _ = _;first|exact k1 rfl|exact k2 rfl|(simp only [zz,y36,Nat.reduceAdd,Nat.reduceLeDiff,tload,rowOf,partT]<;>exact rfl)|exact rfl)));(with_reducible refine TD.here ?_))|((with_reducible apply TX.drawn);(focus decide +kernel);(focus (simp only []<;>exact rfl));(focus exact rfl);(try dsimp only)))
                obtain ⟨⟨v86,v87⟩,h82,hr⟩:=Option.bind_eq_some_iff.1 hr
                try dsimp only at hr
                first|apply TD.cal (by first|rfl|(simp only [twant,z1,z7,h2,h3,h50,h72,h74,h76,h78]<;>rfl)) rfl goFn21 (Spec.ov (ref03_CopyExchange_spec h82) (by decide)) rfl rfl rfl|apply TD.calw (by first|rfl|(simp only [twant,z1,z7,h2,h3,h50,h72,h74,h76,h78]<;>rfl)) rfl goFn21 (Spec.ov (ref03_CopyExchange_spec h82) (by decide)) rfl rfl rfl rfl
                (repeat (focus (show _ = _;(simp only [zz,Nat.reduceAdd,shift]<;>exact rfl))))
                with_reducible apply TD.here
                repeat (first|((with_reducible apply TD.mv);(repeat (focus (show _ = _;first|exact k2 rfl|(simp only [zz]<;>exact rfl))));(with_reducible refine TD.here ?_)))
                obtain ⟨v88,h83,hr⟩:=Option.bind_eq_some_iff.1 hr
                try dsimp only at hr
                first|apply TD.cal (by first|rfl|(simp only [twant,z1,z7,h2,h3,h50,h72,h74,h76,h78]<;>rfl)) rfl goFn23 (Spec.ov (base_CopyInts_spec h83) (by decide)) rfl rfl rfl|apply TD.calw (by first|rfl|(simp only [twant,z1,z7,h2,h3,h50,h72,h74,h76,h78]<;>rfl)) rfl goFn23 (Spec.ov (base_CopyInts_spec h83) (by decide)) rfl rfl rfl rfl
                (repeat (focus (show _ = _;(simp only [zz,Nat.reduceAdd,shift]<;>exact rfl))))
                with_reducible apply TD.here
                repeat (first|((with_reducible first|apply TD.ia|apply TD.ld);(repeat (focus (show _ = _;first|exact k2 rfl|(simp only [zz,y36,Nat.reduceAdd,Nat.reduceMul,tindexAddr,Int.reduceToNat,Int.reduceLE,Int.reduceLT,Int.cast_ofNat_Int,tload,rowOf,partT]<;>exact rfl)|exact rfl)));(with_reducible refine TD.here ?_)))
                obtain ⟨⟨v89,v90,v91⟩,h84,hr⟩:=Option.bind_eq_some_iff.1 hr
                try dsimp only at hr
                first|apply TD.lok (by first|rfl|(simp only [twant,z1,z7,h2,h3,h50,h72,h74,h76,h78]<;>rfl)) rfl goFn24 (Spec.ov (energy_Run_spec h84) (by decide)) (by simp only [view,z1,z3,tmlc]<;>rfl) rfl rfl (by simp [clTB,cl,e_i])|apply TD.lokw (by first|rfl|(simp only [twant,z1,z7,h2,h3,h50,h72,h74,h76,h78]<;>rfl)) rfl goFn24 (Spec.ov (energy_Run_spec h84) (by decide)) (by simp only [view,z1,z3,zl,tml,tmlc,List.length_set,Nat.reduceEqDiff,if_false]<;>rfl) rfl rfl (by simp [clTB,cl,e_i,e_Li_]) rfl
                (repeat (focus (show _ = _;(simp only [zz,Nat.reduceAdd,shift]<;>exact rfl))))
                with_reducible apply TD.here
                repeat (first|(with_reducible first|refine mv ?_|refine TD.nil ?_)|((with_reducible first|apply TD.mv|apply TD.ext|apply TD.asg|apply TD.bin);(repeat (focus (show _ = _;first|exact k2 rfl|(simp only [zz]<;>exact rfl))));(with_reducible refine TD.here ?_))|((with_reducible apply TX.drawn);(focus decide +kernel);(focus (simp only []<;>exact rfl));(focus exact rfl);(try dsimp only)))
                rcases Bool.eq_false_or_eq_true ((decide (v85 = 0))) with h85|h85
                · rw [if_pos h85] at hr
                  repeat (first|((with_reducible first|apply TD.mv|apply TD.bin|apply TD.pk);(repeat (focus (show _ = _;first|exact k2 rfl|(simp only [zz,h85]<;>exact rfl))));(with_reducible refine TD.here ?_)))
                  rcases Bool.eq_false_or_eq_true ((decide (v91 = 0))) with h86|h86
                  · rw [if_pos h86] at hr
                    repeat (first|((with_reducible apply TD.mv);(repeat (focus (show _ = _;(simp only [zz,h86]<;>exact rfl))));(with_reducible refine TD.here ?_)))
                    obtain ⟨v92,h87,hr⟩:=Option.bind_eq_some_iff.1 hr
                    try dsimp only at hr
                    first|apply TD.lok (by first|rfl|(simp only [twant,z1,z7,h2,h3,h50,h72,h74,h76,h78,h85,h86]<;>rfl)) rfl goFn32 (Spec.ov (ref03_Total_spec h87) (by decide)) (by simp only [view,z1,z3,tmlc]<;>rfl) rfl rfl (by simp [])|apply TD.lokw (by first|rfl|(simp only [twant,z1,z7,h2,h3,h50,h72,h74,h76,h78,h85,h86]<;>rfl)) rfl goFn32 (Spec.ov (ref03_Total_spec h87) (by decide)) (by simp only [view,z1,z3,zl,tml,tmlc,List.length_set,Nat.reduceEqDiff,if_false]<;>rfl) rfl rfl (by simp [clTB,cl,e_i,e_Li_]) rfl
                    (repeat (focus (show _ = _;(simp only [zz,shift]<;>exact rfl))))
                    with_reducible apply TD.here
                    repeat (first|((with_reducible first|apply TD.fa|apply TD.ld);(repeat (focus (show _ = _;first|exact k2 rfl|(simp only [zz,y36,Nat.reduceAdd,tfieldAddr,tload,rowOf,partT]<;>exact rfl)|exact rfl)));(with_reducible refine TD.here ?_)))
                    obtain ⟨v93,h88,hr⟩:=Option.bind_eq_some_iff.1 hr
                    try dsimp only at hr
                    first|apply TD.cal (by first|rfl|(simp only [twant,z1,z7,h2,h3,h50,h72,h74,h76,h78,h85,h86]<;>rfl)) rfl goFn31 (Spec.ov (base_Within_spec h88) (by decide)) rfl rfl rfl|apply TD.calw (by first|rfl|(simp only [twant,z1,z7,h2,h3,h50,h72,h74,h76,h78,h85,h86]<;>rfl)) rfl goFn31 (Spec.ov (base_Within_spec h88) (by decide)) rfl rfl rfl rfl
                    (repeat (focus (show _ = _;(simp only [zz,shift]<;>exact rfl))))
                    with_reducible apply TD.here
                    repeat (first|(with_reducible first|refine mv ?_|refine TD.nil ?_)|((with_reducible first|apply TD.pk|apply TD.asg);(repeat (focus (show _ = _;first|exact k2 rfl|(simp only [zz]<;>exact rfl))));(with_reducible refine TD.here ?_)))
                    have hb:=Option.some.inj hr
                    first|(cases hb;done)|(refine ⟨.inr rfl,?_⟩;first|(simp only [hb]<;>exact rfl)|(simp only [h2,h3,h50,h72,h74,h76,h78,h85,h86] at hb;simp only [tresAll,tres,z1,hb,Option.map_some]<;>exact rfl))
                  · rw [if_neg (by rw [h86];exact Bool.false_ne_true)] at hr
                    repeat (first|(with_reducible first|refine mv ?_|refine TD.nil ?_)|((with_reducible first|apply TD.pk|apply TD.asg);(repeat (focus (show _ = _;first|exact k2 rfl|(simp only [zz]<;>exact rfl))));(with_reducible refine TD.here ?_))|((with_reducible apply TD.skip1);(repeat (focus (show _ = _;(simp only [zz,twant,zp,zs,h86]<;>exact rfl))));(with_reducible refine TD.here ?_)))
                    have hb:=Option.some.inj hr
                    first|(cases hb;done)|(refine ⟨.inr rfl,?_⟩;first|(simp only [tresAll,tres,z1,hb,Option.map_some]<;>exact rfl)|(simp only [h2,h3,h50,h72,h74,h76,h78,h85,h86] at hb;simp only [tresAll,tres,z1,hb,Option.map_some]<;>exact rfl))
                · rw [if_neg (by rw [h85];exact Bool.false_ne_true)] at hr
                  repeat (first|(with_reducible first|refine mv ?_|refine TD.nil ?_)|((with_reducible first|apply TD.pk|apply TD.mv|apply TD.asg);(repeat (focus (show _ = _;first|exact k2 rfl|(simp only [zz,h85]<;>exact rfl))));(with_reducible refine TD.here ?_))|((with_reducible apply TD.skip1);(repeat (focus (show _ = _;(simp only [zz,twant,zp,zs,h85]<;>exact rfl))));(with_reducible refine TD.here ?_)))
                  have hb:=Option.some.inj hr
                  first|(cases hb;done)|(refine ⟨.inr rfl,?_⟩;first|(simp only [tresAll,tres,z1,hb,Option.map_some]<;>exact rfl)|(simp only [h2,h3,h50,h72,h74,h76,h78,h85] at hb;simp only [tresAll,tres,z1,hb,Option.map_some]<;>exact rfl))
            · rw [if_neg (by rw [h76];exact Bool.false_ne_true)] at hr
              repeat (first|(with_reducible first|refine mv ?_|refine TO.nil ?_)|((with_reducible apply TO.asg);(repeat (focus (show _ = _;first|exact k2 rfl|(simp only [zz,h76]<;>exact rfl))));(with_reducible apply TO.here))|((with_reducible apply TX.region);(focus (simp only []<;>exact rfl));(focus rfl);(try dsimp only))|((with_reducible apply TX.cond_true);(focus rfl);(focus ((simp only [z1,zn,h76];done)))))
              have hb:=Option.some.inj hr
              first|(cases hb;done)|(refine ⟨.inr rfl,?_⟩;first|(simp only [tresAll,tres,z1,hb,Option.map_some]<;>exact rfl)|(simp only [h2,h3,h50,h72,h74,h76] at hb;simp only [tresAll,tres,z1,hb,Option.map_some]<;>exact rfl))
  · rw [if_neg (by rw [h2];exact Bool.false_ne_true)] at hr
    repeat (first|(with_reducible first|refine mv ?_|refine TO.nil ?_)|((with_reducible first|apply TO.pk|apply TO.asg);(repeat (focus (show _ = _;first|exact k2 rfl|(simp only [zz]<;>exact rfl))));(with_reducible apply TO.here))|((with_reducible apply TO.skip1);(repeat (focus (show _ = _;(simp only [zz,twant,zp,zs,h2]<;>exact rfl))));(with_reducible apply TO.here))|((with_reducible apply TX.region);(focus (simp only []<;>exact rfl));(focus rfl);(try dsimp only))|((with_reducible apply TX.cond_true);(focus rfl);(focus (rfl))))
    have hb:=Option.some.inj hr
    first|(cases hb;done)|(refine ⟨.inr rfl,?_⟩;first|(simp only []<;>exact rfl)|(simp only [h2] at hb;simp only [tresAll,tres,z1,hb,Option.map_some]<;>exact rfl))

end Go.Rex
