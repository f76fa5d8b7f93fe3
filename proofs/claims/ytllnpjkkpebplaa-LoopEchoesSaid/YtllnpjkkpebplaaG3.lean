/- Proofs that the program's functions do what these plain functions say. -/
import Derived.Test.YtllnpjkkpebplaaGB
import Derived.Test.YtllnpjkkpebplaaS
import Derived.Test.YtllnpjkkpebplaaG1
import Derived.Test.YtllnpjkkpebplaaG2
set_option linter.unusedSimpArgs false
set_option linter.unusedVariables false
set_option linter.defProp false
namespace Go.Rex
open Go.Proofs
open Go Go.Rex Go.RowKit
set_option maxRecDepth 100000
set_option maxHeartbeats 4000000
def y30:=an @ag24 <| an @ag3 <| an @cs24 <| an @cs3 <| an @ok24 <| an @ok3 <| an @so22 <| @wi64_1a1
theorem law08_LoopEchoes_law {v1 : (List Int)} {v2 : Int} {v3 : Int} {v4 : Int} (hr : law08_LoopEchoes v1 v2 v3 v4 = some true) {Fz : Nat → Prop} {h : List Blk} {vs : List Value} (hfz : ∀ n, Fz n → n < h.length) (hargs : VLs Fz h noL [.agg [.list 1 (v1.map e_i), .v (.int .i64 v2)], .v (.int .i64 v3), .v (.int .i64 v4)] vs)
    {B lo : Nat} {D : Nat → Prop} {m : NMap} {w : World} {args' : List Value} (hrel : Rel B lo D m h w) (hlo : lo ≤ h.length) (hargs' : VRs D m vs args') : Calls Try.prog 11 ⟨args'⟩ w (fun e w'=>e = .returned (.bool true) ∧ Below w.heap.size w w'):=by
  unfold law08_LoopEchoes at hr
  refine law_tex follows awake_true Try.func11 rfl (tm0:=.agg [.list 1 (v1.map e_i),.v (.int .i64 v2)] :: .v (.int .i64 v3) :: .v (.int .i64 v4) :: .junk :: .junk :: .junk :: .junk :: .junk :: .junk :: .junk :: .junk :: .junk :: .junk :: .junk :: .junk :: .junk :: .junk :: .junk :: .junk :: .junk :: .junk :: .junk :: .junk :: .junk :: .junk :: .junk :: .junk :: .junk :: .junk :: .junk :: .junk :: .junk :: .junk :: .junk :: .junk :: .junk :: .junk :: .junk :: .junk :: .junk :: .junk :: .junk :: .junk :: .junk :: .junk :: .junk :: .junk :: .junk :: .junk :: .junk :: .junk :: .junk :: .junk :: .junk :: .junk :: .junk :: .junk :: .junk :: .junk :: .junk :: .junk :: .junk :: .junk :: .junk :: .junk :: .junk :: .junk :: .junk :: .junk :: .junk :: .junk :: .junk :: .junk :: .junk :: .junk :: .junk :: .junk :: .junk :: .junk :: .junk :: .junk :: .junk :: .junk :: .junk :: .junk :: .junk :: .junk :: .junk :: .junk :: .junk :: .junk :: .junk :: .junk :: .junk :: .junk :: .junk :: .junk :: .junk :: .junk :: .junk :: .junk :: .junk :: .junk :: .junk :: .junk :: .junk :: .junk :: .junk :: .junk :: .junk :: .junk :: .junk :: .junk :: .junk :: .junk :: .junk :: .junk :: .junk :: .junk :: .junk :: .junk :: .junk :: .junk :: .junk :: .junk :: .junk :: .junk :: .junk :: .junk :: .junk :: .junk :: .junk :: .junk :: .junk :: []) (by simp [Try.f11]<;>exact rfl) ?_ hfz hargs hrel hlo hargs'
  repeat (first|(with_reducible first|refine mv ?_|refine TO.nil ?_)|((with_reducible first|apply TO.bf|apply TO.asg);(repeat (focus (show _ = _;first|exact k1 rfl|exact k2 rfl|(simp only [zz]<;>exact rfl)|exact rfl)));(with_reducible apply TO.here))|((with_reducible apply TX.region);(focus (simp only []<;>exact rfl));(focus rfl);(try dsimp only)))
  apply TO.cal (by first|rfl|(simp only [twant,z1,zp,zs];done)) rfl goFn14 Spec.awake rfl rfl rfl
  (repeat (focus (show _ = _;(simp only [zz,shift]<;>exact rfl))))
  with_reducible apply TO.here
  apply TO.pop1 (by first|rfl|(simp only [twant,z1,zp,zs];done)) (pop_not rfl)
  (repeat (focus (show _ = _;(simp only [zz]<;>exact rfl))))
  with_reducible apply TO.here
  repeat (first|(with_reducible first|refine mv ?_|refine TO.nil ?_)|((with_reducible apply TO.ld);(repeat (focus (show _ = _;first|exact k2 rfl|(simp only [zz,y30,Nat.reduceAdd,Nat.reduceLeDiff,tload,rowOf,partT]<;>exact rfl)|exact rfl)));(with_reducible apply TO.here))|((with_reducible apply TX.region);(focus (simp only []<;>exact rfl));(focus rfl);(try dsimp only))|((with_reducible apply TX.cond_false);(focus rfl);(focus (rfl))))
  obtain ⟨v6,h1,hr⟩:=Option.bind_eq_some_iff.1 hr
  try dsimp only at hr
  apply TO.cal (by first|rfl|(simp only [twant,z1,zp,zs];done)) rfl goFn15 (Spec.ov (law08_few_spec h1) (by decide)) rfl rfl rfl
  (repeat (focus (show _ = _;(simp only [zz,shift]<;>exact rfl))))
  with_reducible apply TO.here
  apply TO.pop1 (by first|rfl|(simp only [twant,z1,zp,zs];done)) (pop_not rfl)
  (repeat (focus (show _ = _;(simp only [zz]<;>exact rfl))))
  with_reducible apply TO.here
  repeat (first|((with_reducible apply TO.mv);(repeat (focus (show _ = _;first|exact k2 rfl|(simp only [zz]<;>exact rfl))));(with_reducible apply TO.here)))
  rcases Bool.eq_false_or_eq_true (v6) with h2|h2
  · rw [if_pos h2] at hr
    repeat (first|((with_reducible first|apply TO.mv|apply TO.bin);(repeat (focus (show _ = _;first|exact k2 rfl|(simp only [zz,h2]<;>exact rfl))));(with_reducible apply TO.here)))
    rcases Bool.eq_false_or_eq_true ((decide (v4 > 60))) with h3|h3
    · rw [if_pos h3] at hr
      repeat (first|(with_reducible first|refine mv ?_|refine TO.nil ?_)|((with_reducible first|apply TO.mv|apply TO.bin|apply TO.pk);(repeat (focus (show _ = _;first|exact k2 rfl|(simp only [zz,h3]<;>exact rfl))));(with_reducible apply TO.here)))
      rcases Bool.eq_false_or_eq_true ((decide (v4 ≤ 200))) with h4|h4
      · rw [if_pos h4] at hr
        repeat (first|(with_reducible first|refine mv ?_|refine TO.nil ?_)|((with_reducible apply TO.asg);(repeat (focus (show _ = _;first|exact k2 rfl|(simp only [zz,h4]<;>exact rfl))));(with_reducible apply TO.here))|((with_reducible apply TX.region);(focus (simp only []<;>exact rfl));(focus rfl);(try dsimp only))|((with_reducible apply TX.cond_true);(focus rfl);(focus ((simp only [z1,Bool.not_true,h4];done)))))
        have hb:=Option.some.inj hr
        first|(cases hb;done)|(refine ⟨.inr rfl,?_⟩;first|(simp only []<;>exact rfl)|(simp only [h2,h3,h4] at hb;simp only [tresAll,tres,z1,hb,Option.map_some]<;>exact rfl))
      · rw [if_neg (by rw [h4];exact Bool.false_ne_true)] at hr
        repeat (first|with_reducible refine mv ?_|((with_reducible apply TO.ld);(repeat (focus (show _ = _;first|exact k2 rfl|(simp only [zz,y30,Nat.reduceAdd,Nat.reduceLeDiff,tload,rowOf,partT,h4]<;>exact rfl)|exact rfl)));(with_reducible apply TO.here))|((with_reducible apply TX.region);(focus (simp only []<;>exact rfl));(focus rfl);(try dsimp only))|((with_reducible apply TX.cond_false);(focus rfl);(focus ((simp only [z1,Bool.not_true,h4];done)))))
        obtain ⟨⟨v7,v8⟩,h5,hr⟩:=Option.bind_eq_some_iff.1 hr
        try dsimp only at hr
        apply TO.cal (by first|rfl|(simp only [twant,z1,zp,zs,h2,h3,h4];done)) rfl goFn17 (Spec.ov (ref08_Copy_spec h5) (by decide)) rfl rfl rfl
        (repeat (focus (show _ = _;(simp only [zz,Nat.reduceAdd,shift]<;>exact rfl))))
        with_reducible apply TO.here
        repeat (first|((with_reducible apply TO.mv);(repeat (focus (show _ = _;first|exact k2 rfl|(simp only [zz]<;>exact rfl))));(with_reducible apply TO.here)))
        obtain ⟨⟨v9,v10,v11⟩,h6,hr⟩:=Option.bind_eq_some_iff.1 hr
        try dsimp only at hr
        apply TO.lok (by first|rfl|(simp only [twant,z1,zp,zs,h2,h3,h4];done)) rfl goFn46 (Spec.ov (loop_Echoes_spec h6) (by decide)) (by simp only [view,z1,z3,tmlc]<;>rfl) rfl rfl (by simp [clTB,cl,e_i])
        (repeat (focus (show _ = _;(simp only [zz,Nat.reduceAdd,shift]<;>exact rfl))))
        with_reducible apply TO.here
        repeat (first|(with_reducible first|refine mv ?_|refine TO.nil ?_)|((with_reducible first|apply TO.mv|apply TO.ext|apply TO.asg|apply TO.ld);(repeat (focus (show _ = _;first|exact k2 rfl|(simp only [zz,y30,Nat.reduceAdd,Nat.reduceLeDiff,tload,rowOf,partT]<;>exact rfl)|exact rfl)));(with_reducible apply TO.here))|((with_reducible apply TX.region);(focus (simp only []<;>exact rfl));(focus rfl);(try dsimp only)))
        obtain ⟨⟨v12,v13⟩,h7,hr⟩:=Option.bind_eq_some_iff.1 hr
        try dsimp only at hr
        apply TO.cal (by first|rfl|(simp only [twant,z1,zp,zs,h2,h3,h4];done)) rfl goFn17 (Spec.ov (ref08_Copy_spec h7) (by decide)) rfl rfl rfl
        (repeat (focus (show _ = _;(simp only [zz,Nat.reduceAdd,shift]<;>exact rfl))))
        with_reducible apply TO.here
        repeat (first|((with_reducible apply TO.mv);(repeat (focus (show _ = _;first|exact k2 rfl|(simp only [zz]<;>exact rfl))));(with_reducible apply TO.here)))
        obtain ⟨⟨v14,v15⟩,h8,hr⟩:=Option.bind_eq_some_iff.1 hr
        try dsimp only at hr
        apply TO.lok (by first|rfl|(simp only [twant,z1,zp,zs,h2,h3,h4];done)) rfl goFn47 (Spec.ov (loop_EchoBound_spec h8) (by decide)) (by simp only [view,z1,z3,tmlc]<;>rfl) rfl rfl (by simp [])
        (repeat (focus (show _ = _;(simp only [zz,Nat.reduceAdd,shift]<;>exact rfl))))
        with_reducible apply TO.here
        repeat (first|(with_reducible first|refine mv ?_|refine TO.nil ?_)|((with_reducible first|apply TO.mv|apply TO.ext|apply TO.asg|apply TO.ld);(repeat (focus (show _ = _;first|exact k2 rfl|(simp only [zz,y30,Nat.reduceAdd,Nat.reduceLeDiff,tload,rowOf,partT]<;>exact rfl)|exact rfl)));(with_reducible apply TO.here))|((with_reducible apply TX.region);(focus (simp only []<;>exact rfl));(focus rfl);(try dsimp only)))
        obtain ⟨v16,h9,hr⟩:=Option.bind_eq_some_iff.1 hr
        try dsimp only at hr
        apply TO.cal (by first|rfl|(simp only [twant,z1,zp,zs,h2,h3,h4];done)) rfl goFn19 (Spec.ov (ref08_CheckLoop_spec h9) (by decide)) rfl rfl rfl
        (repeat (focus (show _ = _;(simp only [zz,shift]<;>exact rfl))))
        with_reducible apply TO.here
        repeat (first|(with_reducible first|refine mv ?_|refine TO.nil ?_)|((with_reducible first|apply TO.asg|apply TO.mv|apply TO.bin);(repeat (focus (show _ = _;first|exact k2 rfl|(simp only [zz]<;>exact rfl))));(with_reducible apply TO.here))|((with_reducible apply TX.region);(focus (simp only []<;>exact rfl));(focus rfl);(try dsimp only)))
        rcases Bool.eq_false_or_eq_true ((decide (v16 = 0))) with h10|h10
        · rw [if_pos h10] at hr
          repeat (first|((with_reducible apply TO.mv);(repeat (focus (show _ = _;first|exact k2 rfl|(simp only [zz,h10]<;>exact rfl))));(with_reducible apply TO.here))|((with_reducible apply TX.region);(focus (simp only []<;>exact rfl));(focus rfl);(try dsimp only))|((with_reducible apply TX.cond_true);(focus rfl);(focus ((simp only [z1,Bool.not_true,h10];done)))))
          obtain ⟨v17,h11,hr⟩:=Option.bind_eq_some_iff.1 hr
          try dsimp only at hr
          apply TO.cal (by first|rfl|(simp only [twant,z1,zp,zs,h2,h3,h4,h10];done)) rfl goFn48 (Spec.ov (ref08_HeightErr_spec h11) (by decide)) rfl rfl rfl
          (repeat (focus (show _ = _;(simp only [zz,shift]<;>exact rfl))))
          with_reducible apply TO.here
          repeat (first|(with_reducible first|refine mv ?_|refine TO.nil ?_)|((with_reducible first|apply TO.asg|apply TO.mv|apply TO.bin);(repeat (focus (show _ = _;first|exact k2 rfl|(simp only [zz]<;>exact rfl))));(with_reducible apply TO.here))|((with_reducible apply TX.region);(focus (simp only []<;>exact rfl));(focus rfl);(try dsimp only)))
          rcases Bool.eq_false_or_eq_true ((decide (v17 = 0))) with h12|h12
          · rw [if_pos h12] at hr
            repeat (first|((with_reducible first|apply TO.ld|apply TO.mv);(repeat (focus (show _ = _;first|exact k2 rfl|(simp only [zz,y30,Nat.reduceAdd,Nat.reduceLeDiff,tload,rowOf,partT,h12]<;>exact rfl)|exact rfl)));(with_reducible apply TO.here))|((with_reducible apply TX.region);(focus (simp only []<;>exact rfl));(focus rfl);(try dsimp only))|((with_reducible apply TX.cond_true);(focus rfl);(focus ((simp only [z1,Bool.not_true,h12];done)))))
            obtain ⟨⟨v18,v19⟩,h13,hr⟩:=Option.bind_eq_some_iff.1 hr
            try dsimp only at hr
            apply TO.cal (by first|rfl|(simp only [twant,z1,zp,zs,h2,h3,h4,h10,h12];done)) rfl goFn49 (Spec.ov (ref08_EchoBound_spec h13) (by decide)) rfl rfl rfl
            (repeat (focus (show _ = _;(simp only [zz,Nat.reduceAdd,shift]<;>exact rfl))))
            with_reducible apply TO.here
            repeat (first|(with_reducible first|refine mv ?_|refine TO.nil ?_)|((with_reducible first|apply TO.mv|apply TO.ext|apply TO.asg|apply TO.bin);(repeat (focus (show _ = _;first|exact k2 rfl|(simp only [zz]<;>exact rfl))));(with_reducible apply TO.here))|((with_reducible apply TX.region);(focus (simp only []<;>exact rfl));(focus rfl);(try dsimp only)))
            rcases Bool.eq_false_or_eq_true ((decide (v15 ≠ v19))) with h14|h14
            · rw [if_pos h14] at hr
              repeat (first|(with_reducible first|refine mv ?_|refine TO.nil ?_)|((with_reducible first|apply TO.pk|apply TO.asg);(repeat (focus (show _ = _;first|exact k2 rfl|(simp only [zz]<;>exact rfl))));(with_reducible apply TO.here))|((with_reducible apply TO.skip1);(repeat (focus (show _ = _;(simp only [zz,twant,zp,zs,h14]<;>exact rfl))));(with_reducible apply TO.here))|((with_reducible apply TX.region);(focus (simp only []<;>exact rfl));(focus rfl);(try dsimp only))|((with_reducible apply TX.cond_true);(focus rfl);(focus (rfl))))
              have hb:=Option.some.inj hr
              first|(cases hb;done)|(refine ⟨.inr rfl,?_⟩;first|(simp only [tresAll,tres,z1,hb,Option.map_some]<;>exact rfl)|(simp only [h2,h3,h4,h10,h12,h14] at hb;simp only [tresAll,tres,z1,hb,Option.map_some]<;>exact rfl))
            · rw [if_neg (by rw [h14];exact Bool.false_ne_true)] at hr
              repeat (first|(with_reducible first|refine mv ?_|refine TO.nil ?_)|((with_reducible first|apply TO.mv|apply TO.bin|apply TO.pk);(repeat (focus (show _ = _;first|exact k2 rfl|(simp only [zz,h14]<;>exact rfl))));(with_reducible apply TO.here)))
              rcases Bool.eq_false_or_eq_true ((decide (v14 ≠ v18))) with h15|h15
              · rw [if_pos h15] at hr
                repeat (first|(with_reducible first|refine mv ?_|refine TO.nil ?_)|((with_reducible apply TO.asg);(repeat (focus (show _ = _;first|exact k2 rfl|(simp only [zz,h15]<;>exact rfl))));(with_reducible apply TO.here))|((with_reducible apply TX.region);(focus (simp only []<;>exact rfl));(focus rfl);(try dsimp only))|((with_reducible apply TX.cond_true);(focus rfl);(focus ((simp only [z1,Bool.not_true,h15];done)))))
                have hb:=Option.some.inj hr
                first|(cases hb;done)|(refine ⟨.inr rfl,?_⟩;first|(simp only [tresAll,tres,z1,hb,Option.map_some]<;>exact rfl)|(simp only [h2,h3,h4,h10,h12,h14,h15] at hb;simp only [tresAll,tres,z1,hb,Option.map_some]<;>exact rfl))
              · rw [if_neg (by rw [h15];exact Bool.false_ne_true)] at hr
                repeat (first|with_reducible refine mv ?_|((with_reducible first|apply TO.mv|apply TO.bin);(repeat (focus (show _ = _;first|exact k2 rfl|(simp only [zz,h12,h15]<;>exact rfl))));(with_reducible apply TO.here))|((with_reducible apply TX.region);(focus (simp only []<;>exact rfl));(focus rfl);(try dsimp only))|((with_reducible apply TX.cond_false);(focus rfl);(focus ((simp only [z1,Bool.not_true,h15];done)))))
                obtain ⟨v20,h16,hr⟩:=Option.bind_eq_some_iff.1 hr
                try dsimp only at hr
                apply TO.cal (by first|rfl|(simp only [twant,z1,zp,zs,h2,h3,h4,h10,h12,h14,h15];done)) rfl goFn24 (Spec.ov (base_Within_spec h16) (by decide)) rfl rfl rfl
                (repeat (focus (show _ = _;(simp only [zz,shift]<;>exact rfl))))
                with_reducible apply TO.here
                apply TO.pop1 (by first|rfl|(simp only [twant,z1,zp,zs,h2,h3,h4,h10,h12,h14,h15];done)) (pop_not rfl)
                (repeat (focus (show _ = _;(simp only [zz]<;>exact rfl))))
                with_reducible apply TO.here
                repeat (first|(with_reducible first|refine mv ?_|refine TO.nil ?_)|((with_reducible apply TO.pk);(repeat (focus (show _ = _;first|exact k2 rfl|(simp only [zz]<;>exact rfl))));(with_reducible apply TO.here)))
                rcases Bool.eq_false_or_eq_true (v20) with h17|h17
                · rw [if_pos h17] at hr
                  repeat (first|(with_reducible first|refine mv ?_|refine TO.nil ?_)|((with_reducible first|apply TO.mv|apply TO.bin);(repeat (focus (show _ = _;first|exact k2 rfl|(simp only [zz,h17]<;>exact rfl))));(with_reducible apply TO.here))|((with_reducible apply TX.region);(focus (simp only []<;>exact rfl));(focus rfl);(try dsimp only))|((with_reducible apply TX.cond_false);(focus rfl);(focus ((simp only [z1,Bool.not_true,h17];done)))))
                  rcases Bool.eq_false_or_eq_true ((decide (v17 ≠ 0))) with h18|h18
                  · rw [if_pos h18] at hr
                    repeat (first|with_reducible refine mv ?_|((with_reducible first|apply TO.mv|apply TO.bin);(repeat (focus (show _ = _;first|exact k2 rfl|(simp only [zz,h18]<;>exact rfl))));(with_reducible apply TO.here))|((with_reducible apply TX.region);(focus (simp only []<;>exact rfl));(focus rfl);(try dsimp only))|((with_reducible apply TX.cond_true);(focus rfl);(focus ((simp only [z1,Bool.not_true,h18];done)))))
                    rcases Bool.eq_false_or_eq_true ((decide (v11 = v17))) with h19|h19
                    · rw [if_pos h19] at hr
                      repeat (first|(with_reducible first|refine mv ?_|refine TO.nil ?_)|((with_reducible first|apply TO.mv|apply TO.len|apply TO.bin|apply TO.pk|apply TO.asg);(repeat (focus (show _ = _;first|exact k2 rfl|(simp only [zz,y30,tlen,h19]<;>exact rfl))));(with_reducible apply TO.here)))
                      have hb:=Option.some.inj hr
                      first|(cases hb;done)|(refine ⟨.inr rfl,?_⟩;first|(simp only [hb]<;>exact rfl)|(simp only [h2,h3,h4,h10,h12,h14,h15,h17,h18,h19] at hb;simp only [tresAll,tres,z1,hb,Option.map_some]<;>exact rfl))
                    · rw [if_neg (by rw [h19];exact Bool.false_ne_true)] at hr
                      repeat (first|(with_reducible first|refine mv ?_|refine TO.nil ?_)|((with_reducible first|apply TO.pk|apply TO.asg);(repeat (focus (show _ = _;first|exact k2 rfl|(simp only [zz]<;>exact rfl))));(with_reducible apply TO.here))|((with_reducible apply TO.skip1);(repeat (focus (show _ = _;(simp only [zz,twant,zp,zs,h19]<;>exact rfl))));(with_reducible apply TO.here)))
                      have hb:=Option.some.inj hr
                      first|(cases hb;done)|(refine ⟨.inr rfl,?_⟩;first|(simp only [tresAll,tres,z1,hb,Option.map_some]<;>exact rfl)|(simp only [h2,h3,h4,h10,h12,h14,h15,h17,h18,h19] at hb;simp only [tresAll,tres,z1,hb,Option.map_some]<;>exact rfl))
                  · rw [if_neg (by rw [h18];exact Bool.false_ne_true)] at hr
                    repeat (first|with_reducible refine mv ?_|((with_reducible first|apply TO.mv|apply TO.bin);(repeat (focus (show _ = _;first|exact k2 rfl|(simp only [zz,h18]<;>exact rfl))));(with_reducible apply TO.here))|((with_reducible apply TX.region);(focus (simp only []<;>exact rfl));(focus rfl);(try dsimp only))|((with_reducible apply TX.cond_false);(focus rfl);(focus ((simp only [z1,Bool.not_true,h18];done)))))
                    rcases Bool.eq_false_or_eq_true ((decide (v11 ≠ 0))) with h20|h20
                    · rw [if_pos h20] at hr
                      repeat (first|(with_reducible first|refine mv ?_|refine TO.nil ?_)|((with_reducible first|apply TO.pk|apply TO.asg);(repeat (focus (show _ = _;first|exact k2 rfl|(simp only [zz]<;>exact rfl))));(with_reducible apply TO.here))|((with_reducible apply TO.skip1);(repeat (focus (show _ = _;(simp only [zz,twant,zp,zs,h20]<;>exact rfl))));(with_reducible apply TO.here))|((with_reducible apply TX.region);(focus (simp only []<;>exact rfl));(focus rfl);(try dsimp only))|((with_reducible apply TX.cond_true);(focus rfl);(focus (rfl))))
                      have hb:=Option.some.inj hr
                      first|(cases hb;done)|(refine ⟨.inr rfl,?_⟩;first|(simp only [tresAll,tres,z1,hb,Option.map_some]<;>exact rfl)|(simp only [h2,h3,h4,h10,h12,h14,h15,h17,h18,h20] at hb;simp only [tresAll,tres,z1,hb,Option.map_some]<;>exact rfl))
                    · rw [if_neg (by rw [h20];exact Bool.false_ne_true)] at hr
                      repeat (first|((with_reducible first|apply TO.mv|apply TO.ld);(repeat (focus (show _ = _;first|exact k2 rfl|(simp only [zz,y30,Nat.reduceAdd,Nat.reduceLeDiff,tload,rowOf,partT,h20]<;>exact rfl)|exact rfl)));(with_reducible apply TO.here)))
                      obtain ⟨v21,h21,hr⟩:=Option.bind_eq_some_iff.1 hr
                      try dsimp only at hr
                      apply TO.cal (by first|rfl|(simp only [twant,z1,zp,zs,h2,h3,h4,h10,h12,h14,h15,h17,h18,h20];done)) rfl goFn50 (Spec.ov (ref08_Echoes_spec h21) (by decide)) rfl rfl rfl
                      (repeat (focus (show _ = _;(simp only [zz,Nat.reduceAdd,shift]<;>exact rfl))))
                      with_reducible apply TO.here
                      obtain ⟨v22,h22,hr⟩:=Option.bind_eq_some_iff.1 hr
                      try dsimp only at hr
                      apply TO.lok (by first|rfl|(simp only [twant,z1,zp,zs,h2,h3,h4,h10,h12,h14,h15,h17,h18,h20];done)) rfl goFn23 (Spec.ov (base_Ints_spec h22) (by decide)) (by simp only [view,z1,z3,tmlc,take_map_part2]<;>rfl) rfl rfl (by simp [])
                      (repeat (focus (show _ = _;(simp only [zz,shift]<;>exact rfl))))
                      with_reducible apply TO.here
                      apply TO.pop1 (by first|rfl|(simp only [twant,z1,zp,zs,h2,h3,h4,h10,h12,h14,h15,h17,h18,h20];done)) (pop_not rfl)
                      (repeat (focus (show _ = _;(simp only [zz]<;>exact rfl))))
                      with_reducible apply TO.here
                      repeat (first|(with_reducible first|refine mv ?_|refine TO.nil ?_)|((with_reducible apply TO.pk);(repeat (focus (show _ = _;first|exact k2 rfl|(simp only [zz]<;>exact rfl))));(with_reducible apply TO.here)))
                      rcases Bool.eq_false_or_eq_true (v22) with h23|h23
                      · rw [if_pos h23] at hr
                        repeat (first|(with_reducible first|refine mv ?_|refine TO.nil ?_)|((with_reducible apply TO.asg);(repeat (focus (show _ = _;first|exact k2 rfl|(simp only [zz,h23]<;>exact rfl))));(with_reducible apply TO.here))|((with_reducible apply TX.region);(focus (simp only []<;>exact rfl));(focus rfl);(try dsimp only))|((with_reducible apply TX.cond_false);(focus rfl);(focus ((simp only [z1,Bool.not_true,h23];done)))))
                        apply TX.frz 1 rfl rfl
                        (repeat (focus (show _ = _;(simp only [zz,Nat.reduceEqDiff,frz,frzB,take_map_part2]<;>exact rfl))))
                        with_reducible apply TX.here
                        obtain ⟨v28,h34,hr⟩:=Option.bind_eq_some_iff.1 hr
                        refine TX.loopE (step:=law08_LoopEchoes_l1 v9 v10 v14 v19) (x:=1) h34 (fun v23=>⟨.junk :: .v (.int .i64 v3) :: .v (.int .i64 v4) :: .fptr true [.list 1 (v1.map e_i),.v (.int .i64 v2)] 0 :: .junk :: .junk :: .junk :: .list 1 ((v9.take v10).map e_i) :: .junk :: .v (.int .i64 v14) :: .junk :: .junk :: .junk :: .v (.int .i64 v19) :: .v (.int .i64 v23) :: .junk :: .junk :: .junk :: .junk :: .junk :: .junk :: .junk :: .junk :: .junk :: .junk :: .junk :: .junk :: .junk :: .junk :: .junk :: .junk :: .junk :: .junk :: .junk :: .junk :: .junk :: .junk :: .junk :: .junk :: .junk :: .junk :: .junk :: .junk :: .junk :: .junk :: .junk :: .junk :: .junk :: .junk :: .junk :: .junk :: .junk :: .junk :: .junk :: .junk :: .junk :: .junk :: .junk :: .junk :: .junk :: .junk :: .junk :: .junk :: .junk :: .junk :: .junk :: .junk :: .junk :: .junk :: .junk :: .junk :: .junk :: .junk :: .junk :: .junk :: .junk :: .junk :: .junk :: .junk :: .junk :: .junk :: .junk :: .junk :: .junk :: .junk :: .junk :: .junk :: .junk :: .junk :: .junk :: .junk :: .junk :: .junk :: .junk :: .junk :: .junk :: .junk :: .junk :: .junk :: .junk :: .junk :: .junk :: .junk :: .junk :: .junk :: .junk :: .junk :: .junk :: .junk :: .junk :: .junk :: .junk :: .junk :: .junk :: .junk :: .junk :: .junk :: .junk :: .junk :: .junk :: .junk :: .junk :: .junk :: .junk :: .junk :: .junk :: .junk :: .junk :: .junk :: .junk :: .junk :: .junk :: .junk :: .junk :: [],[]⟩) (fun e=>match e with|(.inl _)=>(.ret,⟨.junk :: .junk :: .junk :: .junk :: .junk :: .junk :: .v (.bool false) :: .junk :: .junk :: .junk :: .junk :: .junk :: .junk :: .junk :: .junk :: .junk :: .junk :: .junk :: .junk :: .junk :: .junk :: .junk :: .junk :: .junk :: .junk :: .junk :: .junk :: .junk :: .junk :: .junk :: .junk :: .junk :: .junk :: .junk :: .junk :: .junk :: .junk :: .junk :: .junk :: .junk :: .junk :: .junk :: .junk :: .junk :: .junk :: .junk :: .junk :: .junk :: .junk :: .junk :: .junk :: .junk :: .junk :: .junk :: .junk :: .junk :: .junk :: .junk :: .junk :: .junk :: .junk :: .junk :: .junk :: .junk :: .junk :: .junk :: .junk :: .junk :: .junk :: .junk :: .junk :: .junk :: .junk :: .junk :: .junk :: .junk :: .junk :: .junk :: .junk :: .junk :: .junk :: .junk :: .junk :: .junk :: .junk :: .junk :: .junk :: .junk :: .junk :: .junk :: .junk :: .junk :: .junk :: .junk :: .junk :: .junk :: .junk :: .junk :: .junk :: .junk :: .junk :: .junk :: .junk :: .junk :: .junk :: .junk :: .junk :: .junk :: .junk :: .junk :: .junk :: .junk :: .junk :: .junk :: .junk :: .junk :: .junk :: .junk :: .junk :: .junk :: .junk :: .junk :: .junk :: .junk :: .junk :: .junk :: .junk :: .junk :: .junk :: .junk :: .junk :: .junk :: .junk :: .junk :: [],[]⟩)|(.inr _)=>(.exit 0,⟨.junk :: .v (.int .i64 v3) :: .v (.int .i64 v4) :: .fptr true [.list 1 (v1.map e_i),.v (.int .i64 v2)] 0 :: .junk :: .junk :: .junk :: .list 1 ((v9.take v10).map e_i) :: .junk :: .junk :: .junk :: .junk :: .junk :: .junk :: .junk :: .junk :: .junk :: .junk :: .junk :: .junk :: .junk :: .junk :: .junk :: .junk :: .junk :: .junk :: .junk :: .junk :: .junk :: .junk :: .junk :: .junk :: .junk :: .junk :: .junk :: .junk :: .junk :: .junk :: .junk :: .junk :: .junk :: .junk :: .junk :: .junk :: .junk :: .junk :: .junk :: .junk :: .junk :: .junk :: .junk :: .junk :: .junk :: .junk :: .junk :: .junk :: .junk :: .junk :: .junk :: .junk :: .junk :: .junk :: .junk :: .junk :: .junk :: .junk :: .junk :: .junk :: .junk :: .junk :: .junk :: .junk :: .junk :: .junk :: .junk :: .junk :: .junk :: .junk :: .junk :: .junk :: .junk :: .junk :: .junk :: .junk :: .junk :: .junk :: .junk :: .junk :: .junk :: .junk :: .junk :: .junk :: .junk :: .junk :: .junk :: .junk :: .junk :: .junk :: .junk :: .junk :: .junk :: .junk :: .junk :: .junk :: .junk :: .junk :: .junk :: .junk :: .junk :: .junk :: .junk :: .junk :: .junk :: .junk :: .junk :: .junk :: .junk :: .junk :: .junk :: .junk :: .junk :: .junk :: .junk :: .junk :: .junk :: .junk :: .junk :: .junk :: .junk :: .junk :: .junk :: .junk :: .junk :: .junk :: [],[]⟩)) ?_ ?_ ?_ ?_
                        · rintro v23 v0 hr
                          dsimp only [law08_LoopEchoes_l1] at hr
                          try dsimp only
                          repeat (first|with_reducible refine mv ?_|((with_reducible first|apply TO.mv|apply TO.len|apply TO.bin);(repeat (focus (show _ = _;first|exact k2 rfl|(simp only [zz,y30,tlen]<;>exact rfl))));(with_reducible apply TO.here))|((with_reducible apply TX.region);(focus (simp only []<;>exact rfl));(focus rfl);(try dsimp only)))
                          rcases Bool.eq_false_or_eq_true ((decide (v23 < ((v9.take v10).length : Int)))) with h29|h29
                          · rw [if_pos h29] at hr
                            repeat (first|(with_reducible first|refine mv ?_|refine TO.nil ?_)|((with_reducible first|apply TO.mv|apply TO.bin|apply TO.pk);(repeat (focus (show _ = _;first|exact k2 rfl|(simp only [zz,h29]<;>exact rfl))));(with_reducible apply TO.here)))
                            rcases Bool.eq_false_or_eq_true ((decide (v19 = 0))) with h30|h30
                            · rw [if_pos h30] at hr
                              repeat (first|with_reducible refine mv ?_|((with_reducible apply TO.mv);(repeat (focus (show _ = _;first|exact k2 rfl|(simp only [zz,h30]<;>exact rfl))));(with_reducible apply TO.here))|((with_reducible apply TX.region);(focus (simp only []<;>exact rfl));(focus rfl);(try dsimp only))|((with_reducible apply TX.cond_true);(focus rfl);(focus ((simp only [z1,h30];done)))))
                              obtain ⟨v26,h31,hr⟩:=Option.bind_eq_some_iff.1 hr
                              try dsimp only at hr
                              have h31m:=tidx_map (f:=e_i) h31
                              have h31l:=getI_lt h31
                              try simp only [List.length_set] at h31l
                              have h31a:=getI_at h31
                              repeat (first|((with_reducible first|apply TO.ia|apply TO.ld|apply TO.mv);(repeat (focus (show _ = _;first|exact k2 rfl|(simp only [zz,y30,e_i,tindexAddr,tload,rowOf,partT,h31m]<;>exact rfl)|exact rfl)));(with_reducible apply TO.here)))
                              apply TO.pop1 (by first|rfl|(simp only [twant,z1,zp,zs,h2,h3,h4,h10,h12,h14,h15,h17,h18,h20,h23,h29,h30,h31m,h31l,h31a];done)) (pop_neg rfl)
                              (repeat (focus (show _ = _;(simp only [zz]<;>exact rfl))))
                              with_reducible apply TO.here
                              repeat (first|((with_reducible apply TO.mv);(repeat (focus (show _ = _;first|exact k2 rfl|(simp only [zz]<;>exact rfl))));(with_reducible apply TO.here)))
                              obtain ⟨v27,h32,hr⟩:=Option.bind_eq_some_iff.1 hr
                              try dsimp only at hr
                              apply TO.cal (by first|rfl|(simp only [twant,z1,zp,zs,h2,h3,h4,h10,h12,h14,h15,h17,h18,h20,h23,h29,h30,h31m,h31l,h31a];done)) rfl goFn24 (Spec.ov (base_Within_spec h32) (by decide)) rfl rfl rfl
                              (repeat (focus (show _ = _;(simp only [zz,shift]<;>exact rfl))))
                              with_reducible apply TO.here
                              apply TO.pop1 (by first|rfl|(simp only [twant,z1,zp,zs,h2,h3,h4,h10,h12,h14,h15,h17,h18,h20,h23,h29,h30,h31m,h31l,h31a];done)) (pop_not rfl)
                              (repeat (focus (show _ = _;(simp only [zz]<;>exact rfl))))
                              with_reducible apply TO.here
                              repeat (first|(with_reducible first|refine mv ?_|refine TO.nil ?_))
                              rcases Bool.eq_false_or_eq_true (v27) with h33|h33
                              · rw [if_pos h33] at hr
                                repeat (first|(with_reducible first|refine mv ?_|refine TO.nil ?_)|((with_reducible first|apply TO.mv|apply TO.bin|apply TO.asg);(repeat (focus (show _ = _;first|exact k2 rfl|(simp only [zz,h33]<;>exact rfl))));(with_reducible apply TO.here))|((with_reducible apply TX.region);(focus (simp only []<;>exact rfl));(focus rfl);(try dsimp only))|((with_reducible apply TX.cond_false);(focus rfl);(focus ((simp only [z1,Bool.not_true,h33];done)))))
                                cases hr
                                refine ⟨rfl,?_⟩
                                exact Wk.ren [] rfl .nil (by (repeat (first|exact RNs.nil|refine RNs.cons .junk ?_|refine RNs.cons (.keep rfl rfl) ?_|refine RNs.cons (.lsl rfl rfl) ?_|refine RNs.cons (.lsl rfl (by simp only [List.length_set])) ?_|refine RNs.cons (.lptr rfl) ?_|refine RNs.cons (.nil rfl) ?_|refine RNs.cons .nl ?_|refine RNs.cons (.keep (by simp only [h2,h3,h4,h10,h12,h14,h15,h17,h18,h20,h23,h29,h30,h33]) rfl) ?_|refine RNs.cons (.tuple' ?_) ?_|refine RNs.cons (.agg' ?_) ?_)))
                              · rw [if_neg (by rw [h33];exact Bool.false_ne_true)] at hr
                                repeat (first|(with_reducible first|refine mv ?_|refine TO.nil ?_)|((with_reducible apply TO.asg);(repeat (focus (show _ = _;first|exact k2 rfl|(simp only [zz,h33]<;>exact rfl))));(with_reducible apply TO.here))|((with_reducible apply TX.region);(focus (simp only []<;>exact rfl));(focus rfl);(try dsimp only))|((with_reducible apply TX.cond_true);(focus rfl);(focus ((simp only [z1,Bool.not_false,h33];done)))))
                                cases hr
                                refine ⟨rfl,?_⟩
                                exact Wk.ren [] rfl .nil (by (repeat (first|exact RNs.nil|refine RNs.cons .junk ?_|refine RNs.cons (.keep rfl rfl) ?_|refine RNs.cons (.lsl rfl rfl) ?_|refine RNs.cons (.lsl rfl (by simp only [List.length_set])) ?_|refine RNs.cons (.lptr rfl) ?_|refine RNs.cons (.nil rfl) ?_|refine RNs.cons .nl ?_|refine RNs.cons (.keep (by simp only [h2,h3,h4,h10,h12,h14,h15,h17,h18,h20,h23,h29,h30,h33]) rfl) ?_|refine RNs.cons (.tuple' ?_) ?_|refine RNs.cons (.agg' ?_) ?_)))
                            · rw [if_neg (by rw [h30];exact Bool.false_ne_true)] at hr
                              repeat (first|with_reducible refine mv ?_|((with_reducible apply TX.cond_false);(focus rfl);(focus ((simp only [z1,h30];done)))))
                              cases hr
                              refine ⟨rfl,?_⟩
                              exact Wk.ren [] rfl .nil (by (repeat (first|exact RNs.nil|refine RNs.cons .junk ?_|refine RNs.cons (.keep rfl rfl) ?_|refine RNs.cons (.lsl rfl rfl) ?_|refine RNs.cons (.lsl rfl (by simp only [List.length_set])) ?_|refine RNs.cons (.lptr rfl) ?_|refine RNs.cons (.nil rfl) ?_|refine RNs.cons .nl ?_|refine RNs.cons (.keep (by simp only [h2,h3,h4,h10,h12,h14,h15,h17,h18,h20,h23,h29,h30]) rfl) ?_|refine RNs.cons (.tuple' ?_) ?_|refine RNs.cons (.agg' ?_) ?_)))
                          · rw [if_neg (by rw [h29];exact Bool.false_ne_true)] at hr
                            repeat (first|(with_reducible first|refine mv ?_|refine TO.nil ?_)|((with_reducible apply TO.pk);(repeat (focus (show _ = _;first|exact k2 rfl|(simp only [zz]<;>exact rfl))));(with_reducible apply TO.here))|((with_reducible apply TO.skip1);(repeat (focus (show _ = _;(simp only [zz,twant,zp,zs,h29]<;>exact rfl))));(with_reducible apply TO.here))|((with_reducible apply TX.cond_false);(focus rfl);(focus (rfl))))
                            cases hr
                            refine ⟨rfl,?_⟩
                            exact Wk.ren [] rfl .nil (by (repeat (first|exact RNs.nil|refine RNs.cons .junk ?_|refine RNs.cons (.keep rfl rfl) ?_|refine RNs.cons (.lsl rfl rfl) ?_|refine RNs.cons (.lsl rfl (by simp only [List.length_set])) ?_|refine RNs.cons (.lptr rfl) ?_|refine RNs.cons (.nil rfl) ?_|refine RNs.cons .nl ?_|refine RNs.cons (.keep (by simp only [h2,h3,h4,h10,h12,h14,h15,h17,h18,h20,h23,h29]) rfl) ?_|refine RNs.cons (.tuple' ?_) ?_|refine RNs.cons (.agg' ?_) ?_)))
                        · intro e h;rcases e with _|e<;>cases h
                        · try dsimp only
                          rcases v28 with _|_
                          · try dsimp only at hr
                            try dsimp only
                            repeat (first|with_reducible refine mv ?_)
                            have hb:=Option.some.inj hr
                            first|(cases hb;done)|(refine ⟨.inr rfl,?_⟩;first|(simp only [tresAll,tres,z1,hb,Option.map_some]<;>exact rfl)|(simp only [h2,h3,h4,h10,h12,h14,h15,h17,h18,h20,h23] at hb;simp only [tresAll,tres,z1,hb,Option.map_some]<;>exact rfl))
                          · try dsimp only at hr
                            try dsimp only
                            repeat (first|with_reducible refine mv ?_|((with_reducible apply TO.ld);(repeat (focus (show _ = _;first|exact k2 rfl|(simp only [zz,y30,Nat.reduceAdd,Nat.reduceLeDiff,tload,rowOf,partT]<;>exact rfl)|exact rfl)));(with_reducible apply TO.here))|((with_reducible apply TX.region);(focus (simp only []<;>exact rfl));(focus rfl);(try dsimp only)))
                            obtain ⟨⟨v29,v30⟩,h35,hr⟩:=Option.bind_eq_some_iff.1 hr
                            try dsimp only at hr
                            apply TO.cal (by first|rfl|(simp only [twant,z1,zp,zs,h2,h3,h4,h10,h12,h14,h15,h17,h18,h20,h23];done)) rfl goFn17 (Spec.ov (ref08_Copy_spec h35) (by decide)) rfl rfl rfl
                            (repeat (focus (show _ = _;(simp only [zz,Nat.reduceAdd,shift]<;>exact rfl))))
                            with_reducible apply TO.here
                            repeat (first|((with_reducible apply TO.mv);(repeat (focus (show _ = _;first|exact k2 rfl|(simp only [zz]<;>exact rfl))));(with_reducible apply TO.here)))
                            obtain ⟨v31,h36,hr⟩:=Option.bind_eq_some_iff.1 hr
                            try dsimp only at hr
                            apply TO.cal (by first|rfl|(simp only [twant,z1,zp,zs,h2,h3,h4,h10,h12,h14,h15,h17,h18,h20,h23];done)) rfl goFn51 (Spec.ov (base_Floor_spec h36) (by decide)) rfl rfl rfl
                            (repeat (focus (show _ = _;(simp only [zz,shift]<;>exact rfl))))
                            with_reducible apply TO.here
                            obtain ⟨⟨v32,v33,v34⟩,h37,hr⟩:=Option.bind_eq_some_iff.1 hr
                            try dsimp only at hr
                            apply TO.lok (by first|rfl|(simp only [twant,z1,zp,zs,h2,h3,h4,h10,h12,h14,h15,h17,h18,h20,h23];done)) rfl goFn46 (Spec.ov (loop_Echoes_spec h37) (by decide)) (by simp only [view,z1,z3,tmlc]<;>rfl) rfl rfl (by simp [clTB,cl,e_i])
                            (repeat (focus (show _ = _;(simp only [zz,Nat.reduceAdd,shift]<;>exact rfl))))
                            with_reducible apply TO.here
                            repeat (first|(with_reducible first|refine mv ?_|refine TO.nil ?_)|((with_reducible first|apply TO.mv|apply TO.ext|apply TO.asg|apply TO.bin);(repeat (focus (show _ = _;first|exact k2 rfl|(simp only [zz]<;>exact rfl))));(with_reducible apply TO.here))|((with_reducible apply TX.region);(focus (simp only []<;>exact rfl));(focus rfl);(try dsimp only)))
                            rcases Bool.eq_false_or_eq_true ((decide (v34 = 0))) with h38|h38
                            · rw [if_pos h38] at hr
                              repeat (first|((with_reducible apply TO.mv);(repeat (focus (show _ = _;first|exact k2 rfl|(simp only [zz,h38]<;>exact rfl))));(with_reducible apply TO.here)))
                              obtain ⟨v35,h39,hr⟩:=Option.bind_eq_some_iff.1 hr
                              try dsimp only at hr
                              apply TO.cal (by first|rfl|(simp only [twant,z1,zp,zs,h2,h3,h4,h10,h12,h14,h15,h17,h18,h20,h23,h38];done)) rfl goFn51 (Spec.ov (base_Floor_spec h39) (by decide)) rfl rfl rfl
                              (repeat (focus (show _ = _;(simp only [zz,shift]<;>exact rfl))))
                              with_reducible apply TO.here
                              obtain ⟨v36,h40,hr⟩:=Option.bind_eq_some_iff.1 hr
                              try dsimp only at hr
                              apply TO.sb e_i h40 (by first|rfl|(simp only [twant,z1,zp,zs,h2,h3,h4,h10,h12,h14,h15,h17,h18,h20,h23,h38];done)) rfl rfl rfl so22 ok3 cs3 (by first|exact .inl ⟨rfl,rfl⟩|exact .inr ⟨_,rfl⟩) (by first|exact .inl ⟨rfl,rfl⟩|exact .inr ⟨_,rfl⟩)
                              (repeat (focus (show _ = _;(simp only [zz]<;>exact rfl))))
                              with_reducible apply TO.here
                              obtain ⟨v37,h41,hr⟩:=Option.bind_eq_some_iff.1 hr
                              try dsimp only at hr
                              apply TO.lok (by first|rfl|(simp only [twant,z1,zp,zs,h2,h3,h4,h10,h12,h14,h15,h17,h18,h20,h23,h38];done)) rfl goFn23 (Spec.ov (base_Ints_spec h41) (by decide)) (by simp only [view,z1,z3,take_map_part2]<;>rfl) rfl rfl (by simp [])
                              (repeat (focus (show _ = _;(simp only [zz,shift]<;>exact rfl))))
                              with_reducible apply TO.here
                              repeat (first|(with_reducible first|refine mv ?_|refine TO.nil ?_)|((with_reducible first|apply TO.pk|apply TO.asg);(repeat (focus (show _ = _;first|exact k2 rfl|(simp only [zz]<;>exact rfl))));(with_reducible apply TO.here)))
                              have hb:=Option.some.inj hr
                              first|(cases hb;done)|(refine ⟨.inr rfl,?_⟩;first|(simp only [hb]<;>exact rfl)|(simp only [h2,h3,h4,h10,h12,h14,h15,h17,h18,h20,h23,h38] at hb;simp only [tresAll,tres,z1,hb,Option.map_some]<;>exact rfl))
                            · rw [if_neg (by rw [h38];exact Bool.false_ne_true)] at hr
                              repeat (first|(with_reducible first|refine mv ?_|refine TO.nil ?_)|((with_reducible first|apply TO.pk|apply TO.asg);(repeat (focus (show _ = _;first|exact k2 rfl|(simp only [zz]<;>exact rfl))));(with_reducible apply TO.here))|((with_reducible apply TO.skip1);(repeat (focus (show _ = _;(simp only [zz,twant,zp,zs,h38]<;>exact rfl))));(with_reducible apply TO.here)))
                              have hb:=Option.some.inj hr
                              first|(cases hb;done)|(refine ⟨.inr rfl,?_⟩;first|(simp only [tresAll,tres,z1,hb,Option.map_some]<;>exact rfl)|(simp only [h2,h3,h4,h10,h12,h14,h15,h17,h18,h20,h23,h38] at hb;simp only [tresAll,tres,z1,hb,Option.map_some]<;>exact rfl))
                        · try dsimp only
                          exact Wk.ren [] rfl .nil (by (repeat (first|exact RNs.nil|refine RNs.cons .junk ?_|refine RNs.cons (.keep rfl rfl) ?_|refine RNs.cons (.lsl rfl rfl) ?_|refine RNs.cons (.lsl rfl (by simp only [List.length_set])) ?_|refine RNs.cons (.lptr rfl) ?_|refine RNs.cons (.nil rfl) ?_|refine RNs.cons .nl ?_|refine RNs.cons (.keep (by simp only [h2,h3,h4,h10,h12,h14,h15,h17,h18,h20,h23]) rfl) ?_|refine RNs.cons (.tuple' ?_) ?_|refine RNs.cons (.agg' ?_) ?_)))
                      · rw [if_neg (by rw [h23];exact Bool.false_ne_true)] at hr
                        repeat (first|(with_reducible first|refine mv ?_|refine TO.nil ?_)|((with_reducible apply TO.asg);(repeat (focus (show _ = _;first|exact k2 rfl|(simp only [zz,h23]<;>exact rfl))));(with_reducible apply TO.here))|((with_reducible apply TX.region);(focus (simp only []<;>exact rfl));(focus rfl);(try dsimp only))|((with_reducible apply TX.cond_true);(focus rfl);(focus ((simp only [z1,zn,h23];done)))))
                        have hb:=Option.some.inj hr
                        first|(cases hb;done)|(refine ⟨.inr rfl,?_⟩;first|(simp only [tresAll,tres,z1,hb,Option.map_some]<;>exact rfl)|(simp only [h2,h3,h4,h10,h12,h14,h15,h17,h18,h20,h23] at hb;simp only [tresAll,tres,z1,hb,Option.map_some]<;>exact rfl))
                · rw [if_neg (by rw [h17];exact Bool.false_ne_true)] at hr
                  repeat (first|(with_reducible first|refine mv ?_|refine TO.nil ?_)|((with_reducible first|apply TO.asg|apply TO.mv|apply TO.bin);(repeat (focus (show _ = _;first|exact k2 rfl|(simp only [zz,h17]<;>exact rfl))));(with_reducible apply TO.here))|((with_reducible apply TX.region);(focus (simp only []<;>exact rfl));(focus rfl);(try dsimp only))|((with_reducible apply TX.cond_true);(focus rfl);(focus (first|rfl|(simp only [z1,zn,h17];done)))))
                  rcases Bool.eq_false_or_eq_true ((decide (v11 = 2))) with h42|h42
                  · rw [if_pos h42] at hr
                    repeat (first|(with_reducible first|refine mv ?_|refine TO.nil ?_)|((with_reducible first|apply TO.mv|apply TO.len|apply TO.bin|apply TO.pk|apply TO.asg);(repeat (focus (show _ = _;first|exact k2 rfl|(simp only [zz,y30,tlen,h42]<;>exact rfl))));(with_reducible apply TO.here)))
                    have hb:=Option.some.inj hr
                    first|(cases hb;done)|(refine ⟨.inr rfl,?_⟩;first|(simp only [hb]<;>exact rfl)|(simp only [h2,h3,h4,h10,h12,h14,h15,h17,h42] at hb;simp only [tresAll,tres,z1,hb,Option.map_some]<;>exact rfl))
                  · rw [if_neg (by rw [h42];exact Bool.false_ne_true)] at hr
                    repeat (first|(with_reducible first|refine mv ?_|refine TO.nil ?_)|((with_reducible first|apply TO.pk|apply TO.asg);(repeat (focus (show _ = _;first|exact k2 rfl|(simp only [zz]<;>exact rfl))));(with_reducible apply TO.here))|((with_reducible apply TO.skip1);(repeat (focus (show _ = _;(simp only [zz,twant,zp,zs,h42]<;>exact rfl))));(with_reducible apply TO.here)))
                    have hb:=Option.some.inj hr
                    first|(cases hb;done)|(refine ⟨.inr rfl,?_⟩;first|(simp only [tresAll,tres,z1,hb,Option.map_some]<;>exact rfl)|(simp only [h2,h3,h4,h10,h12,h14,h15,h17,h42] at hb;simp only [tresAll,tres,z1,hb,Option.map_some]<;>exact rfl))
          · rw [if_neg (by rw [h12];exact Bool.false_ne_true)] at hr
            repeat (first|with_reducible refine mv ?_|((with_reducible first|apply TO.mv|apply TO.bin);(repeat (focus (show _ = _;first|exact k2 rfl|(simp only [zz,h12]<;>exact rfl))));(with_reducible apply TO.here))|((with_reducible apply TX.region);(focus (simp only []<;>exact rfl));(focus rfl);(try dsimp only))|((with_reducible apply TX.cond_false);(focus rfl);(focus ((simp only [z1,Bool.not_true,h12];done)))))
            rcases Bool.eq_false_or_eq_true ((decide (v15 ≠ v17))) with h43|h43
            · rw [if_pos h43] at hr
              repeat (first|(with_reducible first|refine mv ?_|refine TO.nil ?_)|((with_reducible first|apply TO.pk|apply TO.asg);(repeat (focus (show _ = _;first|exact k2 rfl|(simp only [zz]<;>exact rfl))));(with_reducible apply TO.here))|((with_reducible apply TO.skip1);(repeat (focus (show _ = _;(simp only [zz,twant,zp,zs,h43]<;>exact rfl))));(with_reducible apply TO.here))|((with_reducible apply TX.region);(focus (simp only []<;>exact rfl));(focus rfl);(try dsimp only))|((with_reducible apply TX.cond_true);(focus rfl);(focus (rfl))))
              have hb:=Option.some.inj hr
              first|(cases hb;done)|(refine ⟨.inr rfl,?_⟩;first|(simp only [tresAll,tres,z1,hb,Option.map_some]<;>exact rfl)|(simp only [h2,h3,h4,h10,h12,h43] at hb;simp only [tresAll,tres,z1,hb,Option.map_some]<;>exact rfl))
            · rw [if_neg (by rw [h43];exact Bool.false_ne_true)] at hr
              repeat (first|(with_reducible first|refine mv ?_|refine TO.nil ?_)|((with_reducible first|apply TO.mv|apply TO.bin|apply TO.pk);(repeat (focus (show _ = _;first|exact k2 rfl|(simp only [zz,h43]<;>exact rfl))));(with_reducible apply TO.here)))
              rcases Bool.eq_false_or_eq_true ((decide (v14 ≠ 0))) with h44|h44
              · rw [if_pos h44] at hr
                repeat (first|(with_reducible first|refine mv ?_|refine TO.nil ?_)|((with_reducible apply TO.asg);(repeat (focus (show _ = _;first|exact k2 rfl|(simp only [zz,h44]<;>exact rfl))));(with_reducible apply TO.here))|((with_reducible apply TX.region);(focus (simp only []<;>exact rfl));(focus rfl);(try dsimp only))|((with_reducible apply TX.cond_true);(focus rfl);(focus ((simp only [z1,Bool.not_true,h44];done)))))
                have hb:=Option.some.inj hr
                first|(cases hb;done)|(refine ⟨.inr rfl,?_⟩;first|(simp only [tresAll,tres,z1,hb,Option.map_some]<;>exact rfl)|(simp only [h2,h3,h4,h10,h12,h43,h44] at hb;simp only [tresAll,tres,z1,hb,Option.map_some]<;>exact rfl))
              · rw [if_neg (by rw [h44];exact Bool.false_ne_true)] at hr
                repeat (first|(with_reducible first|refine mv ?_|refine TO.nil ?_)|((with_reducible first|apply TO.mv|apply TO.bin|apply TO.pk);(repeat (focus (show _ = _;first|exact k2 rfl|(simp only [zz,h12,h44]<;>exact rfl))));(with_reducible apply TO.here))|((with_reducible apply TO.skip1);(repeat (focus (show _ = _;(simp only [zz,twant,zp,zs]<;>exact rfl))));(with_reducible apply TO.here))|((with_reducible apply TX.region);(focus (simp only []<;>exact rfl));(focus rfl);(try dsimp only))|((with_reducible apply TX.cond_false);(focus rfl);(focus (first|rfl|(simp only [z1,Bool.not_true,h44];done)))))
                rcases Bool.eq_false_or_eq_true ((decide (v17 ≠ 0))) with h45|h45
                · rw [if_pos h45] at hr
                  repeat (first|with_reducible refine mv ?_|((with_reducible first|apply TO.mv|apply TO.bin);(repeat (focus (show _ = _;first|exact k2 rfl|(simp only [zz,h45]<;>exact rfl))));(with_reducible apply TO.here))|((with_reducible apply TX.region);(focus (simp only []<;>exact rfl));(focus rfl);(try dsimp only))|((with_reducible apply TX.cond_true);(focus rfl);(focus ((simp only [z1,Bool.not_true,h45];done)))))
                  rcases Bool.eq_false_or_eq_true ((decide (v11 = v17))) with h46|h46
                  · rw [if_pos h46] at hr
                    repeat (first|(with_reducible first|refine mv ?_|refine TO.nil ?_)|((with_reducible first|apply TO.mv|apply TO.len|apply TO.bin|apply TO.pk|apply TO.asg);(repeat (focus (show _ = _;first|exact k2 rfl|(simp only [zz,y30,tlen,h46]<;>exact rfl))));(with_reducible apply TO.here)))
                    have hb:=Option.some.inj hr
                    first|(cases hb;done)|(refine ⟨.inr rfl,?_⟩;first|(simp only [hb]<;>exact rfl)|(simp only [h2,h3,h4,h10,h12,h43,h44,h45,h46] at hb;simp only [tresAll,tres,z1,hb,Option.map_some]<;>exact rfl))
                  · rw [if_neg (by rw [h46];exact Bool.false_ne_true)] at hr
                    repeat (first|(with_reducible first|refine mv ?_|refine TO.nil ?_)|((with_reducible first|apply TO.pk|apply TO.asg);(repeat (focus (show _ = _;first|exact k2 rfl|(simp only [zz]<;>exact rfl))));(with_reducible apply TO.here))|((with_reducible apply TO.skip1);(repeat (focus (show _ = _;(simp only [zz,twant,zp,zs,h46]<;>exact rfl))));(with_reducible apply TO.here)))
                    have hb:=Option.some.inj hr
                    first|(cases hb;done)|(refine ⟨.inr rfl,?_⟩;first|(simp only [tresAll,tres,z1,hb,Option.map_some]<;>exact rfl)|(simp only [h2,h3,h4,h10,h12,h43,h44,h45,h46] at hb;simp only [tresAll,tres,z1,hb,Option.map_some]<;>exact rfl))
                · rw [if_neg (by rw [h45];exact Bool.false_ne_true)] at hr
                  repeat (first|with_reducible refine mv ?_|((with_reducible first|apply TO.mv|apply TO.bin);(repeat (focus (show _ = _;first|exact k2 rfl|(simp only [zz,h45]<;>exact rfl))));(with_reducible apply TO.here))|((with_reducible apply TX.region);(focus (simp only []<;>exact rfl));(focus rfl);(try dsimp only))|((with_reducible apply TX.cond_false);(focus rfl);(focus ((simp only [z1,Bool.not_true,h45];done)))))
                  rcases Bool.eq_false_or_eq_true ((decide (v11 ≠ 0))) with h47|h47
                  · rw [if_pos h47] at hr
                    repeat (first|(with_reducible first|refine mv ?_|refine TO.nil ?_)|((with_reducible first|apply TO.pk|apply TO.asg);(repeat (focus (show _ = _;first|exact k2 rfl|(simp only [zz]<;>exact rfl))));(with_reducible apply TO.here))|((with_reducible apply TO.skip1);(repeat (focus (show _ = _;(simp only [zz,twant,zp,zs,h47]<;>exact rfl))));(with_reducible apply TO.here))|((with_reducible apply TX.region);(focus (simp only []<;>exact rfl));(focus rfl);(try dsimp only))|((with_reducible apply TX.cond_true);(focus rfl);(focus (rfl))))
                    have hb:=Option.some.inj hr
                    first|(cases hb;done)|(refine ⟨.inr rfl,?_⟩;first|(simp only [tresAll,tres,z1,hb,Option.map_some]<;>exact rfl)|(simp only [h2,h3,h4,h10,h12,h43,h44,h45,h47] at hb;simp only [tresAll,tres,z1,hb,Option.map_some]<;>exact rfl))
                  · rw [if_neg (by rw [h47];exact Bool.false_ne_true)] at hr
                    repeat (first|((with_reducible first|apply TO.mv|apply TO.ld);(repeat (focus (show _ = _;first|exact k2 rfl|(simp only [zz,y30,Nat.reduceAdd,Nat.reduceLeDiff,tload,rowOf,partT,h47]<;>exact rfl)|exact rfl)));(with_reducible apply TO.here)))
                    obtain ⟨v38,h48,hr⟩:=Option.bind_eq_some_iff.1 hr
                    try dsimp only at hr
                    apply TO.cal (by first|rfl|(simp only [twant,z1,zp,zs,h2,h3,h4,h10,h12,h43,h44,h45,h47];done)) rfl goFn50 (Spec.ov (ref08_Echoes_spec h48) (by decide)) rfl rfl rfl
                    (repeat (focus (show _ = _;(simp only [zz,Nat.reduceAdd,shift]<;>exact rfl))))
                    with_reducible apply TO.here
                    obtain ⟨v39,h49,hr⟩:=Option.bind_eq_some_iff.1 hr
                    try dsimp only at hr
                    apply TO.lok (by first|rfl|(simp only [twant,z1,zp,zs,h2,h3,h4,h10,h12,h43,h44,h45,h47];done)) rfl goFn23 (Spec.ov (base_Ints_spec h49) (by decide)) (by simp only [view,z1,z3,tmlc,take_map_part2]<;>rfl) rfl rfl (by simp [])
                    (repeat (focus (show _ = _;(simp only [zz,shift]<;>exact rfl))))
                    with_reducible apply TO.here
                    apply TO.pop1 (by first|rfl|(simp only [twant,z1,zp,zs,h2,h3,h4,h10,h12,h43,h44,h45,h47];done)) (pop_not rfl)
                    (repeat (focus (show _ = _;(simp only [zz]<;>exact rfl))))
                    with_reducible apply TO.here
                    repeat (first|(with_reducible first|refine mv ?_|refine TO.nil ?_)|((with_reducible apply TO.pk);(repeat (focus (show _ = _;first|exact k2 rfl|(simp only [zz]<;>exact rfl))));(with_reducible apply TO.here)))
                    rcases Bool.eq_false_or_eq_true (v39) with h50|h50
                    · rw [if_pos h50] at hr
                      repeat (first|(with_reducible first|refine mv ?_|refine TO.nil ?_)|((with_reducible apply TO.asg);(repeat (focus (show _ = _;first|exact k2 rfl|(simp only [zz,h50]<;>exact rfl))));(with_reducible apply TO.here))|((with_reducible apply TX.region);(focus (simp only []<;>exact rfl));(focus rfl);(try dsimp only))|((with_reducible apply TX.cond_false);(focus rfl);(focus ((simp only [z1,Bool.not_true,h50];done)))))
                      obtain ⟨v42,h53,hr⟩:=Option.bind_eq_some_iff.1 hr
                      try dsimp only at hr
                      refine TX.loopE (step:=law08_LoopEchoes_l2) (x:=v10) h53 (fun v40=>⟨.junk :: .v (.int .i64 v3) :: .v (.int .i64 v4) :: .fptr true [.list 1 (v1.map e_i),.v (.int .i64 v2)] 0 :: .junk :: .junk :: .junk :: .lsl 0 0 v40 :: .junk :: .v (.int .i64 v14) :: .junk :: .junk :: .junk :: .v (.int .i64 v17) :: .v (.int .i64 1) :: .junk :: .junk :: .junk :: .junk :: .junk :: .junk :: .junk :: .junk :: .junk :: .junk :: .junk :: .junk :: .junk :: .junk :: .junk :: .junk :: .junk :: .junk :: .junk :: .junk :: .junk :: .junk :: .junk :: .junk :: .junk :: .junk :: .junk :: .junk :: .junk :: .junk :: .junk :: .junk :: .junk :: .junk :: .junk :: .junk :: .junk :: .junk :: .junk :: .junk :: .junk :: .junk :: .junk :: .junk :: .junk :: .junk :: .junk :: .junk :: .junk :: .junk :: .junk :: .junk :: .junk :: .junk :: .junk :: .junk :: .junk :: .junk :: .junk :: .junk :: .junk :: .junk :: .junk :: .junk :: .junk :: .junk :: .junk :: .junk :: .junk :: .junk :: .junk :: .junk :: .junk :: .junk :: .junk :: .junk :: .junk :: .junk :: .junk :: .junk :: .junk :: .junk :: .junk :: .junk :: .junk :: .junk :: .junk :: .junk :: .junk :: .junk :: .junk :: .junk :: .junk :: .junk :: .junk :: .junk :: .junk :: .junk :: .junk :: .junk :: .junk :: .junk :: .junk :: .junk :: .junk :: .junk :: .junk :: .junk :: .junk :: .junk :: .junk :: .junk :: .junk :: .junk :: .junk :: .junk :: .junk :: .junk :: .junk :: [],[.rows 1 (v9.map e_i)]⟩) (fun v41=>(.exit 0,⟨.junk :: .v (.int .i64 v3) :: .v (.int .i64 v4) :: .fptr true [.list 1 (v1.map e_i),.v (.int .i64 v2)] 0 :: .junk :: .junk :: .junk :: .lsl 0 0 v41 :: .junk :: .junk :: .junk :: .junk :: .junk :: .junk :: .junk :: .junk :: .junk :: .junk :: .junk :: .junk :: .junk :: .junk :: .junk :: .junk :: .junk :: .junk :: .junk :: .junk :: .junk :: .junk :: .junk :: .junk :: .junk :: .junk :: .junk :: .junk :: .junk :: .junk :: .junk :: .junk :: .junk :: .junk :: .junk :: .junk :: .junk :: .junk :: .junk :: .junk :: .junk :: .junk :: .junk :: .junk :: .junk :: .junk :: .junk :: .junk :: .junk :: .junk :: .junk :: .junk :: .junk :: .junk :: .junk :: .junk :: .junk :: .junk :: .junk :: .junk :: .junk :: .junk :: .junk :: .junk :: .junk :: .junk :: .junk :: .junk :: .junk :: .junk :: .junk :: .junk :: .junk :: .junk :: .junk :: .junk :: .junk :: .junk :: .junk :: .junk :: .junk :: .junk :: .junk :: .junk :: .junk :: .junk :: .junk :: .junk :: .junk :: .junk :: .junk :: .junk :: .junk :: .junk :: .junk :: .junk :: .junk :: .junk :: .junk :: .junk :: .junk :: .junk :: .junk :: .junk :: .junk :: .junk :: .junk :: .junk :: .junk :: .junk :: .junk :: .junk :: .junk :: .junk :: .junk :: .junk :: .junk :: .junk :: .junk :: .junk :: .junk :: .junk :: .junk :: .junk :: .junk :: .junk :: [],[.rows 1 (v9.map e_i)]⟩)) ?_ ?_ ?_ ?_
                      · rintro v40 v0 hr
                        dsimp only [law08_LoopEchoes_l2] at hr
                        try dsimp only
                        repeat (first|with_reducible refine mv ?_|((with_reducible first|apply TO.mv|apply TO.len|apply TO.bin);(repeat (focus (show _ = _;first|exact k2 rfl|(simp only [zz,y30,tlen]<;>exact rfl))));(with_reducible apply TO.here))|((with_reducible apply TX.region);(focus (simp only []<;>exact rfl));(focus rfl);(try dsimp only)))
                        rcases Bool.eq_false_or_eq_true ((decide (1 < (v40 : Int)))) with h52|h52
                        · rw [if_pos h52] at hr
                          repeat (first|(with_reducible first|refine mv ?_|refine TO.nil ?_)|((with_reducible first|apply TO.mv|apply TO.bin|apply TO.pk);(repeat (focus (show _ = _;first|exact k2 rfl|(simp only [zz,h12,h52]<;>exact rfl))));(with_reducible apply TO.here))|((with_reducible apply TX.cond_false);(focus rfl);(focus (rfl))))
                          cases hr
                          refine ⟨rfl,?_⟩
                          exact Wk.ren [some 0] rfl (.rows .nil rfl rfl) (by (repeat (first|exact RNs.nil|refine RNs.cons .junk ?_|refine RNs.cons (.keep rfl rfl) ?_|refine RNs.cons (.lsl rfl rfl) ?_|refine RNs.cons (.lsl rfl (by simp only [List.length_set])) ?_|refine RNs.cons (.lptr rfl) ?_|refine RNs.cons (.nil rfl) ?_|refine RNs.cons .nl ?_|refine RNs.cons (.keep (by simp only [h2,h3,h4,h10,h12,h43,h44,h45,h47,h50,h52]) rfl) ?_|refine RNs.cons (.tuple' ?_) ?_|refine RNs.cons (.agg' ?_) ?_)))
                        · rw [if_neg (by rw [h52];exact Bool.false_ne_true)] at hr
                          repeat (first|(with_reducible first|refine mv ?_|refine TO.nil ?_)|((with_reducible apply TO.pk);(repeat (focus (show _ = _;first|exact k2 rfl|(simp only [zz]<;>exact rfl))));(with_reducible apply TO.here))|((with_reducible apply TO.skip1);(repeat (focus (show _ = _;(simp only [zz,twant,zp,zs,h52]<;>exact rfl))));(with_reducible apply TO.here))|((with_reducible apply TX.cond_false);(focus rfl);(focus (rfl))))
                          cases hr
                          refine ⟨rfl,?_⟩
                          exact Wk.ren [some 0] rfl (.rows .nil rfl rfl) (by (repeat (first|exact RNs.nil|refine RNs.cons .junk ?_|refine RNs.cons (.keep rfl rfl) ?_|refine RNs.cons (.lsl rfl rfl) ?_|refine RNs.cons (.lsl rfl (by simp only [List.length_set])) ?_|refine RNs.cons (.lptr rfl) ?_|refine RNs.cons (.nil rfl) ?_|refine RNs.cons .nl ?_|refine RNs.cons (.keep (by simp only [h2,h3,h4,h10,h12,h43,h44,h45,h47,h50,h52]) rfl) ?_|refine RNs.cons (.tuple' ?_) ?_|refine RNs.cons (.agg' ?_) ?_)))
                      · intro e h;cases h
                      · try dsimp only
                        repeat (first|with_reducible refine mv ?_|((with_reducible apply TO.ld);(repeat (focus (show _ = _;first|exact k2 rfl|(simp only [zz,y30,Nat.reduceAdd,Nat.reduceLeDiff,tload,rowOf,partT]<;>exact rfl)|exact rfl)));(with_reducible apply TO.here))|((with_reducible apply TX.region);(focus (simp only []<;>exact rfl));(focus rfl);(try dsimp only)))
                        obtain ⟨⟨v43,v44⟩,h54,hr⟩:=Option.bind_eq_some_iff.1 hr
                        try dsimp only at hr
                        apply TO.cal (by first|rfl|(simp only [twant,z1,zp,zs,h2,h3,h4,h10,h12,h43,h44,h45,h47,h50];done)) rfl goFn17 (Spec.ov (ref08_Copy_spec h54) (by decide)) rfl rfl rfl
                        (repeat (focus (show _ = _;(simp only [zz,Nat.reduceAdd,shift]<;>exact rfl))))
                        with_reducible apply TO.here
                        repeat (first|((with_reducible apply TO.mv);(repeat (focus (show _ = _;first|exact k2 rfl|(simp only [zz]<;>exact rfl))));(with_reducible apply TO.here)))
                        obtain ⟨v45,h55,hr⟩:=Option.bind_eq_some_iff.1 hr
                        try dsimp only at hr
                        apply TO.cal (by first|rfl|(simp only [twant,z1,zp,zs,h2,h3,h4,h10,h12,h43,h44,h45,h47,h50];done)) rfl goFn51 (Spec.ov (base_Floor_spec h55) (by decide)) rfl rfl rfl
                        (repeat (focus (show _ = _;(simp only [zz,shift]<;>exact rfl))))
                        with_reducible apply TO.here
                        obtain ⟨⟨v46,v47,v48⟩,h56,hr⟩:=Option.bind_eq_some_iff.1 hr
                        try dsimp only at hr
                        apply TO.lok (by first|rfl|(simp only [twant,z1,zp,zs,h2,h3,h4,h10,h12,h43,h44,h45,h47,h50];done)) rfl goFn46 (Spec.ov (loop_Echoes_spec h56) (by decide)) (by simp only [view,z1,z3,tmlc]<;>rfl) rfl rfl (by simp [clTB,cl,e_i])
                        (repeat (focus (show _ = _;(simp only [zz,Nat.reduceAdd,shift]<;>exact rfl))))
                        with_reducible apply TO.here
                        repeat (first|(with_reducible first|refine mv ?_|refine TO.nil ?_)|((with_reducible first|apply TO.mv|apply TO.ext|apply TO.asg|apply TO.bin);(repeat (focus (show _ = _;first|exact k2 rfl|(simp only [zz]<;>exact rfl))));(with_reducible apply TO.here))|((with_reducible apply TX.region);(focus (simp only []<;>exact rfl));(focus rfl);(try dsimp only)))
                        rcases Bool.eq_false_or_eq_true ((decide (v48 = 0))) with h57|h57
                        · rw [if_pos h57] at hr
                          repeat (first|((with_reducible apply TO.mv);(repeat (focus (show _ = _;first|exact k2 rfl|(simp only [zz,h57]<;>exact rfl))));(with_reducible apply TO.here)))
                          obtain ⟨v49,h58,hr⟩:=Option.bind_eq_some_iff.1 hr
                          try dsimp only at hr
                          apply TO.cal (by first|rfl|(simp only [twant,z1,zp,zs,h2,h3,h4,h10,h12,h43,h44,h45,h47,h50,h57];done)) rfl goFn51 (Spec.ov (base_Floor_spec h58) (by decide)) rfl rfl rfl
                          (repeat (focus (show _ = _;(simp only [zz,shift]<;>exact rfl))))
                          with_reducible apply TO.here
                          obtain ⟨v50,h59,hr⟩:=Option.bind_eq_some_iff.1 hr
                          try dsimp only at hr
                          apply TO.ct e_i h59 (by first|rfl|(simp only [twant,z1,zp,zs,h2,h3,h4,h10,h12,h43,h44,h45,h47,h50,h57];done)) rfl rfl rfl so22 ok3 cs3
                          (repeat (focus (show _ = _;(simp only [zz]<;>exact rfl))))
                          with_reducible apply TO.here
                          obtain ⟨v51,h60,hr⟩:=Option.bind_eq_some_iff.1 hr
                          try dsimp only at hr
                          apply TO.lok (by first|rfl|(simp only [twant,z1,zp,zs,h2,h3,h4,h10,h12,h43,h44,h45,h47,h50,h57];done)) rfl goFn23 (Spec.ov (base_Ints_spec h60) (by decide)) (by simp only [view,z1,z3,take_map_part2]<;>rfl) rfl rfl (by simp [])
                          (repeat (focus (show _ = _;(simp only [zz,shift]<;>exact rfl))))
                          with_reducible apply TO.here
                          repeat (first|(with_reducible first|refine mv ?_|refine TO.nil ?_)|((with_reducible first|apply TO.pk|apply TO.asg);(repeat (focus (show _ = _;first|exact k2 rfl|(simp only [zz]<;>exact rfl))));(with_reducible apply TO.here)))
                          have hb:=Option.some.inj hr
                          first|(cases hb;done)|(refine ⟨.inr rfl,?_⟩;first|(simp only [hb]<;>exact rfl)|(simp only [h2,h3,h4,h10,h12,h43,h44,h45,h47,h50,h57] at hb;simp only [tresAll,tres,z1,hb,Option.map_some]<;>exact rfl))
                        · rw [if_neg (by rw [h57];exact Bool.false_ne_true)] at hr
                          repeat (first|(with_reducible first|refine mv ?_|refine TO.nil ?_)|((with_reducible first|apply TO.pk|apply TO.asg);(repeat (focus (show _ = _;first|exact k2 rfl|(simp only [zz]<;>exact rfl))));(with_reducible apply TO.here))|((with_reducible apply TO.skip1);(repeat (focus (show _ = _;(simp only [zz,twant,zp,zs,h57]<;>exact rfl))));(with_reducible apply TO.here)))
                          have hb:=Option.some.inj hr
                          first|(cases hb;done)|(refine ⟨.inr rfl,?_⟩;first|(simp only [tresAll,tres,z1,hb,Option.map_some]<;>exact rfl)|(simp only [h2,h3,h4,h10,h12,h43,h44,h45,h47,h50,h57] at hb;simp only [tresAll,tres,z1,hb,Option.map_some]<;>exact rfl))
                      · try dsimp only
                        exact Wk.ren [some 1] rfl (.rows .nil rfl rfl) (by (repeat (first|exact RNs.nil|refine RNs.cons .junk ?_|refine RNs.cons (.keep rfl rfl) ?_|refine RNs.cons (.lsl rfl rfl) ?_|refine RNs.cons (.lsl rfl (by simp only [List.length_set])) ?_|refine RNs.cons (.lptr rfl) ?_|refine RNs.cons (.nil rfl) ?_|refine RNs.cons .nl ?_|refine RNs.cons (.keep (by simp only [h2,h3,h4,h10,h12,h43,h44,h45,h47,h50]) rfl) ?_|refine RNs.cons (.tuple' ?_) ?_|refine RNs.cons (.agg' ?_) ?_)))
                    · rw [if_neg (by rw [h50];exact Bool.false_ne_true)] at hr
                      repeat (first|(with_reducible first|refine mv ?_|refine TO.nil ?_)|((with_reducible apply TO.asg);(repeat (focus (show _ = _;first|exact k2 rfl|(simp only [zz,h50]<;>exact rfl))));(with_reducible apply TO.here))|((with_reducible apply TX.region);(focus (simp only []<;>exact rfl));(focus rfl);(try dsimp only))|((with_reducible apply TX.cond_true);(focus rfl);(focus ((simp only [z1,zn,h50];done)))))
                      have hb:=Option.some.inj hr
                      first|(cases hb;done)|(refine ⟨.inr rfl,?_⟩;first|(simp only [tresAll,tres,z1,hb,Option.map_some]<;>exact rfl)|(simp only [h2,h3,h4,h10,h12,h43,h44,h45,h47,h50] at hb;simp only [tresAll,tres,z1,hb,Option.map_some]<;>exact rfl))
        · rw [if_neg (by rw [h10];exact Bool.false_ne_true)] at hr
          repeat (first|(with_reducible first|refine mv ?_|refine TO.nil ?_)|((with_reducible first|apply TO.mv|apply TO.asg|apply TO.bin);(repeat (focus (show _ = _;first|exact k2 rfl|(simp only [zz,h10]<;>exact rfl))));(with_reducible apply TO.here))|((with_reducible apply TX.region);(focus (simp only []<;>exact rfl));(focus rfl);(try dsimp only))|((with_reducible apply TX.cond_false);(focus rfl);(focus (first|rfl|(simp only [z1,Bool.not_true,h10];done)))))
          rcases Bool.eq_false_or_eq_true ((decide (v15 ≠ v16))) with h61|h61
          · rw [if_pos h61] at hr
            repeat (first|(with_reducible first|refine mv ?_|refine TO.nil ?_)|((with_reducible first|apply TO.pk|apply TO.asg);(repeat (focus (show _ = _;first|exact k2 rfl|(simp only [zz]<;>exact rfl))));(with_reducible apply TO.here))|((with_reducible apply TO.skip1);(repeat (focus (show _ = _;(simp only [zz,twant,zp,zs,h61]<;>exact rfl))));(with_reducible apply TO.here))|((with_reducible apply TX.region);(focus (simp only []<;>exact rfl));(focus rfl);(try dsimp only))|((with_reducible apply TX.cond_true);(focus rfl);(focus (rfl))))
            have hb:=Option.some.inj hr
            first|(cases hb;done)|(refine ⟨.inr rfl,?_⟩;first|(simp only [tresAll,tres,z1,hb,Option.map_some]<;>exact rfl)|(simp only [h2,h3,h4,h10,h61] at hb;simp only [tresAll,tres,z1,hb,Option.map_some]<;>exact rfl))
          · rw [if_neg (by rw [h61];exact Bool.false_ne_true)] at hr
            repeat (first|(with_reducible first|refine mv ?_|refine TO.nil ?_)|((with_reducible first|apply TO.mv|apply TO.bin|apply TO.pk);(repeat (focus (show _ = _;first|exact k2 rfl|(simp only [zz,h61]<;>exact rfl))));(with_reducible apply TO.here)))
            rcases Bool.eq_false_or_eq_true ((decide (v14 ≠ 0))) with h62|h62
            · rw [if_pos h62] at hr
              repeat (first|(with_reducible first|refine mv ?_|refine TO.nil ?_)|((with_reducible apply TO.asg);(repeat (focus (show _ = _;first|exact k2 rfl|(simp only [zz,h62]<;>exact rfl))));(with_reducible apply TO.here))|((with_reducible apply TX.region);(focus (simp only []<;>exact rfl));(focus rfl);(try dsimp only))|((with_reducible apply TX.cond_true);(focus rfl);(focus ((simp only [z1,Bool.not_true,h62];done)))))
              have hb:=Option.some.inj hr
              first|(cases hb;done)|(refine ⟨.inr rfl,?_⟩;first|(simp only [tresAll,tres,z1,hb,Option.map_some]<;>exact rfl)|(simp only [h2,h3,h4,h10,h61,h62] at hb;simp only [tresAll,tres,z1,hb,Option.map_some]<;>exact rfl))
            · rw [if_neg (by rw [h62];exact Bool.false_ne_true)] at hr
              repeat (first|(with_reducible first|refine mv ?_|refine TO.nil ?_)|((with_reducible first|apply TO.mv|apply TO.bin|apply TO.pk);(repeat (focus (show _ = _;first|exact k2 rfl|(simp only [zz,h10,h62]<;>exact rfl))));(with_reducible apply TO.here))|((with_reducible apply TO.skip1);(repeat (focus (show _ = _;(simp only [zz,twant,zp,zs]<;>exact rfl))));(with_reducible apply TO.here))|((with_reducible apply TX.region);(focus (simp only []<;>exact rfl));(focus rfl);(try dsimp only))|((with_reducible apply TX.cond_false);(focus rfl);(focus (first|rfl|(simp only [z1,Bool.not_true,h62];done)))))
              rcases Bool.eq_false_or_eq_true ((decide (v16 ≠ 0))) with h63|h63
              · rw [if_pos h63] at hr
                repeat (first|with_reducible refine mv ?_|((with_reducible first|apply TO.mv|apply TO.bin);(repeat (focus (show _ = _;first|exact k2 rfl|(simp only [zz,h63]<;>exact rfl))));(with_reducible apply TO.here))|((with_reducible apply TX.region);(focus (simp only []<;>exact rfl));(focus rfl);(try dsimp only))|((with_reducible apply TX.cond_true);(focus rfl);(focus ((simp only [z1,Bool.not_true,h63];done)))))
                rcases Bool.eq_false_or_eq_true ((decide (v11 = v16))) with h64|h64
                · rw [if_pos h64] at hr
                  repeat (first|(with_reducible first|refine mv ?_|refine TO.nil ?_)|((with_reducible first|apply TO.mv|apply TO.len|apply TO.bin|apply TO.pk|apply TO.asg);(repeat (focus (show _ = _;first|exact k2 rfl|(simp only [zz,y30,tlen,h64]<;>exact rfl))));(with_reducible apply TO.here)))
                  have hb:=Option.some.inj hr
                  first|(cases hb;done)|(refine ⟨.inr rfl,?_⟩;first|(simp only [hb]<;>exact rfl)|(simp only [h2,h3,h4,h10,h61,h62,h63,h64] at hb;simp only [tresAll,tres,z1,hb,Option.map_some]<;>exact rfl))
                · rw [if_neg (by rw [h64];exact Bool.false_ne_true)] at hr
                  repeat (first|(with_reducible first|refine mv ?_|refine TO.nil ?_)|((with_reducible first|apply TO.pk|apply TO.asg);(repeat (focus (show _ = _;first|exact k2 rfl|(simp only [zz]<;>exact rfl))));(with_reducible apply TO.here))|((with_reducible apply TO.skip1);(repeat (focus (show _ = _;(simp only [zz,twant,zp,zs,h64]<;>exact rfl))));(with_reducible apply TO.here)))
                  have hb:=Option.some.inj hr
                  first|(cases hb;done)|(refine ⟨.inr rfl,?_⟩;first|(simp only [tresAll,tres,z1,hb,Option.map_some]<;>exact rfl)|(simp only [h2,h3,h4,h10,h61,h62,h63,h64] at hb;simp only [tresAll,tres,z1,hb,Option.map_some]<;>exact rfl))
              · rw [if_neg (by rw [h63];exact Bool.false_ne_true)] at hr
                repeat (first|with_reducible refine mv ?_|((with_reducible first|apply TO.mv|apply TO.bin);(repeat (focus (show _ = _;first|exact k2 rfl|(simp only [zz,h63]<;>exact rfl))));(with_reducible apply TO.here))|((with_reducible apply TX.region);(focus (simp only []<;>exact rfl));(focus rfl);(try dsimp only))|((with_reducible apply TX.cond_false);(focus rfl);(focus ((simp only [z1,Bool.not_true,h63];done)))))
                rcases Bool.eq_false_or_eq_true ((decide (v11 ≠ 0))) with h65|h65
                · rw [if_pos h65] at hr
                  repeat (first|(with_reducible first|refine mv ?_|refine TO.nil ?_)|((with_reducible first|apply TO.pk|apply TO.asg);(repeat (focus (show _ = _;first|exact k2 rfl|(simp only [zz]<;>exact rfl))));(with_reducible apply TO.here))|((with_reducible apply TO.skip1);(repeat (focus (show _ = _;(simp only [zz,twant,zp,zs,h65]<;>exact rfl))));(with_reducible apply TO.here))|((with_reducible apply TX.region);(focus (simp only []<;>exact rfl));(focus rfl);(try dsimp only))|((with_reducible apply TX.cond_true);(focus rfl);(focus (rfl))))
                  have hb:=Option.some.inj hr
                  first|(cases hb;done)|(refine ⟨.inr rfl,?_⟩;first|(simp only [tresAll,tres,z1,hb,Option.map_some]<;>exact rfl)|(simp only [h2,h3,h4,h10,h61,h62,h63,h65] at hb;simp only [tresAll,tres,z1,hb,Option.map_some]<;>exact rfl))
                · rw [if_neg (by rw [h65];exact Bool.false_ne_true)] at hr
                  repeat (first|((with_reducible first|apply TO.mv|apply TO.ld);(repeat (focus (show _ = _;first|exact k2 rfl|(simp only [zz,y30,Nat.reduceAdd,Nat.reduceLeDiff,tload,rowOf,partT,h65]<;>exact rfl)|exact rfl)));(with_reducible apply TO.here)))
                  obtain ⟨v52,h66,hr⟩:=Option.bind_eq_some_iff.1 hr
                  try dsimp only at hr
                  apply TO.cal (by first|rfl|(simp only [twant,z1,zp,zs,h2,h3,h4,h10,h61,h62,h63,h65];done)) rfl goFn50 (Spec.ov (ref08_Echoes_spec h66) (by decide)) rfl rfl rfl
                  (repeat (focus (show _ = _;(simp only [zz,Nat.reduceAdd,shift]<;>exact rfl))))
                  with_reducible apply TO.here
                  obtain ⟨v53,h67,hr⟩:=Option.bind_eq_some_iff.1 hr
                  try dsimp only at hr
                  apply TO.lok (by first|rfl|(simp only [twant,z1,zp,zs,h2,h3,h4,h10,h61,h62,h63,h65];done)) rfl goFn23 (Spec.ov (base_Ints_spec h67) (by decide)) (by simp only [view,z1,z3,tmlc,take_map_part2]<;>rfl) rfl rfl (by simp [])
                  (repeat (focus (show _ = _;(simp only [zz,shift]<;>exact rfl))))
                  with_reducible apply TO.here
                  apply TO.pop1 (by first|rfl|(simp only [twant,z1,zp,zs,h2,h3,h4,h10,h61,h62,h63,h65];done)) (pop_not rfl)
                  (repeat (focus (show _ = _;(simp only [zz]<;>exact rfl))))
                  with_reducible apply TO.here
                  repeat (first|(with_reducible first|refine mv ?_|refine TO.nil ?_)|((with_reducible apply TO.pk);(repeat (focus (show _ = _;first|exact k2 rfl|(simp only [zz]<;>exact rfl))));(with_reducible apply TO.here)))
                  rcases Bool.eq_false_or_eq_true (v53) with h68|h68
                  · rw [if_pos h68] at hr
                    repeat (first|(with_reducible first|refine mv ?_|refine TO.nil ?_)|((with_reducible apply TO.asg);(repeat (focus (show _ = _;first|exact k2 rfl|(simp only [zz,h68]<;>exact rfl))));(with_reducible apply TO.here))|((with_reducible apply TX.region);(focus (simp only []<;>exact rfl));(focus rfl);(try dsimp only))|((with_reducible apply TX.cond_false);(focus rfl);(focus ((simp only [z1,Bool.not_true,h68];done)))))
                    obtain ⟨v56,h71,hr⟩:=Option.bind_eq_some_iff.1 hr
                    try dsimp only at hr
                    refine TX.loopE (step:=law08_LoopEchoes_l3) (x:=v10) h71 (fun v54=>⟨.junk :: .v (.int .i64 v3) :: .v (.int .i64 v4) :: .fptr true [.list 1 (v1.map e_i),.v (.int .i64 v2)] 0 :: .junk :: .junk :: .junk :: .lsl 0 0 v54 :: .junk :: .v (.int .i64 v14) :: .junk :: .junk :: .junk :: .v (.int .i64 v16) :: .v (.int .i64 1) :: .junk :: .junk :: .junk :: .junk :: .junk :: .junk :: .junk :: .junk :: .junk :: .junk :: .junk :: .junk :: .junk :: .junk :: .junk :: .junk :: .junk :: .junk :: .junk :: .junk :: .junk :: .junk :: .junk :: .junk :: .junk :: .junk :: .junk :: .junk :: .junk :: .junk :: .junk :: .junk :: .junk :: .junk :: .junk :: .junk :: .junk :: .junk :: .junk :: .junk :: .junk :: .junk :: .junk :: .junk :: .junk :: .junk :: .junk :: .junk :: .junk :: .junk :: .junk :: .junk :: .junk :: .junk :: .junk :: .junk :: .junk :: .junk :: .junk :: .junk :: .junk :: .junk :: .junk :: .junk :: .junk :: .junk :: .junk :: .junk :: .junk :: .junk :: .junk :: .junk :: .junk :: .junk :: .junk :: .junk :: .junk :: .junk :: .junk :: .junk :: .junk :: .junk :: .junk :: .junk :: .junk :: .junk :: .junk :: .junk :: .junk :: .junk :: .junk :: .junk :: .junk :: .junk :: .junk :: .junk :: .junk :: .junk :: .junk :: .junk :: .junk :: .junk :: .junk :: .junk :: .junk :: .junk :: .junk :: .junk :: .junk :: .junk :: .junk :: .junk :: .junk :: .junk :: .junk :: .junk :: .junk :: .junk :: .junk :: [],[.rows 1 (v9.map e_i)]⟩) (fun v55=>(.exit 0,⟨.junk :: .v (.int .i64 v3) :: .v (.int .i64 v4) :: .fptr true [.list 1 (v1.map e_i),.v (.int .i64 v2)] 0 :: .junk :: .junk :: .junk :: .lsl 0 0 v55 :: .junk :: .junk :: .junk :: .junk :: .junk :: .junk :: .junk :: .junk :: .junk :: .junk :: .junk :: .junk :: .junk :: .junk :: .junk :: .junk :: .junk :: .junk :: .junk :: .junk :: .junk :: .junk :: .junk :: .junk :: .junk :: .junk :: .junk :: .junk :: .junk :: .junk :: .junk :: .junk :: .junk :: .junk :: .junk :: .junk :: .junk :: .junk :: .junk :: .junk :: .junk :: .junk :: .junk :: .junk :: .junk :: .junk :: .junk :: .junk :: .junk :: .junk :: .junk :: .junk :: .junk :: .junk :: .junk :: .junk :: .junk :: .junk :: .junk :: .junk :: .junk :: .junk :: .junk :: .junk :: .junk :: .junk :: .junk :: .junk :: .junk :: .junk :: .junk :: .junk :: .junk :: .junk :: .junk :: .junk :: .junk :: .junk :: .junk :: .junk :: .junk :: .junk :: .junk :: .junk :: .junk :: .junk :: .junk :: .junk :: .junk :: .junk :: .junk :: .junk :: .junk :: .junk :: .junk :: .junk :: .junk :: .junk :: .junk :: .junk :: .junk :: .junk :: .junk :: .junk :: .junk :: .junk :: .junk :: .junk :: .junk :: .junk :: .junk :: .junk :: .junk :: .junk :: .junk :: .junk :: .junk :: .junk :: .junk :: .junk :: .junk :: .junk :: .junk :: .junk :: .junk :: .junk :: [],[.rows 1 (v9.map e_i)]⟩)) ?_ ?_ ?_ ?_
                    · rintro v54 v0 hr
                      dsimp only [law08_LoopEchoes_l3] at hr
                      try dsimp only
                      repeat (first|with_reducible refine mv ?_|((with_reducible first|apply TO.mv|apply TO.len|apply TO.bin);(repeat (focus (show _ = _;first|exact k2 rfl|(simp only [zz,y30,tlen]<;>exact rfl))));(with_reducible apply TO.here))|((with_reducible apply TX.region);(focus (simp only []<;>exact rfl));(focus rfl);(try dsimp only)))
                      rcases Bool.eq_false_or_eq_true ((decide (1 < (v54 : Int)))) with h70|h70
                      · rw [if_pos h70] at hr
                        repeat (first|(with_reducible first|refine mv ?_|refine TO.nil ?_)|((with_reducible first|apply TO.mv|apply TO.bin|apply TO.pk);(repeat (focus (show _ = _;first|exact k2 rfl|(simp only [zz,h10,h70]<;>exact rfl))));(with_reducible apply TO.here))|((with_reducible apply TX.cond_false);(focus rfl);(focus (rfl))))
                        cases hr
                        refine ⟨rfl,?_⟩
                        exact Wk.ren [some 0] rfl (.rows .nil rfl rfl) (by (repeat (first|exact RNs.nil|refine RNs.cons .junk ?_|refine RNs.cons (.keep rfl rfl) ?_|refine RNs.cons (.lsl rfl rfl) ?_|refine RNs.cons (.lsl rfl (by simp only [List.length_set])) ?_|refine RNs.cons (.lptr rfl) ?_|refine RNs.cons (.nil rfl) ?_|refine RNs.cons .nl ?_|refine RNs.cons (.keep (by simp only [h2,h3,h4,h10,h61,h62,h63,h65,h68,h70]) rfl) ?_|refine RNs.cons (.tuple' ?_) ?_|refine RNs.cons (.agg' ?_) ?_)))
                      · rw [if_neg (by rw [h70];exact Bool.false_ne_true)] at hr
                        repeat (first|(with_reducible first|refine mv ?_|refine TO.nil ?_)|((with_reducible apply TO.pk);(repeat (focus (show _ = _;first|exact k2 rfl|(simp only [zz]<;>exact rfl))));(with_reducible apply TO.here))|((with_reducible apply TO.skip1);(repeat (focus (show _ = _;(simp only [zz,twant,zp,zs,h70]<;>exact rfl))));(with_reducible apply TO.here))|((with_reducible apply TX.cond_false);(focus rfl);(focus (rfl))))
                        cases hr
                        refine ⟨rfl,?_⟩
                        exact Wk.ren [some 0] rfl (.rows .nil rfl rfl) (by (repeat (first|exact RNs.nil|refine RNs.cons .junk ?_|refine RNs.cons (.keep rfl rfl) ?_|refine RNs.cons (.lsl rfl rfl) ?_|refine RNs.cons (.lsl rfl (by simp only [List.length_set])) ?_|refine RNs.cons (.lptr rfl) ?_|refine RNs.cons (.nil rfl) ?_|refine RNs.cons .nl ?_|refine RNs.cons (.keep (by simp only [h2,h3,h4,h10,h61,h62,h63,h65,h68,h70]) rfl) ?_|refine RNs.cons (.tuple' ?_) ?_|refine RNs.cons (.agg' ?_) ?_)))
                    · intro e h;cases h
                    · try dsimp only
                      repeat (first|with_reducible refine mv ?_|((with_reducible apply TO.ld);(repeat (focus (show _ = _;first|exact k2 rfl|(simp only [zz,y30,Nat.reduceAdd,Nat.reduceLeDiff,tload,rowOf,partT]<;>exact rfl)|exact rfl)));(with_reducible apply TO.here))|((with_reducible apply TX.region);(focus (simp only []<;>exact rfl));(focus rfl);(try dsimp only)))
                      obtain ⟨⟨v57,v58⟩,h72,hr⟩:=Option.bind_eq_some_iff.1 hr
                      try dsimp only at hr
                      apply TO.cal (by first|rfl|(simp only [twant,z1,zp,zs,h2,h3,h4,h10,h61,h62,h63,h65,h68];done)) rfl goFn17 (Spec.ov (ref08_Copy_spec h72) (by decide)) rfl rfl rfl
                      (repeat (focus (show _ = _;(simp only [zz,Nat.reduceAdd,shift]<;>exact rfl))))
                      with_reducible apply TO.here
                      repeat (first|((with_reducible apply TO.mv);(repeat (focus (show _ = _;first|exact k2 rfl|(simp only [zz]<;>exact rfl))));(with_reducible apply TO.here)))
                      obtain ⟨v59,h73,hr⟩:=Option.bind_eq_some_iff.1 hr
                      try dsimp only at hr
                      apply TO.cal (by first|rfl|(simp only [twant,z1,zp,zs,h2,h3,h4,h10,h61,h62,h63,h65,h68];done)) rfl goFn51 (Spec.ov (base_Floor_spec h73) (by decide)) rfl rfl rfl
                      (repeat (focus (show _ = _;(simp only [zz,shift]<;>exact rfl))))
                      with_reducible apply TO.here
                      obtain ⟨⟨v60,v61,v62⟩,h74,hr⟩:=Option.bind_eq_some_iff.1 hr
                      try dsimp only at hr
                      apply TO.lok (by first|rfl|(simp only [twant,z1,zp,zs,h2,h3,h4,h10,h61,h62,h63,h65,h68];done)) rfl goFn46 (Spec.ov (loop_Echoes_spec h74) (by decide)) (by simp only [view,z1,z3,tmlc]<;>rfl) rfl rfl (by simp [clTB,cl,e_i])
                      (repeat (focus (show _ = _;(simp only [zz,Nat.reduceAdd,shift]<;>exact rfl))))
                      with_reducible apply TO.here
                      repeat (first|(with_reducible first|refine mv ?_|refine TO.nil ?_)|((with_reducible first|apply TO.mv|apply TO.ext|apply TO.asg|apply TO.bin);(repeat (focus (show _ = _;first|exact k2 rfl|(simp only [zz]<;>exact rfl))));(with_reducible apply TO.here))|((with_reducible apply TX.region);(focus (simp only []<;>exact rfl));(focus rfl);(try dsimp only)))
                      rcases Bool.eq_false_or_eq_true ((decide (v62 = 0))) with h75|h75
                      · rw [if_pos h75] at hr
                        repeat (first|((with_reducible apply TO.mv);(repeat (focus (show _ = _;first|exact k2 rfl|(simp only [zz,h75]<;>exact rfl))));(with_reducible apply TO.here)))
                        obtain ⟨v63,h76,hr⟩:=Option.bind_eq_some_iff.1 hr
                        try dsimp only at hr
                        apply TO.cal (by first|rfl|(simp only [twant,z1,zp,zs,h2,h3,h4,h10,h61,h62,h63,h65,h68,h75];done)) rfl goFn51 (Spec.ov (base_Floor_spec h76) (by decide)) rfl rfl rfl
                        (repeat (focus (show _ = _;(simp only [zz,shift]<;>exact rfl))))
                        with_reducible apply TO.here
                        obtain ⟨v64,h77,hr⟩:=Option.bind_eq_some_iff.1 hr
                        try dsimp only at hr
                        apply TO.ct e_i h77 (by first|rfl|(simp only [twant,z1,zp,zs,h2,h3,h4,h10,h61,h62,h63,h65,h68,h75];done)) rfl rfl rfl so22 ok3 cs3
                        (repeat (focus (show _ = _;(simp only [zz]<;>exact rfl))))
                        with_reducible apply TO.here
                        obtain ⟨v65,h78,hr⟩:=Option.bind_eq_some_iff.1 hr
                        try dsimp only at hr
                        apply TO.lok (by first|rfl|(simp only [twant,z1,zp,zs,h2,h3,h4,h10,h61,h62,h63,h65,h68,h75];done)) rfl goFn23 (Spec.ov (base_Ints_spec h78) (by decide)) (by simp only [view,z1,z3,take_map_part2]<;>rfl) rfl rfl (by simp [])
                        (repeat (focus (show _ = _;(simp only [zz,shift]<;>exact rfl))))
                        with_reducible apply TO.here
                        repeat (first|(with_reducible first|refine mv ?_|refine TO.nil ?_)|((with_reducible first|apply TO.pk|apply TO.asg);(repeat (focus (show _ = _;first|exact k2 rfl|(simp only [zz]<;>exact rfl))));(with_reducible apply TO.here)))
                        have hb:=Option.some.inj hr
                        first|(cases hb;done)|(refine ⟨.inr rfl,?_⟩;first|(simp only [hb]<;>exact rfl)|(simp only [h2,h3,h4,h10,h61,h62,h63,h65,h68,h75] at hb;simp only [tresAll,tres,z1,hb,Option.map_some]<;>exact rfl))
                      · rw [if_neg (by rw [h75];exact Bool.false_ne_true)] at hr
                        repeat (first|(with_reducible first|refine mv ?_|refine TO.nil ?_)|((with_reducible first|apply TO.pk|apply TO.asg);(repeat (focus (show _ = _;first|exact k2 rfl|(simp only [zz]<;>exact rfl))));(with_reducible apply TO.here))|((with_reducible apply TO.skip1);(repeat (focus (show _ = _;(simp only [zz,twant,zp,zs,h75]<;>exact rfl))));(with_reducible apply TO.here)))
                        have hb:=Option.some.inj hr
                        first|(cases hb;done)|(refine ⟨.inr rfl,?_⟩;first|(simp only [tresAll,tres,z1,hb,Option.map_some]<;>exact rfl)|(simp only [h2,h3,h4,h10,h61,h62,h63,h65,h68,h75] at hb;simp only [tresAll,tres,z1,hb,Option.map_some]<;>exact rfl))
                    · try dsimp only
                      exact Wk.ren [some 1] rfl (.rows .nil rfl rfl) (by (repeat (first|exact RNs.nil|refine RNs.cons .junk ?_|refine RNs.cons (.keep rfl rfl) ?_|refine RNs.cons (.lsl rfl rfl) ?_|refine RNs.cons (.lsl rfl (by simp only [List.length_set])) ?_|refine RNs.cons (.lptr rfl) ?_|refine RNs.cons (.nil rfl) ?_|refine RNs.cons .nl ?_|refine RNs.cons (.keep (by simp only [h2,h3,h4,h10,h61,h62,h63,h65,h68]) rfl) ?_|refine RNs.cons (.tuple' ?_) ?_|refine RNs.cons (.agg' ?_) ?_)))
                  · rw [if_neg (by rw [h68];exact Bool.false_ne_true)] at hr
                    repeat (first|(with_reducible first|refine mv ?_|refine TO.nil ?_)|((with_reducible apply TO.asg);(repeat (focus (show _ = _;first|exact k2 rfl|(simp only [zz,h68]<;>exact rfl))));(with_reducible apply TO.here))|((with_reducible apply TX.region);(focus (simp only []<;>exact rfl));(focus rfl);(try dsimp only))|((with_reducible apply TX.cond_true);(focus rfl);(focus ((simp only [z1,zn,h68];done)))))
                    have hb:=Option.some.inj hr
                    first|(cases hb;done)|(refine ⟨.inr rfl,?_⟩;first|(simp only [tresAll,tres,z1,hb,Option.map_some]<;>exact rfl)|(simp only [h2,h3,h4,h10,h61,h62,h63,h65,h68] at hb;simp only [tresAll,tres,z1,hb,Option.map_some]<;>exact rfl))
    · rw [if_neg (by rw [h3];exact Bool.false_ne_true)] at hr
      repeat (first|(with_reducible first|refine mv ?_|refine TO.nil ?_)|((with_reducible first|apply TO.pk|apply TO.ld);(repeat (focus (show _ = _;first|exact k2 rfl|(simp only [zz,y30,Nat.reduceAdd,Nat.reduceLeDiff,tload,rowOf,partT]<;>exact rfl)|exact rfl)));(with_reducible apply TO.here))|((with_reducible apply TO.skip1);(repeat (focus (show _ = _;(simp only [zz,twant,zp,zs,h3]<;>exact rfl))));(with_reducible apply TO.here))|((with_reducible apply TX.region);(focus (simp only []<;>exact rfl));(focus rfl);(try dsimp only))|((with_reducible apply TX.cond_false);(focus rfl);(focus (rfl))))
      obtain ⟨⟨v66,v67⟩,h79,hr⟩:=Option.bind_eq_some_iff.1 hr
      try dsimp only at hr
      apply TO.cal (by first|rfl|(simp only [twant,z1,zp,zs,h2,h3];done)) rfl goFn17 (Spec.ov (ref08_Copy_spec h79) (by decide)) rfl rfl rfl
      (repeat (focus (show _ = _;(simp only [zz,Nat.reduceAdd,shift]<;>exact rfl))))
      with_reducible apply TO.here
      repeat (first|((with_reducible apply TO.mv);(repeat (focus (show _ = _;first|exact k2 rfl|(simp only [zz]<;>exact rfl))));(with_reducible apply TO.here)))
      obtain ⟨⟨v68,v69,v70⟩,h80,hr⟩:=Option.bind_eq_some_iff.1 hr
      try dsimp only at hr
      apply TO.lok (by first|rfl|(simp only [twant,z1,zp,zs,h2,h3];done)) rfl goFn46 (Spec.ov (loop_Echoes_spec h80) (by decide)) (by simp only [view,z1,z3,tmlc]<;>rfl) rfl rfl (by simp [clTB,cl,e_i])
      (repeat (focus (show _ = _;(simp only [zz,Nat.reduceAdd,shift]<;>exact rfl))))
      with_reducible apply TO.here
      repeat (first|(with_reducible first|refine mv ?_|refine TO.nil ?_)|((with_reducible first|apply TO.mv|apply TO.ext|apply TO.asg|apply TO.ld);(repeat (focus (show _ = _;first|exact k2 rfl|(simp only [zz,y30,Nat.reduceAdd,Nat.reduceLeDiff,tload,rowOf,partT]<;>exact rfl)|exact rfl)));(with_reducible apply TO.here))|((with_reducible apply TX.region);(focus (simp only []<;>exact rfl));(focus rfl);(try dsimp only)))
      obtain ⟨⟨v71,v72⟩,h81,hr⟩:=Option.bind_eq_some_iff.1 hr
      try dsimp only at hr
      apply TO.cal (by first|rfl|(simp only [twant,z1,zp,zs,h2,h3];done)) rfl goFn17 (Spec.ov (ref08_Copy_spec h81) (by decide)) rfl rfl rfl
      (repeat (focus (show _ = _;(simp only [zz,Nat.reduceAdd,shift]<;>exact rfl))))
      with_reducible apply TO.here
      repeat (first|((with_reducible apply TO.mv);(repeat (focus (show _ = _;first|exact k2 rfl|(simp only [zz]<;>exact rfl))));(with_reducible apply TO.here)))
      obtain ⟨⟨v73,v74⟩,h82,hr⟩:=Option.bind_eq_some_iff.1 hr
      try dsimp only at hr
      apply TO.lok (by first|rfl|(simp only [twant,z1,zp,zs,h2,h3];done)) rfl goFn47 (Spec.ov (loop_EchoBound_spec h82) (by decide)) (by simp only [view,z1,z3,tmlc]<;>rfl) rfl rfl (by simp [])
      (repeat (focus (show _ = _;(simp only [zz,Nat.reduceAdd,shift]<;>exact rfl))))
      with_reducible apply TO.here
      repeat (first|(with_reducible first|refine mv ?_|refine TO.nil ?_)|((with_reducible first|apply TO.mv|apply TO.ext|apply TO.asg|apply TO.ld);(repeat (focus (show _ = _;first|exact k2 rfl|(simp only [zz,y30,Nat.reduceAdd,Nat.reduceLeDiff,tload,rowOf,partT]<;>exact rfl)|exact rfl)));(with_reducible apply TO.here))|((with_reducible apply TX.region);(focus (simp only []<;>exact rfl));(focus rfl);(try dsimp only)))
      obtain ⟨v75,h83,hr⟩:=Option.bind_eq_some_iff.1 hr
      try dsimp only at hr
      apply TO.cal (by first|rfl|(simp only [twant,z1,zp,zs,h2,h3];done)) rfl goFn19 (Spec.ov (ref08_CheckLoop_spec h83) (by decide)) rfl rfl rfl
      (repeat (focus (show _ = _;(simp only [zz,shift]<;>exact rfl))))
      with_reducible apply TO.here
      repeat (first|(with_reducible first|refine mv ?_|refine TO.nil ?_)|((with_reducible first|apply TO.asg|apply TO.mv|apply TO.bin);(repeat (focus (show _ = _;first|exact k2 rfl|(simp only [zz]<;>exact rfl))));(with_reducible apply TO.here))|((with_reducible apply TX.region);(focus (simp only []<;>exact rfl));(focus rfl);(try dsimp only)))
      rcases Bool.eq_false_or_eq_true ((decide (v75 = 0))) with h84|h84
      · rw [if_pos h84] at hr
        repeat (first|((with_reducible apply TO.mv);(repeat (focus (show _ = _;first|exact k2 rfl|(simp only [zz,h84]<;>exact rfl))));(with_reducible apply TO.here))|((with_reducible apply TX.region);(focus (simp only []<;>exact rfl));(focus rfl);(try dsimp only))|((with_reducible apply TX.cond_true);(focus rfl);(focus ((simp only [z1,Bool.not_true,h84];done)))))
        obtain ⟨v76,h85,hr⟩:=Option.bind_eq_some_iff.1 hr
        try dsimp only at hr
        apply TO.cal (by first|rfl|(simp only [twant,z1,zp,zs,h2,h3,h84];done)) rfl goFn48 (Spec.ov (ref08_HeightErr_spec h85) (by decide)) rfl rfl rfl
        (repeat (focus (show _ = _;(simp only [zz,shift]<;>exact rfl))))
        with_reducible apply TO.here
        repeat (first|(with_reducible first|refine mv ?_|refine TO.nil ?_)|((with_reducible first|apply TO.asg|apply TO.mv|apply TO.bin);(repeat (focus (show _ = _;first|exact k2 rfl|(simp only [zz]<;>exact rfl))));(with_reducible apply TO.here))|((with_reducible apply TX.region);(focus (simp only []<;>exact rfl));(focus rfl);(try dsimp only)))
        rcases Bool.eq_false_or_eq_true ((decide (v76 = 0))) with h86|h86
        · rw [if_pos h86] at hr
          repeat (first|((with_reducible first|apply TO.ld|apply TO.mv);(repeat (focus (show _ = _;first|exact k2 rfl|(simp only [zz,y30,Nat.reduceAdd,Nat.reduceLeDiff,tload,rowOf,partT,h86]<;>exact rfl)|exact rfl)));(with_reducible apply TO.here))|((with_reducible apply TX.region);(focus (simp only []<;>exact rfl));(focus rfl);(try dsimp only))|((with_reducible apply TX.cond_true);(focus rfl);(focus ((simp only [z1,Bool.not_true,h86];done)))))
          obtain ⟨⟨v77,v78⟩,h87,hr⟩:=Option.bind_eq_some_iff.1 hr
          try dsimp only at hr
          apply TO.cal (by first|rfl|(simp only [twant,z1,zp,zs,h2,h3,h84,h86];done)) rfl goFn49 (Spec.ov (ref08_EchoBound_spec h87) (by decide)) rfl rfl rfl
          (repeat (focus (show _ = _;(simp only [zz,Nat.reduceAdd,shift]<;>exact rfl))))
          with_reducible apply TO.here
          repeat (first|(with_reducible first|refine mv ?_|refine TO.nil ?_)|((with_reducible first|apply TO.mv|apply TO.ext|apply TO.asg|apply TO.bin);(repeat (focus (show _ = _;first|exact k2 rfl|(simp only [zz]<;>exact rfl))));(with_reducible apply TO.here))|((with_reducible apply TX.region);(focus (simp only []<;>exact rfl));(focus rfl);(try dsimp only)))
          rcases Bool.eq_false_or_eq_true ((decide (v74 ≠ v78))) with h88|h88
          · rw [if_pos h88] at hr
            repeat (first|(with_reducible first|refine mv ?_|refine TO.nil ?_)|((with_reducible first|apply TO.pk|apply TO.asg);(repeat (focus (show _ = _;first|exact k2 rfl|(simp only [zz]<;>exact rfl))));(with_reducible apply TO.here))|((with_reducible apply TO.skip1);(repeat (focus (show _ = _;(simp only [zz,twant,zp,zs,h88]<;>exact rfl))));(with_reducible apply TO.here))|((with_reducible apply TX.region);(focus (simp only []<;>exact rfl));(focus rfl);(try dsimp only))|((with_reducible apply TX.cond_true);(focus rfl);(focus (rfl))))
            have hb:=Option.some.inj hr
            first|(cases hb;done)|(refine ⟨.inr rfl,?_⟩;first|(simp only [tresAll,tres,z1,hb,Option.map_some]<;>exact rfl)|(simp only [h2,h3,h84,h86,h88] at hb;simp only [tresAll,tres,z1,hb,Option.map_some]<;>exact rfl))
          · rw [if_neg (by rw [h88];exact Bool.false_ne_true)] at hr
            repeat (first|(with_reducible first|refine mv ?_|refine TO.nil ?_)|((with_reducible first|apply TO.mv|apply TO.bin|apply TO.pk);(repeat (focus (show _ = _;first|exact k2 rfl|(simp only [zz,h88]<;>exact rfl))));(with_reducible apply TO.here)))
            rcases Bool.eq_false_or_eq_true ((decide (v73 ≠ v77))) with h89|h89
            · rw [if_pos h89] at hr
              repeat (first|(with_reducible first|refine mv ?_|refine TO.nil ?_)|((with_reducible apply TO.asg);(repeat (focus (show _ = _;first|exact k2 rfl|(simp only [zz,h89]<;>exact rfl))));(with_reducible apply TO.here))|((with_reducible apply TX.region);(focus (simp only []<;>exact rfl));(focus rfl);(try dsimp only))|((with_reducible apply TX.cond_true);(focus rfl);(focus ((simp only [z1,Bool.not_true,h89];done)))))
              have hb:=Option.some.inj hr
              first|(cases hb;done)|(refine ⟨.inr rfl,?_⟩;first|(simp only [tresAll,tres,z1,hb,Option.map_some]<;>exact rfl)|(simp only [h2,h3,h84,h86,h88,h89] at hb;simp only [tresAll,tres,z1,hb,Option.map_some]<;>exact rfl))
            · rw [if_neg (by rw [h89];exact Bool.false_ne_true)] at hr
              repeat (first|with_reducible refine mv ?_|((with_reducible first|apply TO.mv|apply TO.bin);(repeat (focus (show _ = _;first|exact k2 rfl|(simp only [zz,h86,h89]<;>exact rfl))));(with_reducible apply TO.here))|((with_reducible apply TX.region);(focus (simp only []<;>exact rfl));(focus rfl);(try dsimp only))|((with_reducible apply TX.cond_false);(focus rfl);(focus ((simp only [z1,Bool.not_true,h89];done)))))
              obtain ⟨v79,h90,hr⟩:=Option.bind_eq_some_iff.1 hr
              try dsimp only at hr
              apply TO.cal (by first|rfl|(simp only [twant,z1,zp,zs,h2,h3,h84,h86,h88,h89];done)) rfl goFn24 (Spec.ov (base_Within_spec h90) (by decide)) rfl rfl rfl
              (repeat (focus (show _ = _;(simp only [zz,shift]<;>exact rfl))))
              with_reducible apply TO.here
              apply TO.pop1 (by first|rfl|(simp only [twant,z1,zp,zs,h2,h3,h84,h86,h88,h89];done)) (pop_not rfl)
              (repeat (focus (show _ = _;(simp only [zz]<;>exact rfl))))
              with_reducible apply TO.here
              repeat (first|(with_reducible first|refine mv ?_|refine TO.nil ?_)|((with_reducible apply TO.pk);(repeat (focus (show _ = _;first|exact k2 rfl|(simp only [zz]<;>exact rfl))));(with_reducible apply TO.here)))
              rcases Bool.eq_false_or_eq_true (v79) with h91|h91
              · rw [if_pos h91] at hr
                repeat (first|(with_reducible first|refine mv ?_|refine TO.nil ?_)|((with_reducible first|apply TO.mv|apply TO.bin);(repeat (focus (show _ = _;first|exact k2 rfl|(simp only [zz,h91]<;>exact rfl))));(with_reducible apply TO.here))|((with_reducible apply TX.region);(focus (simp only []<;>exact rfl));(focus rfl);(try dsimp only))|((with_reducible apply TX.cond_false);(focus rfl);(focus ((simp only [z1,Bool.not_true,h91];done)))))
                rcases Bool.eq_false_or_eq_true ((decide (v76 ≠ 0))) with h92|h92
                · rw [if_pos h92] at hr
                  repeat (first|with_reducible refine mv ?_|((with_reducible first|apply TO.mv|apply TO.bin);(repeat (focus (show _ = _;first|exact k2 rfl|(simp only [zz,h92]<;>exact rfl))));(with_reducible apply TO.here))|((with_reducible apply TX.region);(focus (simp only []<;>exact rfl));(focus rfl);(try dsimp only))|((with_reducible apply TX.cond_true);(focus rfl);(focus ((simp only [z1,Bool.not_true,h92];done)))))
                  rcases Bool.eq_false_or_eq_true ((decide (v70 = v76))) with h93|h93
                  · rw [if_pos h93] at hr
                    repeat (first|(with_reducible first|refine mv ?_|refine TO.nil ?_)|((with_reducible first|apply TO.mv|apply TO.len|apply TO.bin|apply TO.pk|apply TO.asg);(repeat (focus (show _ = _;first|exact k2 rfl|(simp only [zz,y30,tlen,h93]<;>exact rfl))));(with_reducible apply TO.here)))
                    have hb:=Option.some.inj hr
                    first|(cases hb;done)|(refine ⟨.inr rfl,?_⟩;first|(simp only [hb]<;>exact rfl)|(simp only [h2,h3,h84,h86,h88,h89,h91,h92,h93] at hb;simp only [tresAll,tres,z1,hb,Option.map_some]<;>exact rfl))
                  · rw [if_neg (by rw [h93];exact Bool.false_ne_true)] at hr
                    repeat (first|(with_reducible first|refine mv ?_|refine TO.nil ?_)|((with_reducible first|apply TO.pk|apply TO.asg);(repeat (focus (show _ = _;first|exact k2 rfl|(simp only [zz]<;>exact rfl))));(with_reducible apply TO.here))|((with_reducible apply TO.skip1);(repeat (focus (show _ = _;(simp only [zz,twant,zp,zs,h93]<;>exact rfl))));(with_reducible apply TO.here)))
                    have hb:=Option.some.inj hr
                    first|(cases hb;done)|(refine ⟨.inr rfl,?_⟩;first|(simp only [tresAll,tres,z1,hb,Option.map_some]<;>exact rfl)|(simp only [h2,h3,h84,h86,h88,h89,h91,h92,h93] at hb;simp only [tresAll,tres,z1,hb,Option.map_some]<;>exact rfl))
                · rw [if_neg (by rw [h92];exact Bool.false_ne_true)] at hr
                  repeat (first|with_reducible refine mv ?_|((with_reducible first|apply TO.mv|apply TO.bin);(repeat (focus (show _ = _;first|exact k2 rfl|(simp only [zz,h92]<;>exact rfl))));(with_reducible apply TO.here))|((with_reducible apply TX.region);(focus (simp only []<;>exact rfl));(focus rfl);(try dsimp only))|((with_reducible apply TX.cond_false);(focus rfl);(focus ((simp only [z1,Bool.not_true,h92];done)))))
                  rcases Bool.eq_false_or_eq_true ((decide (v70 ≠ 0))) with h94|h94
                  · rw [if_pos h94] at hr
                    repeat (first|(with_reducible first|refine mv ?_|refine TO.nil ?_)|((with_reducible first|apply TO.pk|apply TO.asg);(repeat (focus (show _ = _;first|exact k2 rfl|(simp only [zz]<;>exact rfl))));(with_reducible apply TO.here))|((with_reducible apply TO.skip1);(repeat (focus (show _ = _;(simp only [zz,twant,zp,zs,h94]<;>exact rfl))));(with_reducible apply TO.here))|((with_reducible apply TX.region);(focus (simp only []<;>exact rfl));(focus rfl);(try dsimp only))|((with_reducible apply TX.cond_true);(focus rfl);(focus (rfl))))
                    have hb:=Option.some.inj hr
                    first|(cases hb;done)|(refine ⟨.inr rfl,?_⟩;first|(simp only [tresAll,tres,z1,hb,Option.map_some]<;>exact rfl)|(simp only [h2,h3,h84,h86,h88,h89,h91,h92,h94] at hb;simp only [tresAll,tres,z1,hb,Option.map_some]<;>exact rfl))
                  · rw [if_neg (by rw [h94];exact Bool.false_ne_true)] at hr
                    repeat (first|((with_reducible first|apply TO.mv|apply TO.ld);(repeat (focus (show _ = _;first|exact k2 rfl|(simp only [zz,y30,Nat.reduceAdd,Nat.reduceLeDiff,tload,rowOf,partT,h94]<;>exact rfl)|exact rfl)));(with_reducible apply TO.here)))
                    obtain ⟨v80,h95,hr⟩:=Option.bind_eq_some_iff.1 hr
                    try dsimp only at hr
                    apply TO.cal (by first|rfl|(simp only [twant,z1,zp,zs,h2,h3,h84,h86,h88,h89,h91,h92,h94];done)) rfl goFn50 (Spec.ov (ref08_Echoes_spec h95) (by decide)) rfl rfl rfl
                    (repeat (focus (show _ = _;(simp only [zz,Nat.reduceAdd,shift]<;>exact rfl))))
                    with_reducible apply TO.here
                    obtain ⟨v81,h96,hr⟩:=Option.bind_eq_some_iff.1 hr
                    try dsimp only at hr
                    apply TO.lok (by first|rfl|(simp only [twant,z1,zp,zs,h2,h3,h84,h86,h88,h89,h91,h92,h94];done)) rfl goFn23 (Spec.ov (base_Ints_spec h96) (by decide)) (by simp only [view,z1,z3,tmlc,take_map_part2]<;>rfl) rfl rfl (by simp [])
                    (repeat (focus (show _ = _;(simp only [zz,shift]<;>exact rfl))))
                    with_reducible apply TO.here
                    apply TO.pop1 (by first|rfl|(simp only [twant,z1,zp,zs,h2,h3,h84,h86,h88,h89,h91,h92,h94];done)) (pop_not rfl)
                    (repeat (focus (show _ = _;(simp only [zz]<;>exact rfl))))
                    with_reducible apply TO.here
                    repeat (first|(with_reducible first|refine mv ?_|refine TO.nil ?_)|((with_reducible apply TO.pk);(repeat (focus (show _ = _;first|exact k2 rfl|(simp only [zz]<;>exact rfl))));(with_reducible apply TO.here)))
                    rcases Bool.eq_false_or_eq_true (v81) with h97|h97
                    · rw [if_pos h97] at hr
                      repeat (first|(with_reducible first|refine mv ?_|refine TO.nil ?_)|((with_reducible apply TO.asg);(repeat (focus (show _ = _;first|exact k2 rfl|(simp only [zz,h97]<;>exact rfl))));(with_reducible apply TO.here))|((with_reducible apply TX.region);(focus (simp only []<;>exact rfl));(focus rfl);(try dsimp only))|((with_reducible apply TX.cond_false);(focus rfl);(focus ((simp only [z1,Bool.not_true,h97];done)))))
                      apply TX.frz 1 rfl rfl
                      (repeat (focus (show _ = _;(simp only [zz,Nat.reduceEqDiff,frz,frzB,take_map_part2]<;>exact rfl))))
                      with_reducible apply TX.here
                      obtain ⟨v87,h108,hr⟩:=Option.bind_eq_some_iff.1 hr
                      refine TX.loopE (step:=law08_LoopEchoes_l4 v68 v69 v73 v78) (x:=1) h108 (fun v82=>⟨.junk :: .v (.int .i64 v3) :: .v (.int .i64 v4) :: .fptr true [.list 1 (v1.map e_i),.v (.int .i64 v2)] 0 :: .junk :: .junk :: .junk :: .list 1 ((v68.take v69).map e_i) :: .junk :: .v (.int .i64 v73) :: .junk :: .junk :: .junk :: .v (.int .i64 v78) :: .v (.int .i64 v82) :: .junk :: .junk :: .junk :: .junk :: .junk :: .junk :: .junk :: .junk :: .junk :: .junk :: .junk :: .junk :: .junk :: .junk :: .junk :: .junk :: .junk :: .junk :: .junk :: .junk :: .junk :: .junk :: .junk :: .junk :: .junk :: .junk :: .junk :: .junk :: .junk :: .junk :: .junk :: .junk :: .junk :: .junk :: .junk :: .junk :: .junk :: .junk :: .junk :: .junk :: .junk :: .junk :: .junk :: .junk :: .junk :: .junk :: .junk :: .junk :: .junk :: .junk :: .junk :: .junk :: .junk :: .junk :: .junk :: .junk :: .junk :: .junk :: .junk :: .junk :: .junk :: .junk :: .junk :: .junk :: .junk :: .junk :: .junk :: .junk :: .junk :: .junk :: .junk :: .junk :: .junk :: .junk :: .junk :: .junk :: .junk :: .junk :: .junk :: .junk :: .junk :: .junk :: .junk :: .junk :: .junk :: .junk :: .junk :: .junk :: .junk :: .junk :: .junk :: .junk :: .junk :: .junk :: .junk :: .junk :: .junk :: .junk :: .junk :: .junk :: .junk :: .junk :: .junk :: .junk :: .junk :: .junk :: .junk :: .junk :: .junk :: .junk :: .junk :: .junk :: .junk :: .junk :: .junk :: .junk :: .junk :: .junk :: .junk :: [],[]⟩) (fun e=>match e with|(.inl _)=>(.ret,⟨.junk :: .junk :: .junk :: .junk :: .junk :: .junk :: .v (.bool false) :: .junk :: .junk :: .junk :: .junk :: .junk :: .junk :: .junk :: .junk :: .junk :: .junk :: .junk :: .junk :: .junk :: .junk :: .junk :: .junk :: .junk :: .junk :: .junk :: .junk :: .junk :: .junk :: .junk :: .junk :: .junk :: .junk :: .junk :: .junk :: .junk :: .junk :: .junk :: .junk :: .junk :: .junk :: .junk :: .junk :: .junk :: .junk :: .junk :: .junk :: .junk :: .junk :: .junk :: .junk :: .junk :: .junk :: .junk :: .junk :: .junk :: .junk :: .junk :: .junk :: .junk :: .junk :: .junk :: .junk :: .junk :: .junk :: .junk :: .junk :: .junk :: .junk :: .junk :: .junk :: .junk :: .junk :: .junk :: .junk :: .junk :: .junk :: .junk :: .junk :: .junk :: .junk :: .junk :: .junk :: .junk :: .junk :: .junk :: .junk :: .junk :: .junk :: .junk :: .junk :: .junk :: .junk :: .junk :: .junk :: .junk :: .junk :: .junk :: .junk :: .junk :: .junk :: .junk :: .junk :: .junk :: .junk :: .junk :: .junk :: .junk :: .junk :: .junk :: .junk :: .junk :: .junk :: .junk :: .junk :: .junk :: .junk :: .junk :: .junk :: .junk :: .junk :: .junk :: .junk :: .junk :: .junk :: .junk :: .junk :: .junk :: .junk :: .junk :: .junk :: .junk :: .junk :: .junk :: [],[]⟩)|(.inr _)=>(.exit 0,⟨.junk :: .v (.int .i64 v3) :: .v (.int .i64 v4) :: .fptr true [.list 1 (v1.map e_i),.v (.int .i64 v2)] 0 :: .junk :: .junk :: .junk :: .list 1 ((v68.take v69).map e_i) :: .junk :: .junk :: .junk :: .junk :: .junk :: .junk :: .junk :: .junk :: .junk :: .junk :: .junk :: .junk :: .junk :: .junk :: .junk :: .junk :: .junk :: .junk :: .junk :: .junk :: .junk :: .junk :: .junk :: .junk :: .junk :: .junk :: .junk :: .junk :: .junk :: .junk :: .junk :: .junk :: .junk :: .junk :: .junk :: .junk :: .junk :: .junk :: .junk :: .junk :: .junk :: .junk :: .junk :: .junk :: .junk :: .junk :: .junk :: .junk :: .junk :: .junk :: .junk :: .junk :: .junk :: .junk :: .junk :: .junk :: .junk :: .junk :: .junk :: .junk :: .junk :: .junk :: .junk :: .junk :: .junk :: .junk :: .junk :: .junk :: .junk :: .junk :: .junk :: .junk :: .junk :: .junk :: .junk :: .junk :: .junk :: .junk :: .junk :: .junk :: .junk :: .junk :: .junk :: .junk :: .junk :: .junk :: .junk :: .junk :: .junk :: .junk :: .junk :: .junk :: .junk :: .junk :: .junk :: .junk :: .junk :: .junk :: .junk :: .junk :: .junk :: .junk :: .junk :: .junk :: .junk :: .junk :: .junk :: .junk :: .junk :: .junk :: .junk :: .junk :: .junk :: .junk :: .junk :: .junk :: .junk :: .junk :: .junk :: .junk :: .junk :: .junk :: .junk :: .junk :: .junk :: .junk :: [],[]⟩)) ?_ ?_ ?_ ?_
                      · rintro v82 v0 hr
                        dsimp only [law08_LoopEchoes_l4] at hr
                        try dsimp only
                        repeat (first|with_reducible refine mv ?_|((with_reducible first|apply TO.mv|apply TO.len|apply TO.bin);(repeat (focus (show _ = _;first|exact k2 rfl|(simp only [zz,y30,tlen]<;>exact rfl))));(with_reducible apply TO.here))|((with_reducible apply TX.region);(focus (simp only []<;>exact rfl));(focus rfl);(try dsimp only)))
                        rcases Bool.eq_false_or_eq_true ((decide (v82 < ((v68.take v69).length : Int)))) with h103|h103
                        · rw [if_pos h103] at hr
                          repeat (first|(with_reducible first|refine mv ?_|refine TO.nil ?_)|((with_reducible first|apply TO.mv|apply TO.bin|apply TO.pk);(repeat (focus (show _ = _;first|exact k2 rfl|(simp only [zz,h103]<;>exact rfl))));(with_reducible apply TO.here)))
                          rcases Bool.eq_false_or_eq_true ((decide (v78 = 0))) with h104|h104
                          · rw [if_pos h104] at hr
                            repeat (first|with_reducible refine mv ?_|((with_reducible apply TO.mv);(repeat (focus (show _ = _;first|exact k2 rfl|(simp only [zz,h104]<;>exact rfl))));(with_reducible apply TO.here))|((with_reducible apply TX.region);(focus (simp only []<;>exact rfl));(focus rfl);(try dsimp only))|((with_reducible apply TX.cond_true);(focus rfl);(focus ((simp only [z1,h104];done)))))
                            obtain ⟨v85,h105,hr⟩:=Option.bind_eq_some_iff.1 hr
                            try dsimp only at hr
                            have h105m:=tidx_map (f:=e_i) h105
                            have h105l:=getI_lt h105
                            try simp only [List.length_set] at h105l
                            have h105a:=getI_at h105
                            repeat (first|((with_reducible first|apply TO.ia|apply TO.ld|apply TO.mv);(repeat (focus (show _ = _;first|exact k2 rfl|(simp only [zz,y30,e_i,tindexAddr,tload,rowOf,partT,h105m]<;>exact rfl)|exact rfl)));(with_reducible apply TO.here)))
                            apply TO.pop1 (by first|rfl|(simp only [twant,z1,zp,zs,h2,h3,h84,h86,h88,h89,h91,h92,h94,h97,h103,h104,h105m,h105l,h105a];done)) (pop_neg rfl)
                            (repeat (focus (show _ = _;(simp only [zz]<;>exact rfl))))
                            with_reducible apply TO.here
                            repeat (first|((with_reducible apply TO.mv);(repeat (focus (show _ = _;first|exact k2 rfl|(simp only [zz]<;>exact rfl))));(with_reducible apply TO.here)))
                            obtain ⟨v86,h106,hr⟩:=Option.bind_eq_some_iff.1 hr
                            try dsimp only at hr
                            apply TO.cal (by first|rfl|(simp only [twant,z1,zp,zs,h2,h3,h84,h86,h88,h89,h91,h92,h94,h97,h103,h104,h105m,h105l,h105a];done)) rfl goFn24 (Spec.ov (base_Within_spec h106) (by decide)) rfl rfl rfl
                            (repeat (focus (show _ = _;(simp only [zz,shift]<;>exact rfl))))
                            with_reducible apply TO.here
                            apply TO.pop1 (by first|rfl|(simp only [twant,z1,zp,zs,h2,h3,h84,h86,h88,h89,h91,h92,h94,h97,h103,h104,h105m,h105l,h105a];done)) (pop_not rfl)
                            (repeat (focus (show _ = _;(simp only [zz]<;>exact rfl))))
                            with_reducible apply TO.here
                            repeat (first|(with_reducible first|refine mv ?_|refine TO.nil ?_))
                            rcases Bool.eq_false_or_eq_true (v86) with h107|h107
                            · rw [if_pos h107] at hr
                              repeat (first|(with_reducible first|refine mv ?_|refine TO.nil ?_)|((with_reducible first|apply TO.mv|apply TO.bin|apply TO.asg);(repeat (focus (show _ = _;first|exact k2 rfl|(simp only [zz,h107]<;>exact rfl))));(with_reducible apply TO.here))|((with_reducible apply TX.region);(focus (simp only []<;>exact rfl));(focus rfl);(try dsimp only))|((with_reducible apply TX.cond_false);(focus rfl);(focus ((simp only [z1,Bool.not_true,h107];done)))))
                              cases hr
                              refine ⟨rfl,?_⟩
                              exact Wk.ren [] rfl .nil (by (repeat (first|exact RNs.nil|refine RNs.cons .junk ?_|refine RNs.cons (.keep rfl rfl) ?_|refine RNs.cons (.lsl rfl rfl) ?_|refine RNs.cons (.lsl rfl (by simp only [List.length_set])) ?_|refine RNs.cons (.lptr rfl) ?_|refine RNs.cons (.nil rfl) ?_|refine RNs.cons .nl ?_|refine RNs.cons (.keep (by simp only [h2,h3,h84,h86,h88,h89,h91,h92,h94,h97,h103,h104,h107]) rfl) ?_|refine RNs.cons (.tuple' ?_) ?_|refine RNs.cons (.agg' ?_) ?_)))
                            · rw [if_neg (by rw [h107];exact Bool.false_ne_true)] at hr
                              repeat (first|(with_reducible first|refine mv ?_|refine TO.nil ?_)|((with_reducible apply TO.asg);(repeat (focus (show _ = _;first|exact k2 rfl|(simp only [zz,h107]<;>exact rfl))));(with_reducible apply TO.here))|((with_reducible apply TX.region);(focus (simp only []<;>exact rfl));(focus rfl);(try dsimp only))|((with_reducible apply TX.cond_true);(focus rfl);(focus ((simp only [z1,Bool.not_false,h107];done)))))
                              cases hr
                              refine ⟨rfl,?_⟩
                              exact Wk.ren [] rfl .nil (by (repeat (first|exact RNs.nil|refine RNs.cons .junk ?_|refine RNs.cons (.keep rfl rfl) ?_|refine RNs.cons (.lsl rfl rfl) ?_|refine RNs.cons (.lsl rfl (by simp only [List.length_set])) ?_|refine RNs.cons (.lptr rfl) ?_|refine RNs.cons (.nil rfl) ?_|refine RNs.cons .nl ?_|refine RNs.cons (.keep (by simp only [h2,h3,h84,h86,h88,h89,h91,h92,h94,h97,h103,h104,h107]) rfl) ?_|refine RNs.cons (.tuple' ?_) ?_|refine RNs.cons (.agg' ?_) ?_)))
                          · rw [if_neg (by rw [h104];exact Bool.false_ne_true)] at hr
                            repeat (first|with_reducible refine mv ?_|((with_reducible apply TX.cond_false);(focus rfl);(focus ((simp only [z1,h104];done)))))
                            cases hr
                            refine ⟨rfl,?_⟩
                            exact Wk.ren [] rfl .nil (by (repeat (first|exact RNs.nil|refine RNs.cons .junk ?_|refine RNs.cons (.keep rfl rfl) ?_|refine RNs.cons (.lsl rfl rfl) ?_|refine RNs.cons (.lsl rfl (by simp only [List.length_set])) ?_|refine RNs.cons (.lptr rfl) ?_|refine RNs.cons (.nil rfl) ?_|refine RNs.cons .nl ?_|refine RNs.cons (.keep (by simp only [h2,h3,h84,h86,h88,h89,h91,h92,h94,h97,h103,h104]) rfl) ?_|refine RNs.cons (.tuple' ?_) ?_|refine RNs.cons (.agg' ?_) ?_)))
                        · rw [if_neg (by rw [h103];exact Bool.false_ne_true)] at hr
                          repeat (first|(with_reducible first|refine mv ?_|refine TO.nil ?_)|((with_reducible apply TO.pk);(repeat (focus (show _ = _;first|exact k2 rfl|(simp only [zz]<;>exact rfl))));(with_reducible apply TO.here))|((with_reducible apply TO.skip1);(repeat (focus (show _ = _;(simp only [zz,twant,zp,zs,h103]<;>exact rfl))));(with_reducible apply TO.here))|((with_reducible apply TX.cond_false);(focus rfl);(focus (rfl))))
                          cases hr
                          refine ⟨rfl,?_⟩
                          exact Wk.ren [] rfl .nil (by (repeat (first|exact RNs.nil|refine RNs.cons .junk ?_|refine RNs.cons (.keep rfl rfl) ?_|refine RNs.cons (.lsl rfl rfl) ?_|refine RNs.cons (.lsl rfl (by simp only [List.length_set])) ?_|refine RNs.cons (.lptr rfl) ?_|refine RNs.cons (.nil rfl) ?_|refine RNs.cons .nl ?_|refine RNs.cons (.keep (by simp only [h2,h3,h84,h86,h88,h89,h91,h92,h94,h97,h103]) rfl) ?_|refine RNs.cons (.tuple' ?_) ?_|refine RNs.cons (.agg' ?_) ?_)))
                      · intro e h;rcases e with _|e<;>cases h
                      · try dsimp only
                        rcases v87 with _|_
                        · try dsimp only at hr
                          try dsimp only
                          repeat (first|with_reducible refine mv ?_)
                          have hb:=Option.some.inj hr
                          first|(cases hb;done)|(refine ⟨.inr rfl,?_⟩;first|(simp only [tresAll,tres,z1,hb,Option.map_some]<;>exact rfl)|(simp only [h2,h3,h84,h86,h88,h89,h91,h92,h94,h97] at hb;simp only [tresAll,tres,z1,hb,Option.map_some]<;>exact rfl))
                        · try dsimp only at hr
                          try dsimp only
                          repeat (first|with_reducible refine mv ?_|((with_reducible apply TO.ld);(repeat (focus (show _ = _;first|exact k2 rfl|(simp only [zz,y30,Nat.reduceAdd,Nat.reduceLeDiff,tload,rowOf,partT]<;>exact rfl)|exact rfl)));(with_reducible apply TO.here))|((with_reducible apply TX.region);(focus (simp only []<;>exact rfl));(focus rfl);(try dsimp only)))
                          obtain ⟨⟨v88,v89⟩,h109,hr⟩:=Option.bind_eq_some_iff.1 hr
                          try dsimp only at hr
                          apply TO.cal (by first|rfl|(simp only [twant,z1,zp,zs,h2,h3,h84,h86,h88,h89,h91,h92,h94,h97];done)) rfl goFn17 (Spec.ov (ref08_Copy_spec h109) (by decide)) rfl rfl rfl
                          (repeat (focus (show _ = _;(simp only [zz,Nat.reduceAdd,shift]<;>exact rfl))))
                          with_reducible apply TO.here
                          repeat (first|((with_reducible apply TO.mv);(repeat (focus (show _ = _;first|exact k2 rfl|(simp only [zz]<;>exact rfl))));(with_reducible apply TO.here)))
                          obtain ⟨v90,h110,hr⟩:=Option.bind_eq_some_iff.1 hr
                          try dsimp only at hr
                          apply TO.cal (by first|rfl|(simp only [twant,z1,zp,zs,h2,h3,h84,h86,h88,h89,h91,h92,h94,h97];done)) rfl goFn51 (Spec.ov (base_Floor_spec h110) (by decide)) rfl rfl rfl
                          (repeat (focus (show _ = _;(simp only [zz,shift]<;>exact rfl))))
                          with_reducible apply TO.here
                          obtain ⟨⟨v91,v92,v93⟩,h111,hr⟩:=Option.bind_eq_some_iff.1 hr
                          try dsimp only at hr
                          apply TO.lok (by first|rfl|(simp only [twant,z1,zp,zs,h2,h3,h84,h86,h88,h89,h91,h92,h94,h97];done)) rfl goFn46 (Spec.ov (loop_Echoes_spec h111) (by decide)) (by simp only [view,z1,z3,tmlc]<;>rfl) rfl rfl (by simp [clTB,cl,e_i])
                          (repeat (focus (show _ = _;(simp only [zz,Nat.reduceAdd,shift]<;>exact rfl))))
                          with_reducible apply TO.here
                          repeat (first|(with_reducible first|refine mv ?_|refine TO.nil ?_)|((with_reducible first|apply TO.mv|apply TO.ext|apply TO.asg|apply TO.bin);(repeat (focus (show _ = _;first|exact k2 rfl|(simp only [zz]<;>exact rfl))));(with_reducible apply TO.here))|((with_reducible apply TX.region);(focus (simp only []<;>exact rfl));(focus rfl);(try dsimp only)))
                          rcases Bool.eq_false_or_eq_true ((decide (v93 = 0))) with h112|h112
                          · rw [if_pos h112] at hr
                            repeat (first|((with_reducible apply TO.mv);(repeat (focus (show _ = _;first|exact k2 rfl|(simp only [zz,h112]<;>exact rfl))));(with_reducible apply TO.here)))
                            obtain ⟨v94,h113,hr⟩:=Option.bind_eq_some_iff.1 hr
                            try dsimp only at hr
                            apply TO.cal (by first|rfl|(simp only [twant,z1,zp,zs,h2,h3,h84,h86,h88,h89,h91,h92,h94,h97,h112];done)) rfl goFn51 (Spec.ov (base_Floor_spec h113) (by decide)) rfl rfl rfl
                            (repeat (focus (show _ = _;(simp only [zz,shift]<;>exact rfl))))
                            with_reducible apply TO.here
                            obtain ⟨v95,h114,hr⟩:=Option.bind_eq_some_iff.1 hr
                            try dsimp only at hr
                            apply TO.sb e_i h114 (by first|rfl|(simp only [twant,z1,zp,zs,h2,h3,h84,h86,h88,h89,h91,h92,h94,h97,h112];done)) rfl rfl rfl so22 ok3 cs3 (by first|exact .inl ⟨rfl,rfl⟩|exact .inr ⟨_,rfl⟩) (by first|exact .inl ⟨rfl,rfl⟩|exact .inr ⟨_,rfl⟩)
                            (repeat (focus (show _ = _;(simp only [zz]<;>exact rfl))))
                            with_reducible apply TO.here
                            obtain ⟨v96,h115,hr⟩:=Option.bind_eq_some_iff.1 hr
                            try dsimp only at hr
                            apply TO.lok (by first|rfl|(simp only [twant,z1,zp,zs,h2,h3,h84,h86,h88,h89,h91,h92,h94,h97,h112];done)) rfl goFn23 (Spec.ov (base_Ints_spec h115) (by decide)) (by simp only [view,z1,z3,take_map_part2]<;>rfl) rfl rfl (by simp [])
                            (repeat (focus (show _ = _;(simp only [zz,shift]<;>exact rfl))))
                            with_reducible apply TO.here
                            repeat (first|(with_reducible first|refine mv ?_|refine TO.nil ?_)|((with_reducible first|apply TO.pk|apply TO.asg);(repeat (focus (show _ = _;first|exact k2 rfl|(simp only [zz]<;>exact rfl))));(with_reducible apply TO.here)))
                            have hb:=Option.some.inj hr
                            first|(cases hb;done)|(refine ⟨.inr rfl,?_⟩;first|(simp only [hb]<;>exact rfl)|(simp only [h2,h3,h84,h86,h88,h89,h91,h92,h94,h97,h112] at hb;simp only [tresAll,tres,z1,hb,Option.map_some]<;>exact rfl))
                          · rw [if_neg (by rw [h112];exact Bool.false_ne_true)] at hr
                            repeat (first|(with_reducible first|refine mv ?_|refine TO.nil ?_)|((with_reducible first|apply TO.pk|apply TO.asg);(repeat (focus (show _ = _;first|exact k2 rfl|(simp only [zz]<;>exact rfl))));(with_reducible apply TO.here))|((with_reducible apply TO.skip1);(repeat (focus (show _ = _;(simp only [zz,twant,zp,zs,h112]<;>exact rfl))));(with_reducible apply TO.here)))
                            have hb:=Option.some.inj hr
                            first|(cases hb;done)|(refine ⟨.inr rfl,?_⟩;first|(simp only [tresAll,tres,z1,hb,Option.map_some]<;>exact rfl)|(simp only [h2,h3,h84,h86,h88,h89,h91,h92,h94,h97,h112] at hb;simp only [tresAll,tres,z1,hb,Option.map_some]<;>exact rfl))
                      · try dsimp only
                        exact Wk.ren [] rfl .nil (by (repeat (first|exact RNs.nil|refine RNs.cons .junk ?_|refine RNs.cons (.keep rfl rfl) ?_|refine RNs.cons (.lsl rfl rfl) ?_|refine RNs.cons (.lsl rfl (by simp only [List.length_set])) ?_|refine RNs.cons (.lptr rfl) ?_|refine RNs.cons (.nil rfl) ?_|refine RNs.cons .nl ?_|refine RNs.cons (.keep (by simp only [h2,h3,h84,h86,h88,h89,h91,h92,h94,h97]) rfl) ?_|refine RNs.cons (.tuple' ?_) ?_|refine RNs.cons (.agg' ?_) ?_)))
                    · rw [if_neg (by rw [h97];exact Bool.false_ne_true)] at hr
                      repeat (first|(with_reducible first|refine mv ?_|refine TO.nil ?_)|((with_reducible apply TO.asg);(repeat (focus (show _ = _;first|exact k2 rfl|(simp only [zz,h97]<;>exact rfl))));(with_reducible apply TO.here))|((with_reducible apply TX.region);(focus (simp only []<;>exact rfl));(focus rfl);(try dsimp only))|((with_reducible apply TX.cond_true);(focus rfl);(focus ((simp only [z1,zn,h97];done)))))
                      have hb:=Option.some.inj hr
                      first|(cases hb;done)|(refine ⟨.inr rfl,?_⟩;first|(simp only [tresAll,tres,z1,hb,Option.map_some]<;>exact rfl)|(simp only [h2,h3,h84,h86,h88,h89,h91,h92,h94,h97] at hb;simp only [tresAll,tres,z1,hb,Option.map_some]<;>exact rfl))
              · rw [if_neg (by rw [h91];exact Bool.false_ne_true)] at hr
                repeat (first|(with_reducible first|refine mv ?_|refine TO.nil ?_)|((with_reducible first|apply TO.asg|apply TO.mv|apply TO.bin);(repeat (focus (show _ = _;first|exact k2 rfl|(simp only [zz,h91]<;>exact rfl))));(with_reducible apply TO.here))|((with_reducible apply TX.region);(focus (simp only []<;>exact rfl));(focus rfl);(try dsimp only))|((with_reducible apply TX.cond_true);(focus rfl);(focus (first|rfl|(simp only [z1,zn,h91];done)))))
                rcases Bool.eq_false_or_eq_true ((decide (v70 = 2))) with h116|h116
                · rw [if_pos h116] at hr
                  repeat (first|(with_reducible first|refine mv ?_|refine TO.nil ?_)|((with_reducible first|apply TO.mv|apply TO.len|apply TO.bin|apply TO.pk|apply TO.asg);(repeat (focus (show _ = _;first|exact k2 rfl|(simp only [zz,y30,tlen,h116]<;>exact rfl))));(with_reducible apply TO.here)))
                  have hb:=Option.some.inj hr
                  first|(cases hb;done)|(refine ⟨.inr rfl,?_⟩;first|(simp only [hb]<;>exact rfl)|(simp only [h2,h3,h84,h86,h88,h89,h91,h116] at hb;simp only [tresAll,tres,z1,hb,Option.map_some]<;>exact rfl))
                · rw [if_neg (by rw [h116];exact Bool.false_ne_true)] at hr
                  repeat (first|(with_reducible first|refine mv ?_|refine TO.nil ?_)|((with_reducible first|apply TO.pk|apply TO.asg);(repeat (focus (show _ = _;first|exact k2 rfl|(simp only [zz]<;>exact rfl))));(with_reducible apply TO.here))|((with_reducible apply TO.skip1);(repeat (focus (show _ = _;(simp only [zz,twant,zp,zs,h116]<;>exact rfl))));(with_reducible apply TO.here)))
                  have hb:=Option.some.inj hr
                  first|(cases hb;done)|(refine ⟨.inr rfl,?_⟩;first|(simp only [tresAll,tres,z1,hb,Option.map_some]<;>exact rfl)|(simp only [h2,h3,h84,h86,h88,h89,h91,h116] at hb;simp only [tresAll,tres,z1,hb,Option.map_some]<;>exact rfl))
        · rw [if_neg (by rw [h86];exact Bool.false_ne_true)] at hr
          repeat (first|with_reducible refine mv ?_|((with_reducible first|apply TO.mv|apply TO.bin);(repeat (focus (show _ = _;first|exact k2 rfl|(simp only [zz,h86]<;>exact rfl))));(with_reducible apply TO.here))|((with_reducible apply TX.region);(focus (simp only []<;>exact rfl));(focus rfl);(try dsimp only))|((with_reducible apply TX.cond_false);(focus rfl);(focus ((simp only [z1,Bool.not_true,h86];done)))))
          rcases Bool.eq_false_or_eq_true ((decide (v74 ≠ v76))) with h117|h117
          · rw [if_pos h117] at hr
            repeat (first|(with_reducible first|refine mv ?_|refine TO.nil ?_)|((with_reducible first|apply TO.pk|apply TO.asg);(repeat (focus (show _ = _;first|exact k2 rfl|(simp only [zz]<;>exact rfl))));(with_reducible apply TO.here))|((with_reducible apply TO.skip1);(repeat (focus (show _ = _;(simp only [zz,twant,zp,zs,h117]<;>exact rfl))));(with_reducible apply TO.here))|((with_reducible apply TX.region);(focus (simp only []<;>exact rfl));(focus rfl);(try dsimp only))|((with_reducible apply TX.cond_true);(focus rfl);(focus (rfl))))
            have hb:=Option.some.inj hr
            first|(cases hb;done)|(refine ⟨.inr rfl,?_⟩;first|(simp only [tresAll,tres,z1,hb,Option.map_some]<;>exact rfl)|(simp only [h2,h3,h84,h86,h117] at hb;simp only [tresAll,tres,z1,hb,Option.map_some]<;>exact rfl))
          · rw [if_neg (by rw [h117];exact Bool.false_ne_true)] at hr
            repeat (first|(with_reducible first|refine mv ?_|refine TO.nil ?_)|((with_reducible first|apply TO.mv|apply TO.bin|apply TO.pk);(repeat (focus (show _ = _;first|exact k2 rfl|(simp only [zz,h117]<;>exact rfl))));(with_reducible apply TO.here)))
            rcases Bool.eq_false_or_eq_true ((decide (v73 ≠ 0))) with h118|h118
            · rw [if_pos h118] at hr
              repeat (first|(with_reducible first|refine mv ?_|refine TO.nil ?_)|((with_reducible apply TO.asg);(repeat (focus (show _ = _;first|exact k2 rfl|(simp only [zz,h118]<;>exact rfl))));(with_reducible apply TO.here))|((with_reducible apply TX.region);(focus (simp only []<;>exact rfl));(focus rfl);(try dsimp only))|((with_reducible apply TX.cond_true);(focus rfl);(focus ((simp only [z1,Bool.not_true,h118];done)))))
              have hb:=Option.some.inj hr
              first|(cases hb;done)|(refine ⟨.inr rfl,?_⟩;first|(simp only [tresAll,tres,z1,hb,Option.map_some]<;>exact rfl)|(simp only [h2,h3,h84,h86,h117,h118] at hb;simp only [tresAll,tres,z1,hb,Option.map_some]<;>exact rfl))
            · rw [if_neg (by rw [h118];exact Bool.false_ne_true)] at hr
              repeat (first|(with_reducible first|refine mv ?_|refine TO.nil ?_)|((with_reducible first|apply TO.mv|apply TO.bin|apply TO.pk);(repeat (focus (show _ = _;first|exact k2 rfl|(simp only [zz,h86,h118]<;>exact rfl))));(with_reducible apply TO.here))|((with_reducible apply TO.skip1);(repeat (focus (show _ = _;(simp only [zz,twant,zp,zs]<;>exact rfl))));(with_reducible apply TO.here))|((with_reducible apply TX.region);(focus (simp only []<;>exact rfl));(focus rfl);(try dsimp only))|((with_reducible apply TX.cond_false);(focus rfl);(focus (first|rfl|(simp only [z1,Bool.not_true,h118];done)))))
              rcases Bool.eq_false_or_eq_true ((decide (v76 ≠ 0))) with h119|h119
              · rw [if_pos h119] at hr
                repeat (first|with_reducible refine mv ?_|((with_reducible first|apply TO.mv|apply TO.bin);(repeat (focus (show _ = _;first|exact k2 rfl|(simp only [zz,h119]<;>exact rfl))));(with_reducible apply TO.here))|((with_reducible apply TX.region);(focus (simp only []<;>exact rfl));(focus rfl);(try dsimp only))|((with_reducible apply TX.cond_true);(focus rfl);(focus ((simp only [z1,Bool.not_true,h119];done)))))
                rcases Bool.eq_false_or_eq_true ((decide (v70 = v76))) with h120|h120
                · rw [if_pos h120] at hr
                  repeat (first|(with_reducible first|refine mv ?_|refine TO.nil ?_)|((with_reducible first|apply TO.mv|apply TO.len|apply TO.bin|apply TO.pk|apply TO.asg);(repeat (focus (show _ = _;first|exact k2 rfl|(simp only [zz,y30,tlen,h120]<;>exact rfl))));(with_reducible apply TO.here)))
                  have hb:=Option.some.inj hr
                  first|(cases hb;done)|(refine ⟨.inr rfl,?_⟩;first|(simp only [hb]<;>exact rfl)|(simp only [h2,h3,h84,h86,h117,h118,h119,h120] at hb;simp only [tresAll,tres,z1,hb,Option.map_some]<;>exact rfl))
                · rw [if_neg (by rw [h120];exact Bool.false_ne_true)] at hr
                  repeat (first|(with_reducible first|refine mv ?_|refine TO.nil ?_)|((with_reducible first|apply TO.pk|apply TO.asg);(repeat (focus (show _ = _;first|exact k2 rfl|(simp only [zz]<;>exact rfl))));(with_reducible apply TO.here))|((with_reducible apply TO.skip1);(repeat (focus (show _ = _;(simp only [zz,twant,zp,zs,h120]<;>exact rfl))));(with_reducible apply TO.here)))
                  have hb:=Option.some.inj hr
                  first|(cases hb;done)|(refine ⟨.inr rfl,?_⟩;first|(simp only [tresAll,tres,z1,hb,Option.map_some]<;>exact rfl)|(simp only [h2,h3,h84,h86,h117,h118,h119,h120] at hb;simp only [tresAll,tres,z1,hb,Option.map_some]<;>exact rfl))
              · rw [if_neg (by rw [h119];exact Bool.false_ne_true)] at hr
                repeat (first|with_reducible refine mv ?_|((with_reducible first|apply TO.mv|apply TO.bin);(repeat (focus (show _ = _;first|exact k2 rfl|(simp only [zz,h119]<;>exact rfl))));(with_reducible apply TO.here))|((with_reducible apply TX.region);(focus (simp only []<;>exact rfl));(focus rfl);(try dsimp only))|((with_reducible apply TX.cond_false);(focus rfl);(focus ((simp only [z1,Bool.not_true,h119];done)))))
                rcases Bool.eq_false_or_eq_true ((decide (v70 ≠ 0))) with h121|h121
                · rw [if_pos h121] at hr
                  repeat (first|(with_reducible first|refine mv ?_|refine TO.nil ?_)|((with_reducible first|apply TO.pk|apply TO.asg);(repeat (focus (show _ = _;first|exact k2 rfl|(simp only [zz]<;>exact rfl))));(with_reducible apply TO.here))|((with_reducible apply TO.skip1);(repeat (focus (show _ = _;(simp only [zz,twant,zp,zs,h121]<;>exact rfl))));(with_reducible apply TO.here))|((with_reducible apply TX.region);(focus (simp only []<;>exact rfl));(focus rfl);(try dsimp only))|((with_reducible apply TX.cond_true);(focus rfl);(focus (rfl))))
                  have hb:=Option.some.inj hr
                  first|(cases hb;done)|(refine ⟨.inr rfl,?_⟩;first|(simp only [tresAll,tres,z1,hb,Option.map_some]<;>exact rfl)|(simp only [h2,h3,h84,h86,h117,h118,h119,h121] at hb;simp only [tresAll,tres,z1,hb,Option.map_some]<;>exact rfl))
                · rw [if_neg (by rw [h121];exact Bool.false_ne_true)] at hr
                  repeat (first|((with_reducible first|apply TO.mv|apply TO.ld);(repeat (focus (show _ = _;first|exact k2 rfl|(simp only [zz,y30,Nat.reduceAdd,Nat.reduceLeDiff,tload,rowOf,partT,h121]<;>exact rfl)|exact rfl)));(with_reducible apply TO.here)))
                  obtain ⟨v97,h122,hr⟩:=Option.bind_eq_some_iff.1 hr
                  try dsimp only at hr
                  apply TO.cal (by first|rfl|(simp only [twant,z1,zp,zs,h2,h3,h84,h86,h117,h118,h119,h121];done)) rfl goFn50 (Spec.ov (ref08_Echoes_spec h122) (by decide)) rfl rfl rfl
                  (repeat (focus (show _ = _;(simp only [zz,Nat.reduceAdd,shift]<;>exact rfl))))
                  with_reducible apply TO.here
                  obtain ⟨v98,h123,hr⟩:=Option.bind_eq_some_iff.1 hr
                  try dsimp only at hr
                  apply TO.lok (by first|rfl|(simp only [twant,z1,zp,zs,h2,h3,h84,h86,h117,h118,h119,h121];done)) rfl goFn23 (Spec.ov (base_Ints_spec h123) (by decide)) (by simp only [view,z1,z3,tmlc,take_map_part2]<;>rfl) rfl rfl (by simp [])
                  (repeat (focus (show _ = _;(simp only [zz,shift]<;>exact rfl))))
                  with_reducible apply TO.here
                  apply TO.pop1 (by first|rfl|(simp only [twant,z1,zp,zs,h2,h3,h84,h86,h117,h118,h119,h121];done)) (pop_not rfl)
                  (repeat (focus (show _ = _;(simp only [zz]<;>exact rfl))))
                  with_reducible apply TO.here
                  repeat (first|(with_reducible first|refine mv ?_|refine TO.nil ?_)|((with_reducible apply TO.pk);(repeat (focus (show _ = _;first|exact k2 rfl|(simp only [zz]<;>exact rfl))));(with_reducible apply TO.here)))
                  rcases Bool.eq_false_or_eq_true (v98) with h124|h124
                  · rw [if_pos h124] at hr
                    repeat (first|(with_reducible first|refine mv ?_|refine TO.nil ?_)|((with_reducible apply TO.asg);(repeat (focus (show _ = _;first|exact k2 rfl|(simp only [zz,h124]<;>exact rfl))));(with_reducible apply TO.here))|((with_reducible apply TX.region);(focus (simp only []<;>exact rfl));(focus rfl);(try dsimp only))|((with_reducible apply TX.cond_false);(focus rfl);(focus ((simp only [z1,Bool.not_true,h124];done)))))
                    obtain ⟨v101,h127,hr⟩:=Option.bind_eq_some_iff.1 hr
                    try dsimp only at hr
                    refine TX.loopE (step:=law08_LoopEchoes_l5) (x:=v69) h127 (fun v99=>⟨.junk :: .v (.int .i64 v3) :: .v (.int .i64 v4) :: .fptr true [.list 1 (v1.map e_i),.v (.int .i64 v2)] 0 :: .junk :: .junk :: .junk :: .lsl 0 0 v99 :: .junk :: .v (.int .i64 v73) :: .junk :: .junk :: .junk :: .v (.int .i64 v76) :: .v (.int .i64 1) :: .junk :: .junk :: .junk :: .junk :: .junk :: .junk :: .junk :: .junk :: .junk :: .junk :: .junk :: .junk :: .junk :: .junk :: .junk :: .junk :: .junk :: .junk :: .junk :: .junk :: .junk :: .junk :: .junk :: .junk :: .junk :: .junk :: .junk :: .junk :: .junk :: .junk :: .junk :: .junk :: .junk :: .junk :: .junk :: .junk :: .junk :: .junk :: .junk :: .junk :: .junk :: .junk :: .junk :: .junk :: .junk :: .junk :: .junk :: .junk :: .junk :: .junk :: .junk :: .junk :: .junk :: .junk :: .junk :: .junk :: .junk :: .junk :: .junk :: .junk :: .junk :: .junk :: .junk :: .junk :: .junk :: .junk :: .junk :: .junk :: .junk :: .junk :: .junk :: .junk :: .junk :: .junk :: .junk :: .junk :: .junk :: .junk :: .junk :: .junk :: .junk :: .junk :: .junk :: .junk :: .junk :: .junk :: .junk :: .junk :: .junk :: .junk :: .junk :: .junk :: .junk :: .junk :: .junk :: .junk :: .junk :: .junk :: .junk :: .junk :: .junk :: .junk :: .junk :: .junk :: .junk :: .junk :: .junk :: .junk :: .junk :: .junk :: .junk :: .junk :: .junk :: .junk :: .junk :: .junk :: .junk :: .junk :: .junk :: [],[.rows 1 (v68.map e_i)]⟩) (fun v100=>(.exit 0,⟨.junk :: .v (.int .i64 v3) :: .v (.int .i64 v4) :: .fptr true [.list 1 (v1.map e_i),.v (.int .i64 v2)] 0 :: .junk :: .junk :: .junk :: .lsl 0 0 v100 :: .junk :: .junk :: .junk :: .junk :: .junk :: .junk :: .junk :: .junk :: .junk :: .junk :: .junk :: .junk :: .junk :: .junk :: .junk :: .junk :: .junk :: .junk :: .junk :: .junk :: .junk :: .junk :: .junk :: .junk :: .junk :: .junk :: .junk :: .junk :: .junk :: .junk :: .junk :: .junk :: .junk :: .junk :: .junk :: .junk :: .junk :: .junk :: .junk :: .junk :: .junk :: .junk :: .junk :: .junk :: .junk :: .junk :: .junk :: .junk :: .junk :: .junk :: .junk :: .junk :: .junk :: .junk :: .junk :: .junk :: .junk :: .junk :: .junk :: .junk :: .junk :: .junk :: .junk :: .junk :: .junk :: .junk :: .junk :: .junk :: .junk :: .junk :: .junk :: .junk :: .junk :: .junk :: .junk :: .junk :: .junk :: .junk :: .junk :: .junk :: .junk :: .junk :: .junk :: .junk :: .junk :: .junk :: .junk :: .junk :: .junk :: .junk :: .junk :: .junk :: .junk :: .junk :: .junk :: .junk :: .junk :: .junk :: .junk :: .junk :: .junk :: .junk :: .junk :: .junk :: .junk :: .junk :: .junk :: .junk :: .junk :: .junk :: .junk :: .junk :: .junk :: .junk :: .junk :: .junk :: .junk :: .junk :: .junk :: .junk :: .junk :: .junk :: .junk :: .junk :: .junk :: .junk :: [],[.rows 1 (v68.map e_i)]⟩)) ?_ ?_ ?_ ?_
                    · rintro v99 v0 hr
                      dsimp only [law08_LoopEchoes_l5] at hr
                      try dsimp only
                      repeat (first|with_reducible refine mv ?_|((with_reducible first|apply TO.mv|apply TO.len|apply TO.bin);(repeat (focus (show _ = _;first|exact k2 rfl|(simp only [zz,y30,tlen]<;>exact rfl))));(with_reducible apply TO.here))|((with_reducible apply TX.region);(focus (simp only []<;>exact rfl));(focus rfl);(try dsimp only)))
                      rcases Bool.eq_false_or_eq_true ((decide (1 < (v99 : Int)))) with h126|h126
                      · rw [if_pos h126] at hr
                        repeat (first|(with_reducible first|refine mv ?_|refine TO.nil ?_)|((with_reducible first|apply TO.mv|apply TO.bin|apply TO.pk);(repeat (focus (show _ = _;first|exact k2 rfl|(simp only [zz,h86,h126]<;>exact rfl))));(with_reducible apply TO.here))|((with_reducible apply TX.cond_false);(focus rfl);(focus (rfl))))
                        cases hr
                        refine ⟨rfl,?_⟩
                        exact Wk.ren [some 0] rfl (.rows .nil rfl rfl) (by (repeat (first|exact RNs.nil|refine RNs.cons .junk ?_|refine RNs.cons (.keep rfl rfl) ?_|refine RNs.cons (.lsl rfl rfl) ?_|refine RNs.cons (.lsl rfl (by simp only [List.length_set])) ?_|refine RNs.cons (.lptr rfl) ?_|refine RNs.cons (.nil rfl) ?_|refine RNs.cons .nl ?_|refine RNs.cons (.keep (by simp only [h2,h3,h84,h86,h117,h118,h119,h121,h124,h126]) rfl) ?_|refine RNs.cons (.tuple' ?_) ?_|refine RNs.cons (.agg' ?_) ?_)))
                      · rw [if_neg (by rw [h126];exact Bool.false_ne_true)] at hr
                        repeat (first|(with_reducible first|refine mv ?_|refine TO.nil ?_)|((with_reducible apply TO.pk);(repeat (focus (show _ = _;first|exact k2 rfl|(simp only [zz]<;>exact rfl))));(with_reducible apply TO.here))|((with_reducible apply TO.skip1);(repeat (focus (show _ = _;(simp only [zz,twant,zp,zs,h126]<;>exact rfl))));(with_reducible apply TO.here))|((with_reducible apply TX.cond_false);(focus rfl);(focus (rfl))))
                        cases hr
                        refine ⟨rfl,?_⟩
                        exact Wk.ren [some 0] rfl (.rows .nil rfl rfl) (by (repeat (first|exact RNs.nil|refine RNs.cons .junk ?_|refine RNs.cons (.keep rfl rfl) ?_|refine RNs.cons (.lsl rfl rfl) ?_|refine RNs.cons (.lsl rfl (by simp only [List.length_set])) ?_|refine RNs.cons (.lptr rfl) ?_|refine RNs.cons (.nil rfl) ?_|refine RNs.cons .nl ?_|refine RNs.cons (.keep (by simp only [h2,h3,h84,h86,h117,h118,h119,h121,h124,h126]) rfl) ?_|refine RNs.cons (.tuple' ?_) ?_|refine RNs.cons (.agg' ?_) ?_)))
                    · intro e h;cases h
                    · try dsimp only
                      repeat (first|with_reducible refine mv ?_|((with_reducible apply TO.ld);(repeat (focus (show _ = _;first|exact k2 rfl|(simp only [zz,y30,Nat.reduceAdd,Nat.reduceLeDiff,tload,rowOf,partT]<;>exact rfl)|exact rfl)));(with_reducible apply TO.here))|((with_reducible apply TX.region);(focus (simp only []<;>exact rfl));(focus rfl);(try dsimp only)))
                      obtain ⟨⟨v102,v103⟩,h128,hr⟩:=Option.bind_eq_some_iff.1 hr
                      try dsimp only at hr
                      apply TO.cal (by first|rfl|(simp only [twant,z1,zp,zs,h2,h3,h84,h86,h117,h118,h119,h121,h124];done)) rfl goFn17 (Spec.ov (ref08_Copy_spec h128) (by decide)) rfl rfl rfl
                      (repeat (focus (show _ = _;(simp only [zz,Nat.reduceAdd,shift]<;>exact rfl))))
                      with_reducible apply TO.here
                      repeat (first|((with_reducible apply TO.mv);(repeat (focus (show _ = _;first|exact k2 rfl|(simp only [zz]<;>exact rfl))));(with_reducible apply TO.here)))
                      obtain ⟨v104,h129,hr⟩:=Option.bind_eq_some_iff.1 hr
                      try dsimp only at hr
                      apply TO.cal (by first|rfl|(simp only [twant,z1,zp,zs,h2,h3,h84,h86,h117,h118,h119,h121,h124];done)) rfl goFn51 (Spec.ov (base_Floor_spec h129) (by decide)) rfl rfl rfl
                      (repeat (focus (show _ = _;(simp only [zz,shift]<;>exact rfl))))
                      with_reducible apply TO.here
                      obtain ⟨⟨v105,v106,v107⟩,h130,hr⟩:=Option.bind_eq_some_iff.1 hr
                      try dsimp only at hr
                      apply TO.lok (by first|rfl|(simp only [twant,z1,zp,zs,h2,h3,h84,h86,h117,h118,h119,h121,h124];done)) rfl goFn46 (Spec.ov (loop_Echoes_spec h130) (by decide)) (by simp only [view,z1,z3,tmlc]<;>rfl) rfl rfl (by simp [clTB,cl,e_i])
                      (repeat (focus (show _ = _;(simp only [zz,Nat.reduceAdd,shift]<;>exact rfl))))
                      with_reducible apply TO.here
                      repeat (first|(with_reducible first|refine mv ?_|refine TO.nil ?_)|((with_reducible first|apply TO.mv|apply TO.ext|apply TO.asg|apply TO.bin);(repeat (focus (show _ = _;first|exact k2 rfl|(simp only [zz]<;>exact rfl))));(with_reducible apply TO.here))|((with_reducible apply TX.region);(focus (simp only []<;>exact rfl));(focus rfl);(try dsimp only)))
                      rcases Bool.eq_false_or_eq_true ((decide (v107 = 0))) with h131|h131
                      · rw [if_pos h131] at hr
                        repeat (first|((with_reducible apply TO.mv);(repeat (focus (show _ = _;first|exact k2 rfl|(simp only [zz,h131]<;>exact rfl))));(with_reducible apply TO.here)))
                        obtain ⟨v108,h132,hr⟩:=Option.bind_eq_some_iff.1 hr
                        try dsimp only at hr
                        apply TO.cal (by first|rfl|(simp only [twant,z1,zp,zs,h2,h3,h84,h86,h117,h118,h119,h121,h124,h131];done)) rfl goFn51 (Spec.ov (base_Floor_spec h132) (by decide)) rfl rfl rfl
                        (repeat (focus (show _ = _;(simp only [zz,shift]<;>exact rfl))))
                        with_reducible apply TO.here
                        obtain ⟨v109,h133,hr⟩:=Option.bind_eq_some_iff.1 hr
                        try dsimp only at hr
                        apply TO.ct e_i h133 (by first|rfl|(simp only [twant,z1,zp,zs,h2,h3,h84,h86,h117,h118,h119,h121,h124,h131];done)) rfl rfl rfl so22 ok3 cs3
                        (repeat (focus (show _ = _;(simp only [zz]<;>exact rfl))))
                        with_reducible apply TO.here
                        obtain ⟨v110,h134,hr⟩:=Option.bind_eq_some_iff.1 hr
                        try dsimp only at hr
                        apply TO.lok (by first|rfl|(simp only [twant,z1,zp,zs,h2,h3,h84,h86,h117,h118,h119,h121,h124,h131];done)) rfl goFn23 (Spec.ov (base_Ints_spec h134) (by decide)) (by simp only [view,z1,z3,take_map_part2]<;>rfl) rfl rfl (by simp [])
                        (repeat (focus (show _ = _;(simp only [zz,shift]<;>exact rfl))))
                        with_reducible apply TO.here
                        repeat (first|(with_reducible first|refine mv ?_|refine TO.nil ?_)|((with_reducible first|apply TO.pk|apply TO.asg);(repeat (focus (show _ = _;first|exact k2 rfl|(simp only [zz]<;>exact rfl))));(with_reducible apply TO.here)))
                        have hb:=Option.some.inj hr
                        first|(cases hb;done)|(refine ⟨.inr rfl,?_⟩;first|(simp only [hb]<;>exact rfl)|(simp only [h2,h3,h84,h86,h117,h118,h119,h121,h124,h131] at hb;simp only [tresAll,tres,z1,hb,Option.map_some]<;>exact rfl))
                      · rw [if_neg (by rw [h131];exact Bool.false_ne_true)] at hr
                        repeat (first|(with_reducible first|refine mv ?_|refine TO.nil ?_)|((with_reducible first|apply TO.pk|apply TO.asg);(repeat (focus (show _ = _;first|exact k2 rfl|(simp only [zz]<;>exact rfl))));(with_reducible apply TO.here))|((with_reducible apply TO.skip1);(repeat (focus (show _ = _;(simp only [zz,twant,zp,zs,h131]<;>exact rfl))));(with_reducible apply TO.here)))
                        have hb:=Option.some.inj hr
                        first|(cases hb;done)|(refine ⟨.inr rfl,?_⟩;first|(simp only [tresAll,tres,z1,hb,Option.map_some]<;>exact rfl)|(simp only [h2,h3,h84,h86,h117,h118,h119,h121,h124,h131] at hb;simp only [tresAll,tres,z1,hb,Option.map_some]<;>exact rfl))
                    · try dsimp only
                      exact Wk.ren [some 1] rfl (.rows .nil rfl rfl) (by (repeat (first|exact RNs.nil|refine RNs.cons .junk ?_|refine RNs.cons (.keep rfl rfl) ?_|refine RNs.cons (.lsl rfl rfl) ?_|refine RNs.cons (.lsl rfl (by simp only [List.length_set])) ?_|refine RNs.cons (.lptr rfl) ?_|refine RNs.cons (.nil rfl) ?_|refine RNs.cons .nl ?_|refine RNs.cons (.keep (by simp only [h2,h3,h84,h86,h117,h118,h119,h121,h124]) rfl) ?_|refine RNs.cons (.tuple' ?_) ?_|refine RNs.cons (.agg' ?_) ?_)))
                  · rw [if_neg (by rw [h124];exact Bool.false_ne_true)] at hr
                    repeat (first|(with_reducible first|refine mv ?_|refine TO.nil ?_)|((with_reducible apply TO.asg);(repeat (focus (show _ = _;first|exact k2 rfl|(simp only [zz,h124]<;>exact rfl))));(with_reducible apply TO.here))|((with_reducible apply TX.region);(focus (simp only []<;>exact rfl));(focus rfl);(try dsimp only))|((with_reducible apply TX.cond_true);(focus rfl);(focus ((simp only [z1,zn,h124];done)))))
                    have hb:=Option.some.inj hr
                    first|(cases hb;done)|(refine ⟨.inr rfl,?_⟩;first|(simp only [tresAll,tres,z1,hb,Option.map_some]<;>exact rfl)|(simp only [h2,h3,h84,h86,h117,h118,h119,h121,h124] at hb;simp only [tresAll,tres,z1,hb,Option.map_some]<;>exact rfl))
      · rw [if_neg (by rw [h84];exact Bool.false_ne_true)] at hr
        repeat (first|(with_reducible first|refine mv ?_|refine TO.nil ?_)|((with_reducible first|apply TO.mv|apply TO.asg|apply TO.bin);(repeat (focus (show _ = _;first|exact k2 rfl|(simp only [zz,h84]<;>exact rfl))));(with_reducible apply TO.here))|((with_reducible apply TX.region);(focus (simp only []<;>exact rfl));(focus rfl);(try dsimp only))|((with_reducible apply TX.cond_false);(focus rfl);(focus (first|rfl|(simp only [z1,Bool.not_true,h84];done)))))
        rcases Bool.eq_false_or_eq_true ((decide (v74 ≠ v75))) with h135|h135
        · rw [if_pos h135] at hr
          repeat (first|(with_reducible first|refine mv ?_|refine TO.nil ?_)|((with_reducible first|apply TO.pk|apply TO.asg);(repeat (focus (show _ = _;first|exact k2 rfl|(simp only [zz]<;>exact rfl))));(with_reducible apply TO.here))|((with_reducible apply TO.skip1);(repeat (focus (show _ = _;(simp only [zz,twant,zp,zs,h135]<;>exact rfl))));(with_reducible apply TO.here))|((with_reducible apply TX.region);(focus (simp only []<;>exact rfl));(focus rfl);(try dsimp only))|((with_reducible apply TX.cond_true);(focus rfl);(focus (rfl))))
          have hb:=Option.some.inj hr
          first|(cases hb;done)|(refine ⟨.inr rfl,?_⟩;first|(simp only [tresAll,tres,z1,hb,Option.map_some]<;>exact rfl)|(simp only [h2,h3,h84,h135] at hb;simp only [tresAll,tres,z1,hb,Option.map_some]<;>exact rfl))
        · rw [if_neg (by rw [h135];exact Bool.false_ne_true)] at hr
          repeat (first|(with_reducible first|refine mv ?_|refine TO.nil ?_)|((with_reducible first|apply TO.mv|apply TO.bin|apply TO.pk);(repeat (focus (show _ = _;first|exact k2 rfl|(simp only [zz,h135]<;>exact rfl))));(with_reducible apply TO.here)))
          rcases Bool.eq_false_or_eq_true ((decide (v73 ≠ 0))) with h136|h136
          · rw [if_pos h136] at hr
            repeat (first|(with_reducible first|refine mv ?_|refine TO.nil ?_)|((with_reducible apply TO.asg);(repeat (focus (show _ = _;first|exact k2 rfl|(simp only [zz,h136]<;>exact rfl))));(with_reducible apply TO.here))|((with_reducible apply TX.region);(focus (simp only []<;>exact rfl));(focus rfl);(try dsimp only))|((with_reducible apply TX.cond_true);(focus rfl);(focus ((simp only [z1,Bool.not_true,h136];done)))))
            have hb:=Option.some.inj hr
            first|(cases hb;done)|(refine ⟨.inr rfl,?_⟩;first|(simp only [tresAll,tres,z1,hb,Option.map_some]<;>exact rfl)|(simp only [h2,h3,h84,h135,h136] at hb;simp only [tresAll,tres,z1,hb,Option.map_some]<;>exact rfl))
          · rw [if_neg (by rw [h136];exact Bool.false_ne_true)] at hr
            repeat (first|(with_reducible first|refine mv ?_|refine TO.nil ?_)|((with_reducible first|apply TO.mv|apply TO.bin|apply TO.pk);(repeat (focus (show _ = _;first|exact k2 rfl|(simp only [zz,h84,h136]<;>exact rfl))));(with_reducible apply TO.here))|((with_reducible apply TO.skip1);(repeat (focus (show _ = _;(simp only [zz,twant,zp,zs]<;>exact rfl))));(with_reducible apply TO.here))|((with_reducible apply TX.region);(focus (simp only []<;>exact rfl));(focus rfl);(try dsimp only))|((with_reducible apply TX.cond_false);(focus rfl);(focus (first|rfl|(simp only [z1,Bool.not_true,h136];done)))))
            rcases Bool.eq_false_or_eq_true ((decide (v75 ≠ 0))) with h137|h137
            · rw [if_pos h137] at hr
              repeat (first|with_reducible refine mv ?_|((with_reducible first|apply TO.mv|apply TO.bin);(repeat (focus (show _ = _;first|exact k2 rfl|(simp only [zz,h137]<;>exact rfl))));(with_reducible apply TO.here))|((with_reducible apply TX.region);(focus (simp only []<;>exact rfl));(focus rfl);(try dsimp only))|((with_reducible apply TX.cond_true);(focus rfl);(focus ((simp only [z1,Bool.not_true,h137];done)))))
              rcases Bool.eq_false_or_eq_true ((decide (v70 = v75))) with h138|h138
              · rw [if_pos h138] at hr
                repeat (first|(with_reducible first|refine mv ?_|refine TO.nil ?_)|((with_reducible first|apply TO.mv|apply TO.len|apply TO.bin|apply TO.pk|apply TO.asg);(repeat (focus (show _ = _;first|exact k2 rfl|(simp only [zz,y30,tlen,h138]<;>exact rfl))));(with_reducible apply TO.here)))
                have hb:=Option.some.inj hr
                first|(cases hb;done)|(refine ⟨.inr rfl,?_⟩;first|(simp only [hb]<;>exact rfl)|(simp only [h2,h3,h84,h135,h136,h137,h138] at hb;simp only [tresAll,tres,z1,hb,Option.map_some]<;>exact rfl))
              · rw [if_neg (by rw [h138];exact Bool.false_ne_true)] at hr
                repeat (first|(with_reducible first|refine mv ?_|refine TO.nil ?_)|((with_reducible first|apply TO.pk|apply TO.asg);(repeat (focus (show _ = _;first|exact k2 rfl|(simp only [zz]<;>exact rfl))));(with_reducible apply TO.here))|((with_reducible apply TO.skip1);(repeat (focus (show _ = _;(simp only [zz,twant,zp,zs,h138]<;>exact rfl))));(with_reducible apply TO.here)))
                have hb:=Option.some.inj hr
                first|(cases hb;done)|(refine ⟨.inr rfl,?_⟩;first|(simp only [tresAll,tres,z1,hb,Option.map_some]<;>exact rfl)|(simp only [h2,h3,h84,h135,h136,h137,h138] at hb;simp only [tresAll,tres,z1,hb,Option.map_some]<;>exact rfl))
            · rw [if_neg (by rw [h137];exact Bool.false_ne_true)] at hr
              repeat (first|with_reducible refine mv ?_|((with_reducible first|apply TO.mv|apply TO.bin);(repeat (focus (show _ = _;first|exact k2 rfl|(simp only [zz,h137]<;>exact rfl))));(with_reducible apply TO.here))|((with_reducible apply TX.region);(focus (simp only []<;>exact rfl));(focus rfl);(try dsimp only))|((with_reducible apply TX.cond_false);(focus rfl);(focus ((simp only [z1,Bool.not_true,h137];done)))))
              rcases Bool.eq_false_or_eq_true ((decide (v70 ≠ 0))) with h139|h139
              · rw [if_pos h139] at hr
                repeat (first|(with_reducible first|refine mv ?_|refine TO.nil ?_)|((with_reducible first|apply TO.pk|apply TO.asg);(repeat (focus (show _ = _;first|exact k2 rfl|(simp only [zz]<;>exact rfl))));(with_reducible apply TO.here))|((with_reducible apply TO.skip1);(repeat (focus (show _ = _;(simp only [zz,twant,zp,zs,h139]<;>exact rfl))));(with_reducible apply TO.here))|((with_reducible apply TX.region);(focus (simp only []<;>exact rfl));(focus rfl);(try dsimp only))|((with_reducible apply TX.cond_true);(focus rfl);(focus (rfl))))
                have hb:=Option.some.inj hr
                first|(cases hb;done)|(refine ⟨.inr rfl,?_⟩;first|(simp only [tresAll,tres,z1,hb,Option.map_some]<;>exact rfl)|(simp only [h2,h3,h84,h135,h136,h137,h139] at hb;simp only [tresAll,tres,z1,hb,Option.map_some]<;>exact rfl))
              · rw [if_neg (by rw [h139];exact Bool.false_ne_true)] at hr
                repeat (first|((with_reducible first|apply TO.mv|apply TO.ld);(repeat (focus (show _ = _;first|exact k2 rfl|(simp only [zz,y30,Nat.reduceAdd,Nat.reduceLeDiff,tload,rowOf,partT,h139]<;>exact rfl)|exact rfl)));(with_reducible apply TO.here)))
                obtain ⟨v111,h140,hr⟩:=Option.bind_eq_some_iff.1 hr
                try dsimp only at hr
                apply TO.cal (by first|rfl|(simp only [twant,z1,zp,zs,h2,h3,h84,h135,h136,h137,h139];done)) rfl goFn50 (Spec.ov (ref08_Echoes_spec h140) (by decide)) rfl rfl rfl
                (repeat (focus (show _ = _;(simp only [zz,Nat.reduceAdd,shift]<;>exact rfl))))
                with_reducible apply TO.here
                obtain ⟨v112,h141,hr⟩:=Option.bind_eq_some_iff.1 hr
                try dsimp only at hr
                apply TO.lok (by first|rfl|(simp only [twant,z1,zp,zs,h2,h3,h84,h135,h136,h137,h139];done)) rfl goFn23 (Spec.ov (base_Ints_spec h141) (by decide)) (by simp only [view,z1,z3,tmlc,take_map_part2]<;>rfl) rfl rfl (by simp [])
                (repeat (focus (show _ = _;(simp only [zz,shift]<;>exact rfl))))
                with_reducible apply TO.here
                apply TO.pop1 (by first|rfl|(simp only [twant,z1,zp,zs,h2,h3,h84,h135,h136,h137,h139];done)) (pop_not rfl)
                (repeat (focus (show _ = _;(simp only [zz]<;>exact rfl))))
                with_reducible apply TO.here
                repeat (first|(with_reducible first|refine mv ?_|refine TO.nil ?_)|((with_reducible apply TO.pk);(repeat (focus (show _ = _;first|exact k2 rfl|(simp only [zz]<;>exact rfl))));(with_reducible apply TO.here)))
                rcases Bool.eq_false_or_eq_true (v112) with h142|h142
                · rw [if_pos h142] at hr
                  repeat (first|(with_reducible first|refine mv ?_|refine TO.nil ?_)|((with_reducible apply TO.asg);(repeat (focus (show _ = _;first|exact k2 rfl|(simp only [zz,h142]<;>exact rfl))));(with_reducible apply TO.here))|((with_reducible apply TX.region);(focus (simp only []<;>exact rfl));(focus rfl);(try dsimp only))|((with_reducible apply TX.cond_false);(focus rfl);(focus ((simp only [z1,Bool.not_true,h142];done)))))
                  obtain ⟨v115,h145,hr⟩:=Option.bind_eq_some_iff.1 hr
                  try dsimp only at hr
                  refine TX.loopE (step:=law08_LoopEchoes_l6) (x:=v69) h145 (fun v113=>⟨.junk :: .v (.int .i64 v3) :: .v (.int .i64 v4) :: .fptr true [.list 1 (v1.map e_i),.v (.int .i64 v2)] 0 :: .junk :: .junk :: .junk :: .lsl 0 0 v113 :: .junk :: .v (.int .i64 v73) :: .junk :: .junk :: .junk :: .v (.int .i64 v75) :: .v (.int .i64 1) :: .junk :: .junk :: .junk :: .junk :: .junk :: .junk :: .junk :: .junk :: .junk :: .junk :: .junk :: .junk :: .junk :: .junk :: .junk :: .junk :: .junk :: .junk :: .junk :: .junk :: .junk :: .junk :: .junk :: .junk :: .junk :: .junk :: .junk :: .junk :: .junk :: .junk :: .junk :: .junk :: .junk :: .junk :: .junk :: .junk :: .junk :: .junk :: .junk :: .junk :: .junk :: .junk :: .junk :: .junk :: .junk :: .junk :: .junk :: .junk :: .junk :: .junk :: .junk :: .junk :: .junk :: .junk :: .junk :: .junk :: .junk :: .junk :: .junk :: .junk :: .junk :: .junk :: .junk :: .junk :: .junk :: .junk :: .junk :: .junk :: .junk :: .junk :: .junk :: .junk :: .junk :: .junk :: .junk :: .junk :: .junk :: .junk :: .junk :: .junk :: .junk :: .junk :: .junk :: .junk :: .junk :: .junk :: .junk :: .junk :: .junk :: .junk :: .junk :: .junk :: .junk :: .junk :: .junk :: .junk :: .junk :: .junk :: .junk :: .junk :: .junk :: .junk :: .junk :: .junk :: .junk :: .junk :: .junk :: .junk :: .junk :: .junk :: .junk :: .junk :: .junk :: .junk :: .junk :: .junk :: .junk :: .junk :: .junk :: [],[.rows 1 (v68.map e_i)]⟩) (fun v114=>(.exit 0,⟨.junk :: .v (.int .i64 v3) :: .v (.int .i64 v4) :: .fptr true [.list 1 (v1.map e_i),.v (.int .i64 v2)] 0 :: .junk :: .junk :: .junk :: .lsl 0 0 v114 :: .junk :: .junk :: .junk :: .junk :: .junk :: .junk :: .junk :: .junk :: .junk :: .junk :: .junk :: .junk :: .junk :: .junk :: .junk :: .junk :: .junk :: .junk :: .junk :: .junk :: .junk :: .junk :: .junk :: .junk :: .junk :: .junk :: .junk :: .junk :: .junk :: .junk :: .junk :: .junk :: .junk :: .junk :: .junk :: .junk :: .junk :: .junk :: .junk :: .junk :: .junk :: .junk :: .junk :: .junk :: .junk :: .junk :: .junk :: .junk :: .junk :: .junk :: .junk :: .junk :: .junk :: .junk :: .junk :: .junk :: .junk :: .junk :: .junk :: .junk :: .junk :: .junk :: .junk :: .junk :: .junk :: .junk :: .junk :: .junk :: .junk :: .junk :: .junk :: .junk :: .junk :: .junk :: .junk :: .junk :: .junk :: .junk :: .junk :: .junk :: .junk :: .junk :: .junk :: .junk :: .junk :: .junk :: .junk :: .junk :: .junk :: .junk :: .junk :: .junk :: .junk :: .junk :: .junk :: .junk :: .junk :: .junk :: .junk :: .junk :: .junk :: .junk :: .junk :: .junk :: .junk :: .junk :: .junk :: .junk :: .junk :: .junk :: .junk :: .junk :: .junk :: .junk :: .junk :: .junk :: .junk :: .junk :: .junk :: .junk :: .junk :: .junk :: .junk :: .junk :: .junk :: .junk :: [],[.rows 1 (v68.map e_i)]⟩)) ?_ ?_ ?_ ?_
                  · rintro v113 v0 hr
                    dsimp only [law08_LoopEchoes_l6] at hr
                    try dsimp only
                    repeat (first|with_reducible refine mv ?_|((with_reducible first|apply TO.mv|apply TO.len|apply TO.bin);(repeat (focus (show _ = _;first|exact k2 rfl|(simp only [zz,y30,tlen]<;>exact rfl))));(with_reducible apply TO.here))|((with_reducible apply TX.region);(focus (simp only []<;>exact rfl));(focus rfl);(try dsimp only)))
                    rcases Bool.eq_false_or_eq_true ((decide (1 < (v113 : Int)))) with h144|h144
                    · rw [if_pos h144] at hr
                      repeat (first|(with_reducible first|refine mv ?_|refine TO.nil ?_)|((with_reducible first|apply TO.mv|apply TO.bin|apply TO.pk);(repeat (focus (show _ = _;first|exact k2 rfl|(simp only [zz,h84,h144]<;>exact rfl))));(with_reducible apply TO.here))|((with_reducible apply TX.cond_false);(focus rfl);(focus (rfl))))
                      cases hr
                      refine ⟨rfl,?_⟩
                      exact Wk.ren [some 0] rfl (.rows .nil rfl rfl) (by (repeat (first|exact RNs.nil|refine RNs.cons .junk ?_|refine RNs.cons (.keep rfl rfl) ?_|refine RNs.cons (.lsl rfl rfl) ?_|refine RNs.cons (.lsl rfl (by simp only [List.length_set])) ?_|refine RNs.cons (.lptr rfl) ?_|refine RNs.cons (.nil rfl) ?_|refine RNs.cons .nl ?_|refine RNs.cons (.keep (by simp only [h2,h3,h84,h135,h136,h137,h139,h142,h144]) rfl) ?_|refine RNs.cons (.tuple' ?_) ?_|refine RNs.cons (.agg' ?_) ?_)))
                    · rw [if_neg (by rw [h144];exact Bool.false_ne_true)] at hr
                      repeat (first|(with_reducible first|refine mv ?_|refine TO.nil ?_)|((with_reducible apply TO.pk);(repeat (focus (show _ = _;first|exact k2 rfl|(simp only [zz]<;>exact rfl))));(with_reducible apply TO.here))|((with_reducible apply TO.skip1);(repeat (focus (show _ = _;(simp only [zz,twant,zp,zs,h144]<;>exact rfl))));(with_reducible apply TO.here))|((with_reducible apply TX.cond_false);(focus rfl);(focus (rfl))))
                      cases hr
                      refine ⟨rfl,?_⟩
                      exact Wk.ren [some 0] rfl (.rows .nil rfl rfl) (by (repeat (first|exact RNs.nil|refine RNs.cons .junk ?_|refine RNs.cons (.keep rfl rfl) ?_|refine RNs.cons (.lsl rfl rfl) ?_|refine RNs.cons (.lsl rfl (by simp only [List.length_set])) ?_|refine RNs.cons (.lptr rfl) ?_|refine RNs.cons (.nil rfl) ?_|refine RNs.cons .nl ?_|refine RNs.cons (.keep (by simp only [h2,h3,h84,h135,h136,h137,h139,h142,h144]) rfl) ?_|refine RNs.cons (.tuple' ?_) ?_|refine RNs.cons (.agg' ?_) ?_)))
                  · intro e h;cases h
                  · try dsimp only
                    repeat (first|with_reducible refine mv ?_|((with_reducible apply TO.ld);(repeat (focus (show _ = _;first|exact k2 rfl|(simp only [zz,y30,Nat.reduceAdd,Nat.reduceLeDiff,tload,rowOf,partT]<;>exact rfl)|exact rfl)));(with_reducible apply TO.here))|((with_reducible apply TX.region);(focus (simp only []<;>exact rfl));(focus rfl);(try dsimp only)))
                    obtain ⟨⟨v116,v117⟩,h146,hr⟩:=Option.bind_eq_some_iff.1 hr
                    try dsimp only at hr
                    apply TO.cal (by first|rfl|(simp only [twant,z1,zp,zs,h2,h3,h84,h135,h136,h137,h139,h142];done)) rfl goFn17 (Spec.ov (ref08_Copy_spec h146) (by decide)) rfl rfl rfl
                    (repeat (focus (show _ = _;(simp only [zz,Nat.reduceAdd,shift]<;>exact rfl))))
                    with_reducible apply TO.here
                    repeat (first|((with_reducible apply TO.mv);(repeat (focus (show _ = _;first|exact k2 rfl|(simp only [zz]<;>exact rfl))));(with_reducible apply TO.here)))
                    obtain ⟨v118,h147,hr⟩:=Option.bind_eq_some_iff.1 hr
                    try dsimp only at hr
                    apply TO.cal (by first|rfl|(simp only [twant,z1,zp,zs,h2,h3,h84,h135,h136,h137,h139,h142];done)) rfl goFn51 (Spec.ov (base_Floor_spec h147) (by decide)) rfl rfl rfl
                    (repeat (focus (show _ = _;(simp only [zz,shift]<;>exact rfl))))
                    with_reducible apply TO.here
                    obtain ⟨⟨v119,v120,v121⟩,h148,hr⟩:=Option.bind_eq_some_iff.1 hr
                    try dsimp only at hr
                    apply TO.lok (by first|rfl|(simp only [twant,z1,zp,zs,h2,h3,h84,h135,h136,h137,h139,h142];done)) rfl goFn46 (Spec.ov (loop_Echoes_spec h148) (by decide)) (by simp only [view,z1,z3,tmlc]<;>rfl) rfl rfl (by simp [clTB,cl,e_i])
                    (repeat (focus (show _ = _;(simp only [zz,Nat.reduceAdd,shift]<;>exact rfl))))
                    with_reducible apply TO.here
                    repeat (first|(with_reducible first|refine mv ?_|refine TO.nil ?_)|((with_reducible first|apply TO.mv|apply TO.ext|apply TO.asg|apply TO.bin);(repeat (focus (show _ = _;first|exact k2 rfl|(simp only [zz]<;>exact rfl))));(with_reducible apply TO.here))|((with_reducible apply TX.region);(focus (simp only []<;>exact rfl));(focus rfl);(try dsimp only)))
                    rcases Bool.eq_false_or_eq_true ((decide (v121 = 0))) with h149|h149
                    · rw [if_pos h149] at hr
                      repeat (first|((with_reducible apply TO.mv);(repeat (focus (show _ = _;first|exact k2 rfl|(simp only [zz,h149]<;>exact rfl))));(with_reducible apply TO.here)))
                      obtain ⟨v122,h150,hr⟩:=Option.bind_eq_some_iff.1 hr
                      try dsimp only at hr
                      apply TO.cal (by first|rfl|(simp only [twant,z1,zp,zs,h2,h3,h84,h135,h136,h137,h139,h142,h149];done)) rfl goFn51 (Spec.ov (base_Floor_spec h150) (by decide)) rfl rfl rfl
                      (repeat (focus (show _ = _;(simp only [zz,shift]<;>exact rfl))))
                      with_reducible apply TO.here
                      obtain ⟨v123,h151,hr⟩:=Option.bind_eq_some_iff.1 hr
                      try dsimp only at hr
                      apply TO.ct e_i h151 (by first|rfl|(simp only [twant,z1,zp,zs,h2,h3,h84,h135,h136,h137,h139,h142,h149];done)) rfl rfl rfl so22 ok3 cs3
                      (repeat (focus (show _ = _;(simp only [zz]<;>exact rfl))))
                      with_reducible apply TO.here
                      obtain ⟨v124,h152,hr⟩:=Option.bind_eq_some_iff.1 hr
                      try dsimp only at hr
                      apply TO.lok (by first|rfl|(simp only [twant,z1,zp,zs,h2,h3,h84,h135,h136,h137,h139,h142,h149];done)) rfl goFn23 (Spec.ov (base_Ints_spec h152) (by decide)) (by simp only [view,z1,z3,take_map_part2]<;>rfl) rfl rfl (by simp [])
                      (repeat (focus (show _ = _;(simp only [zz,shift]<;>exact rfl))))
                      with_reducible apply TO.here
                      repeat (first|(with_reducible first|refine mv ?_|refine TO.nil ?_)|((with_reducible first|apply TO.pk|apply TO.asg);(repeat (focus (show _ = _;first|exact k2 rfl|(simp only [zz]<;>exact rfl))));(with_reducible apply TO.here)))
                      have hb:=Option.some.inj hr
                      first|(cases hb;done)|(refine ⟨.inr rfl,?_⟩;first|(simp only [hb]<;>exact rfl)|(simp only [h2,h3,h84,h135,h136,h137,h139,h142,h149] at hb;simp only [tresAll,tres,z1,hb,Option.map_some]<;>exact rfl))
                    · rw [if_neg (by rw [h149];exact Bool.false_ne_true)] at hr
                      repeat (first|(with_reducible first|refine mv ?_|refine TO.nil ?_)|((with_reducible first|apply TO.pk|apply TO.asg);(repeat (focus (show _ = _;first|exact k2 rfl|(simp only [zz]<;>exact rfl))));(with_reducible apply TO.here))|((with_reducible apply TO.skip1);(repeat (focus (show _ = _;(simp only [zz,twant,zp,zs,h149]<;>exact rfl))));(with_reducible apply TO.here)))
                      have hb:=Option.some.inj hr
                      first|(cases hb;done)|(refine ⟨.inr rfl,?_⟩;first|(simp only [tresAll,tres,z1,hb,Option.map_some]<;>exact rfl)|(simp only [h2,h3,h84,h135,h136,h137,h139,h142,h149] at hb;simp only [tresAll,tres,z1,hb,Option.map_some]<;>exact rfl))
                  · try dsimp only
                    exact Wk.ren [some 1] rfl (.rows .nil rfl rfl) (by (repeat (first|exact RNs.nil|refine RNs.cons .junk ?_|refine RNs.cons (.keep rfl rfl) ?_|refine RNs.cons (.lsl rfl rfl) ?_|refine RNs.cons (.lsl rfl (by simp only [List.length_set])) ?_|refine RNs.cons (.lptr rfl) ?_|refine RNs.cons (.nil rfl) ?_|refine RNs.cons .nl ?_|refine RNs.cons (.keep (by simp only [h2,h3,h84,h135,h136,h137,h139,h142]) rfl) ?_|refine RNs.cons (.tuple' ?_) ?_|refine RNs.cons (.agg' ?_) ?_)))
                · rw [if_neg (by rw [h142];exact Bool.false_ne_true)] at hr
                  repeat (first|(with_reducible first|refine mv ?_|refine TO.nil ?_)|((with_reducible apply TO.asg);(repeat (focus (show _ = _;first|exact k2 rfl|(simp only [zz,h142]<;>exact rfl))));(with_reducible apply TO.here))|((with_reducible apply TX.region);(focus (simp only []<;>exact rfl));(focus rfl);(try dsimp only))|((with_reducible apply TX.cond_true);(focus rfl);(focus ((simp only [z1,zn,h142];done)))))
                  have hb:=Option.some.inj hr
                  first|(cases hb;done)|(refine ⟨.inr rfl,?_⟩;first|(simp only [tresAll,tres,z1,hb,Option.map_some]<;>exact rfl)|(simp only [h2,h3,h84,h135,h136,h137,h139,h142] at hb;simp only [tresAll,tres,z1,hb,Option.map_some]<;>exact rfl))
  · rw [if_neg (by rw [h2];exact Bool.false_ne_true)] at hr
    repeat (first|(with_reducible first|refine mv ?_|refine TO.nil ?_)|((with_reducible first|apply TO.pk|apply TO.asg);(repeat (focus (show _ = _;first|exact k2 rfl|(simp only [zz]<;>exact rfl))));(with_reducible apply TO.here))|((with_reducible apply TO.skip1);(repeat (focus (show _ = _;(simp only [zz,twant,zp,zs,h2]<;>exact rfl))));(with_reducible apply TO.here))|((with_reducible apply TX.region);(focus (simp only []<;>exact rfl));(focus rfl);(try dsimp only))|((with_reducible apply TX.cond_true);(focus rfl);(focus (rfl))))
    have hb:=Option.some.inj hr
    first|(cases hb;done)|(refine ⟨.inr rfl,?_⟩;first|(simp only []<;>exact rfl)|(simp only [h2] at hb;simp only [tresAll,tres,z1,hb,Option.map_some]<;>exact rfl))

end Go.Rex
