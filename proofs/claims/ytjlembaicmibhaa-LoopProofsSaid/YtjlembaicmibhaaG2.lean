/- Proofs that the program's functions do what these plain functions say. -/
import Derived.Test.YtjlembaicmibhaaGB
import Derived.Test.YtjlembaicmibhaaS
import Derived.Test.YtjlembaicmibhaaG1
set_option linter.unusedSimpArgs false
set_option linter.unusedVariables false
set_option linter.defProp false
namespace Go.Rex
open Go.Proofs
open Go Go.Rex Go.RowKit
set_option maxRecDepth 100000
set_option maxHeartbeats 1000000
def y27:=an @ag22 <| an @ag3 <| an @ag30 <| an @ag88 <| an @cs3 <| an @cs30 <| an @fd24_0 <| an @fd24_1 <| an @fd30_0 <| an @fd30_1 <| an @fd30_2 <| an @fd86_0 <| an @fd90_0 <| an @fd90_1 <| an @ok3 <| an @ok30 <| an @so22 <| an @st30 <| an @zc30 <| @wi64_0a1
theorem loop_plot_value_spec {v1 : (List Int)} {v2 : Int} {v3 : (List (Int × Int))} {v4 : Int} {v5 : Int} {v6 : Int} {v7 : Int} (hr : loop_plot_value v1 v2 v3 v4 = some (v5,v6,v7)) : Spec (lim Try.prog) 51 [.agg [.list 1 (v1.map e_i),.v (.int .i64 v2),.list 2 (v3.map e_ii)],.v (.int .i64 v4)] ⟨[.agg [.v (.int .i64 v5),.v (.int .i64 v6),.v (.int .i64 v7)]],[]⟩:=by
  unfold loop_plot_value at hr
  apply Spec.fn Try.func51 rfl
  focus (simp [Try.f51]<;>exact rfl)
  focus
    repeat (first|(with_reducible first|refine mv ?_|refine TO.nil ?_)|((with_reducible first|apply TO.bf|apply TO.al|apply TO.fa|apply TO.ld|apply TO.len|apply TO.mv);(repeat (focus (show _ = _;first|exact k1 rfl|exact k2 rfl|(simp only [zz,y27,Nat.reduceAdd,tfieldAddr,tload,rowOf,partT,tlen]<;>exact rfl)|exact rfl)));(with_reducible apply TO.here))|((with_reducible apply TX.region);(focus (simp only []<;>exact rfl));(focus rfl);(try dsimp only)))
    obtain ⟨⟨v25,v26,v27⟩,h9,hr⟩:=Option.bind_eq_some_iff.1 hr
    try dsimp only at hr
    refine TX.loopE (step:=loop_plot_value_l1 v1 v3 v4) (x:=(0,0,0,0)) h9 (fun (v8,v9,v10,v11)=>⟨.junk :: .v (.int .i64 v4) :: .fptr true [.list 1 (v1.map e_i),.v (.int .i64 v2),.list 2 (v3.map e_ii)] 0 :: .junk :: .lptr 0 0 0 :: .lptr 1 0 0 :: .junk :: .junk :: .junk :: .junk :: .junk :: .junk :: .junk :: .junk :: .junk :: .junk :: .list 1 (v1.map e_i) :: .v (.int .i64 (v1.length : Int)) :: .v (.int .i64 v11) :: .junk :: .junk :: .junk :: .junk :: .junk :: .junk :: .junk :: .junk :: .junk :: .junk :: .junk :: .junk :: .junk :: .junk :: .junk :: .junk :: .junk :: .junk :: .junk :: .junk :: .junk :: .junk :: .junk :: .junk :: .junk :: .junk :: .junk :: .junk :: .junk :: .junk :: .junk :: .junk :: .junk :: .junk :: .junk :: .junk :: .junk :: .junk :: .junk :: .junk :: .junk :: .junk :: .junk :: .junk :: .junk :: .junk :: .junk :: .junk :: .junk :: .junk :: .junk :: .junk :: .junk :: .junk :: .junk :: .junk :: .junk :: .junk :: .junk :: .junk :: .junk :: .junk :: .junk :: .junk :: .junk :: .junk :: .junk :: .junk :: .junk :: .junk :: .junk :: .junk :: .junk :: .junk :: .junk :: .junk :: .junk :: .junk :: [],[.var [.v (.int .i64 0),.v (.int .i64 0),.v (.int .i64 0)],.var [.v (.int .i64 v8),.v (.int .i64 v9),.v (.int .i64 v10)]]⟩) (fun (v17,v18,v19)=>(.exit 0,⟨.junk :: .junk :: .fptr true [.list 1 (v1.map e_i),.v (.int .i64 v2),.list 2 (v3.map e_ii)] 0 :: .junk :: .lptr 0 0 0 :: .lptr 1 0 0 :: .junk :: .junk :: .junk :: .junk :: .junk :: .junk :: .junk :: .junk :: .junk :: .junk :: .junk :: .junk :: .junk :: .junk :: .junk :: .junk :: .junk :: .junk :: .junk :: .junk :: .junk :: .junk :: .junk :: .junk :: .junk :: .junk :: .junk :: .junk :: .junk :: .junk :: .junk :: .junk :: .junk :: .junk :: .junk :: .junk :: .junk :: .junk :: .junk :: .junk :: .junk :: .junk :: .junk :: .junk :: .junk :: .junk :: .junk :: .junk :: .junk :: .junk :: .junk :: .junk :: .junk :: .junk :: .junk :: .junk :: .junk :: .junk :: .junk :: .junk :: .junk :: .junk :: .junk :: .junk :: .junk :: .junk :: .junk :: .junk :: .junk :: .junk :: .junk :: .junk :: .junk :: .junk :: .junk :: .junk :: .junk :: .junk :: .junk :: .junk :: .junk :: .junk :: .junk :: .junk :: .junk :: .junk :: .junk :: .junk :: .junk :: .junk :: .junk :: [],[.var [.v (.int .i64 0),.v (.int .i64 0),.v (.int .i64 0)],.var [.v (.int .i64 v17),.v (.int .i64 v18),.v (.int .i64 v19)]]⟩)) ?_ ?_ ?_ ?_
    · rintro ⟨v8,v9,v10,v11⟩ v0 hr
      dsimp only [loop_plot_value_l1] at hr
      try dsimp only
      repeat (first|(with_reducible first|refine mv ?_|refine TO.nil ?_)|((with_reducible apply TO.bin);(repeat (focus (show _ = _;first|exact k2 rfl|(simp only [zz]<;>exact rfl))));(with_reducible apply TO.here))|((with_reducible apply TX.region);(focus (simp only []<;>exact rfl));(focus rfl);(try dsimp only)))
      rcases Bool.eq_false_or_eq_true ((decide (v11 < (v1.length : Int)))) with h5|h5
      · rw [if_pos h5] at hr
        repeat (first|with_reducible refine mv ?_|((with_reducible apply TO.mv);(repeat (focus (show _ = _;first|exact k2 rfl|(simp only [zz,h5]<;>exact rfl))));(with_reducible apply TO.here))|((with_reducible apply TX.region);(focus (simp only []<;>exact rfl));(focus rfl);(try dsimp only))|((with_reducible apply TX.cond_true);(focus rfl);(focus ((simp only [z1,h5];done)))))
        obtain ⟨v20,h6,hr⟩:=Option.bind_eq_some_iff.1 hr
        try dsimp only at hr
        have h6m:=tidx_map (f:=e_i) h6
        have h6l:=getI_lt h6
        try simp only [List.length_set] at h6l
        have h6a:=getI_at h6
        repeat (first|(with_reducible first|refine mv ?_|refine TO.nil ?_)|((with_reducible first|apply TO.ia|apply TO.ld|apply TO.asg|apply TO.fa|apply TO.mv);(repeat (focus (show _ = _;first|exact k2 rfl|(simp only [zz,y27,e_i,tindexAddr,Nat.zero_add,tload,rowOf,partT,tfieldAddr,h6m]<;>exact rfl)|exact rfl)));(with_reducible apply TO.here))|((with_reducible apply TX.region);(focus (simp only []<;>exact rfl));(focus rfl);(try dsimp only)))
        apply TO.pop1 (by first|rfl|(simp only [twant,z1,z7,h5,h6m,h6l,h6a]<;>rfl)) (pop_neg rfl)
        (repeat (focus (show _ = _;(simp only [zz]<;>exact rfl))))
        with_reducible apply TO.here
        repeat (((with_reducible first|apply TO.mv|apply TO.bin);(repeat (focus (show _ = _;first|exact k2 rfl|(simp only [zz]<;>exact rfl))));(with_reducible apply TO.here)))
        obtain ⟨⟨v21,v22,v23⟩,h7,hr⟩:=Option.bind_eq_some_iff.1 hr
        try dsimp only at hr
        apply TO.cal (by first|rfl|(simp only [twant,z1,z7,h5,h6m,h6l,h6a]<;>rfl)) rfl goFn81 (loop_circle_unit_spec h7) rfl rfl rfl
        (repeat (focus (show _ = _;(simp only [zz,Nat.reduceAdd,shift]<;>exact rfl))))
        with_reducible apply TO.here
        repeat (first|(with_reducible first|refine mv ?_|refine TO.nil ?_)|((with_reducible first|apply TO.al|apply TO.sv|apply TO.fa|apply TO.ld|apply TO.mv|apply TO.bin);(repeat (focus (show _ = _;first|exact k1 rfl|exact k2 rfl|(simp only [zz,y27,Nat.reduceAdd,tfieldAddr,tload,rowOf,partT]<;>exact rfl)|exact rfl)));(with_reducible apply TO.here))|((with_reducible apply TX.region);(focus (simp only []<;>exact rfl));(focus rfl);(try dsimp only))|((with_reducible first|apply TD.fa|apply TD.ld|apply TD.mv);(repeat (focus (show _ = _;first|exact k2 rfl|(simp only [zz,y27,Nat.reduceAdd,tfieldAddr,tload,rowOf,partT]<;>exact rfl)|exact rfl)));(with_reducible refine TD.here ?_))|((with_reducible apply TX.drawn);(focus decide +kernel);(focus (simp only []<;>exact rfl));(focus exact rfl);(try dsimp only)))
        obtain ⟨v24,h8,hr⟩:=Option.bind_eq_some_iff.1 hr
        try dsimp only at hr
        first|apply TD.cal (by first|rfl|(simp only [twant,z1,z7,h5,h6m,h6l,h6a]<;>rfl)) rfl goFn82 (loop_size_spec h8) rfl rfl rfl|apply TD.calw (by first|rfl|(simp only [twant,z1,z7,h5,h6m,h6l,h6a]<;>rfl)) rfl goFn82 (loop_size_spec h8) rfl rfl rfl rfl
        (repeat (focus (show _ = _;(simp only [zz,shift]<;>exact rfl))))
        with_reducible apply TD.here
        repeat (first|(with_reducible first|refine mv ?_|refine TO.nil ?_)|((with_reducible first|apply TO.bin|apply TO.mv);(repeat (focus (show _ = _;first|exact k2 rfl|(simp only [zz]<;>exact rfl))));(with_reducible apply TO.here))|((with_reducible apply TX.region);(focus (simp only []<;>exact rfl));(focus rfl);(try dsimp only))|with_reducible refine TD.nil ?_|((with_reducible first|apply TD.fa|apply TD.ld|apply TD.bin|apply TD.sv);(repeat (focus (show _ = _;first|exact k1 rfl|exact k2 rfl|(simp only [zz,y27,Nat.reduceAdd,tfieldAddr,tload,rowOf,partT]<;>exact rfl)|exact rfl)));(with_reducible refine TD.here ?_)))
        cases hr
        refine ⟨rfl,?_⟩
        exact Wk.ren [some 0,some 1] rfl (rv (rv .nil rfl) rfl) (by (repeat (first|exact RNs.nil|refine RNs.cons .junk ?_|refine RNs.cons (.keep rfl rfl) ?_|refine RNs.cons (.lptr rfl) ?_)))
      · rw [if_neg (by rw [h5];exact Bool.false_ne_true)] at hr
        repeat (first|with_reducible refine mv ?_|((with_reducible apply TX.cond_false);(focus rfl);(focus ((simp only [z1,h5];done)))))
        cases hr
        refine ⟨rfl,?_⟩
        exact Wk.ren [some 0,some 1] rfl (rv (rv .nil rfl) rfl) (by (repeat (first|exact RNs.nil|refine RNs.cons .junk ?_|refine RNs.cons (.keep rfl rfl) ?_|refine RNs.cons (.lptr rfl) ?_)))
    · intro e h;cases h
    · try dsimp only
      repeat (first|with_reducible refine mv ?_|((with_reducible apply TO.mv);(repeat (focus (show _ = _;first|exact k2 rfl|(simp only [zz]<;>exact rfl))));(with_reducible apply TO.here))|((with_reducible apply TX.region);(focus (simp only []<;>exact rfl));(focus rfl);(try dsimp only))|with_reducible refine TD.nil ?_|((with_reducible first|apply TD.fa|apply TD.ld|apply TD.bin|apply TD.asg);(repeat (focus (show _ = _;first|exact k2 rfl|(simp only [zz,y27,Nat.reduceAdd,tfieldAddr,tload,rowOf,partT]<;>exact rfl)|exact rfl)));(with_reducible refine TD.here ?_))|((with_reducible apply TX.drawn);(focus decide +kernel);(focus (simp only []<;>exact rfl));(focus exact rfl);(try dsimp only)))
      obtain ⟨v28,h10,hr⟩:=Option.bind_eq_some_iff.1 hr
      try dsimp only at hr
      apply TO.cal (by first|rfl|(simp only [twant,z1,z7]<;>rfl)) rfl goFn83 (loop_nearest_spec h10) rfl rfl rfl
      (repeat (focus (show _ = _;(simp only [zz,shift]<;>exact rfl))))
      with_reducible apply TO.here
      repeat (((with_reducible apply TO.mv);(repeat (focus (show _ = _;first|exact k2 rfl|(simp only [zz]<;>exact rfl))));(with_reducible apply TO.here)))
      obtain ⟨v29,h11,hr⟩:=Option.bind_eq_some_iff.1 hr
      try dsimp only at hr
      apply TO.cal (by first|rfl|(simp only [twant,z1,z7]<;>rfl)) rfl goFn83 (loop_nearest_spec h11) rfl rfl rfl
      (repeat (focus (show _ = _;(simp only [zz,shift]<;>exact rfl))))
      with_reducible apply TO.here
      repeat (((with_reducible apply TO.mv);(repeat (focus (show _ = _;first|exact k2 rfl|(simp only [zz]<;>exact rfl))));(with_reducible apply TO.here)))
      obtain ⟨v30,h12,hr⟩:=Option.bind_eq_some_iff.1 hr
      try dsimp only at hr
      apply TO.cal (by first|rfl|(simp only [twant,z1,z7]<;>rfl)) rfl goFn84 (loop_ceiling_spec h12) rfl rfl rfl
      (repeat (focus (show _ = _;(simp only [zz,shift]<;>exact rfl))))
      with_reducible apply TO.here
      repeat (first|(with_reducible first|refine mv ?_|refine TO.nil ?_)|((with_reducible first|apply TO.bld|apply TO.al|apply TO.sv|apply TO.mv|apply TO.bin);(repeat (focus (show _ = _;first|exact k1 rfl|exact k2 rfl|(simp only [zz,y27,Nat.reduceAdd,Nat.reduceLeDiff,tbuild,tfill]<;>exact rfl))));(with_reducible apply TO.here))|((with_reducible apply TX.region);(focus (simp only []<;>exact rfl));(focus rfl);(try dsimp only)))
      rcases Bool.eq_false_or_eq_true ((decide (((IntKind.i64.wrap (v2 * v25)).tmod 16384000) ≠ 0))) with h13|h13
      · rw [if_pos h13] at hr
        repeat (first|(with_reducible first|refine mv ?_|refine TO.nil ?_)|((with_reducible first|apply TO.pk|apply TO.fa|apply TO.ld|apply TO.bin|apply TO.sv);(repeat (focus (show _ = _;first|exact k1 rfl|exact k2 rfl|(simp only [zz,y27,Nat.reduceAdd,Nat.reduceLeDiff,tfieldAddr,tload,rowOf,partT]<;>exact rfl)|exact rfl)));(with_reducible apply TO.here))|((with_reducible apply TO.skip1);(repeat (focus (show _ = _;(simp only [zz,twant,zp,zs,h13]<;>exact rfl))));(with_reducible apply TO.here))|((with_reducible apply TX.region);(focus (simp only []<;>exact rfl));(focus rfl);(try dsimp only))|((with_reducible apply TX.cond_true);(focus rfl);(focus (rfl))))
        cases hr
        refine ⟨.inr rfl,_,(by simp only [];exact rfl),?_⟩
        exact Wk.ren [] rfl .nil (by (repeat (first|exact RNs.nil|refine RNs.cons (.keep rfl rfl) ?_)))
      · rw [if_neg (by rw [h13];exact Bool.false_ne_true)] at hr
        repeat (first|(with_reducible first|refine mv ?_|refine TO.nil ?_)|((with_reducible first|apply TO.mv|apply TO.bin|apply TO.pk);(repeat (focus (show _ = _;first|exact k2 rfl|(simp only [zz,h13]<;>exact rfl))));(with_reducible apply TO.here)))
        rcases Bool.eq_false_or_eq_true ((decide (((IntKind.i64.wrap (v2 * v26)).tmod 16384000) ≠ 0))) with h14|h14
        · rw [if_pos h14] at hr
          repeat (first|(with_reducible first|refine mv ?_|refine TO.nil ?_)|((with_reducible first|apply TO.fa|apply TO.ld|apply TO.bin|apply TO.sv);(repeat (focus (show _ = _;first|exact k1 rfl|exact k2 rfl|(simp only [zz,y27,Nat.reduceAdd,Nat.reduceLeDiff,tfieldAddr,tload,rowOf,partT,h14]<;>exact rfl)|exact rfl)));(with_reducible apply TO.here))|((with_reducible apply TX.region);(focus (simp only []<;>exact rfl));(focus rfl);(try dsimp only))|((with_reducible apply TX.cond_true);(focus rfl);(focus ((simp only [z1,h14];done)))))
          cases hr
          refine ⟨.inr rfl,_,(by simp only [];exact rfl),?_⟩
          exact Wk.ren [] rfl .nil (by (repeat (first|exact RNs.nil|refine RNs.cons (.keep rfl rfl) ?_)))
        · rw [if_neg (by rw [h14];exact Bool.false_ne_true)] at hr
          repeat (first|(with_reducible first|refine mv ?_|refine TO.nil ?_)|((with_reducible first|apply TO.ld|apply TO.sv);(repeat (focus (show _ = _;first|exact k1 rfl|exact k2 rfl|(simp only [zz,y27,Nat.reduceAdd,Nat.reduceLeDiff,tload,rowOf,partT,h14]<;>exact rfl)|exact rfl)));(with_reducible apply TO.here))|((with_reducible apply TX.region);(focus (simp only []<;>exact rfl));(focus rfl);(try dsimp only))|((with_reducible apply TX.cond_false);(focus rfl);(focus ((simp only [z1,h14];done)))))
          cases hr
          refine ⟨.inr rfl,_,(by simp only [];exact rfl),?_⟩
          exact Wk.ren [] rfl .nil (by (repeat (first|exact RNs.nil|refine RNs.cons (.keep rfl rfl) ?_)))
    · try dsimp only
      exact wr [some 0,some 1] rfl (rv (rv .nil rfl) rfl)
  rfl

end Go.Rex

namespace Go.Rex
open Go.Proofs
open Go Go.Rex Go.RowKit
set_option maxRecDepth 100000
set_option maxHeartbeats 200000
def y28:=an @ag22 <| an @ag3 <| an @cs3 <| an @fd24_0 <| an @fd24_1 <| an @fd86_0 <| an @fd90_0 <| an @ok3 <| an @so22 <| @wi64_0a1
theorem loop_plot_sway_spec {v1 : (List Int)} {v2 : Int} {v3 : (List (Int × Int))} {v4 : Int} {v5 : Int} (hr : loop_plot_sway v1 v2 v3 v4 = some (v5)) : Spec (lim Try.prog) 87 [.agg [.list 1 (v1.map e_i),.v (.int .i64 v2),.list 2 (v3.map e_ii)],.v (.int .i64 v4)] ⟨[.v (.int .i64 v5)],[]⟩:=by
  unfold loop_plot_sway at hr
  apply Spec.fn Try.func87 rfl
  focus (simp [Try.f87]<;>exact rfl)
  focus
    repeat (first|(with_reducible first|refine mv ?_|refine TO.nil ?_)|((with_reducible first|apply TO.bf|apply TO.asg|apply TO.fa|apply TO.ld|apply TO.len|apply TO.mv);(repeat (focus (show _ = _;first|exact k1 rfl|exact k2 rfl|(simp only [zz,y28,Nat.reduceAdd,tfieldAddr,tload,rowOf,partT,tlen]<;>exact rfl)|exact rfl)));(with_reducible apply TO.here))|((with_reducible apply TX.region);(focus (simp only []<;>exact rfl));(focus rfl);(try dsimp only)))
    obtain ⟨v13,h7,hr⟩:=Option.bind_eq_some_iff.1 hr
    try dsimp only at hr
    refine TX.loopE (step:=loop_plot_sway_l1 v1) (x:=(0,0)) h7 (fun (v6,v7)=>⟨.junk :: .v (.int .i64 v4) :: .fptr true [.list 1 (v1.map e_i),.v (.int .i64 v2),.list 2 (v3.map e_ii)] 0 :: .junk :: .junk :: .v (.int .i64 v6) :: .junk :: .junk :: .junk :: .junk :: .junk :: .list 1 (v1.map e_i) :: .v (.int .i64 (v1.length : Int)) :: .v (.int .i64 v7) :: .junk :: .junk :: .junk :: .junk :: .junk :: .junk :: .junk :: .junk :: .junk :: .junk :: .junk :: .junk :: .junk :: .junk :: .junk :: .junk :: .junk :: .junk :: .junk :: .junk :: .junk :: [],[]⟩) (fun v10=>(.exit 0,⟨.junk :: .v (.int .i64 v4) :: .fptr true [.list 1 (v1.map e_i),.v (.int .i64 v2),.list 2 (v3.map e_ii)] 0 :: .junk :: .junk :: .v (.int .i64 v10) :: .junk :: .junk :: .junk :: .junk :: .junk :: .junk :: .junk :: .junk :: .junk :: .junk :: .junk :: .junk :: .junk :: .junk :: .junk :: .junk :: .junk :: .junk :: .junk :: .junk :: .junk :: .junk :: .junk :: .junk :: .junk :: .junk :: .junk :: .junk :: .junk :: [],[]⟩)) ?_ ?_ ?_ ?_
    · rintro ⟨v6,v7⟩ v0 hr
      dsimp only [loop_plot_sway_l1] at hr
      try dsimp only
      repeat (first|(with_reducible first|refine mv ?_|refine TO.nil ?_)|((with_reducible apply TO.bin);(repeat (focus (show _ = _;first|exact k2 rfl|(simp only [zz]<;>exact rfl))));(with_reducible apply TO.here))|((with_reducible apply TX.region);(focus (simp only []<;>exact rfl));(focus rfl);(try dsimp only)))
      rcases Bool.eq_false_or_eq_true ((decide (v7 < (v1.length : Int)))) with h4|h4
      · rw [if_pos h4] at hr
        repeat (first|with_reducible refine mv ?_|((with_reducible apply TO.mv);(repeat (focus (show _ = _;first|exact k2 rfl|(simp only [zz,h4]<;>exact rfl))));(with_reducible apply TO.here))|((with_reducible apply TX.region);(focus (simp only []<;>exact rfl));(focus rfl);(try dsimp only))|((with_reducible apply TX.cond_true);(focus rfl);(focus ((simp only [z1,h4];done)))))
        obtain ⟨v11,h5,hr⟩:=Option.bind_eq_some_iff.1 hr
        try dsimp only at hr
        have h5m:=tidx_map (f:=e_i) h5
        have h5l:=getI_lt h5
        try simp only [List.length_set] at h5l
        have h5a:=getI_at h5
        repeat (first|(with_reducible first|refine mv ?_|refine TO.nil ?_)|((with_reducible first|apply TO.ia|apply TO.ld|apply TO.asg|apply TO.mv);(repeat (focus (show _ = _;first|exact k2 rfl|(simp only [zz,y28,e_i,tindexAddr,tload,rowOf,partT,h5m]<;>exact rfl)|exact rfl)));(with_reducible apply TO.here))|((with_reducible apply TX.region);(focus (simp only []<;>exact rfl));(focus rfl);(try dsimp only)))
        obtain ⟨v12,h6,hr⟩:=Option.bind_eq_some_iff.1 hr
        try dsimp only at hr
        apply TO.cal (by first|rfl|(simp only [twant,z1,z7,h4,h5m,h5l,h5a]<;>rfl)) rfl goFn82 (loop_size_spec h6) rfl rfl rfl
        (repeat (focus (show _ = _;(simp only [zz,shift]<;>exact rfl))))
        with_reducible apply TO.here
        repeat (first|(with_reducible first|refine mv ?_|refine TO.nil ?_)|((with_reducible first|apply TO.bin|apply TO.asg|apply TO.mv);(repeat (focus (show _ = _;first|exact k2 rfl|(simp only [zz]<;>exact rfl))));(with_reducible apply TO.here))|((with_reducible apply TX.region);(focus (simp only []<;>exact rfl));(focus rfl);(try dsimp only)))
        cases hr
        refine ⟨rfl,?_⟩
        exact Wk.ren [] rfl .nil (by (repeat (first|exact RNs.nil|refine RNs.cons .junk ?_|refine RNs.cons (.keep rfl rfl) ?_)))
      · rw [if_neg (by rw [h4];exact Bool.false_ne_true)] at hr
        repeat (first|with_reducible refine mv ?_|((with_reducible apply TX.cond_false);(focus rfl);(focus ((simp only [z1,h4];done)))))
        cases hr
        refine ⟨rfl,?_⟩
        exact Wk.ren [] rfl .nil (by (repeat (first|exact RNs.nil|refine RNs.cons .junk ?_|refine RNs.cons (.keep rfl rfl) ?_)))
    · intro e h;cases h
    · try dsimp only
      repeat (first|with_reducible refine mv ?_|((with_reducible first|apply TO.mv|apply TO.fa|apply TO.ld|apply TO.bin);(repeat (focus (show _ = _;first|exact k2 rfl|(simp only [zz,y28,Nat.reduceAdd,tfieldAddr,tload,rowOf,partT]<;>exact rfl)|exact rfl)));(with_reducible apply TO.here))|((with_reducible apply TX.region);(focus (simp only []<;>exact rfl));(focus rfl);(try dsimp only)))
      obtain ⟨v14,h8,hr⟩:=Option.bind_eq_some_iff.1 hr
      try dsimp only at hr
      apply TO.cal (by first|rfl|(simp only [twant,z1,z7]<;>rfl)) rfl goFn84 (loop_ceiling_spec h8) rfl rfl rfl
      (repeat (focus (show _ = _;(simp only [zz,shift]<;>exact rfl))))
      with_reducible apply TO.here
      repeat (first|(with_reducible first|refine mv ?_|refine TO.nil ?_)|((with_reducible apply TO.asg);(repeat (focus (show _ = _;first|exact k2 rfl|(simp only [zz]<;>exact rfl))));(with_reducible apply TO.here)))
      cases hr
      refine ⟨.inr rfl,_,(by simp only [];exact rfl),?_⟩
      exact wr [] rfl .nil
    · try dsimp only
      exact wr [] rfl .nil
  rfl

end Go.Rex

namespace Go.Rex
open Go.Proofs
open Go Go.Rex Go.RowKit
set_option maxRecDepth 100000
set_option maxHeartbeats 200000
def y29:=an @ag26 <| an @ag3 <| an @ag30 <| an @ag90 <| an @cs26 <| an @cs3 <| an @cs30 <| an @cs90 <| an @fd26_1 <| an @fd30_2 <| an @ok26 <| an @ok3 <| an @ok30 <| an @ok90 <| @zc30
theorem loop_plot_ball_spec {v1 : (List Int)} {v2 : Int} {v3 : (List (Int × Int))} {v4 : Int} {v5 : Int} {v6 : Int} {v7 : Int} {v8 : Int} (hr : loop_plot_ball v1 v2 v3 v4 v5 = some (v6,v7,v8)) : Spec (lim Try.prog) 54 [.agg [.list 1 (v1.map e_i),.v (.int .i64 v2),.list 2 (v3.map e_ii)],.agg [.v (.int .i64 v4),.v (.int .i64 v5)]] ⟨[.agg [.v (.int .i64 v6),.v (.int .i64 v7),.v (.int .i64 v8)]],[]⟩:=by
  unfold loop_plot_ball at hr
  apply Spec.fn Try.func54 rfl
  focus (simp [Try.f54]<;>exact rfl)
  focus
    repeat (first|(with_reducible first|refine mv ?_|refine TO.nil ?_)|((with_reducible first|apply TO.bf|apply TO.al|apply TO.ld);(repeat (focus (show _ = _;first|exact k1 rfl|exact k2 rfl|(simp only [zz,y29,Nat.reduceAdd,Nat.reduceLeDiff,tload,rowOf,partT]<;>exact rfl)|exact rfl)));(with_reducible apply TO.here))|((with_reducible apply TX.region);(focus (simp only []<;>exact rfl));(focus rfl);(try dsimp only)))
    obtain ⟨v9,h1,hr⟩:=Option.bind_eq_some_iff.1 hr
    try dsimp only at hr
    apply TO.cal (by first|rfl|(simp only [twant,z1,z7]<;>rfl)) rfl goFn86 (loop_middleOf_spec h1) rfl rfl rfl
    (repeat (focus (show _ = _;(simp only [zz,shift]<;>exact rfl))))
    with_reducible apply TO.here
    repeat (first|(with_reducible first|refine mv ?_|refine TO.nil ?_)|((with_reducible first|apply TO.asg|apply TO.ld|apply TO.mv);(repeat (focus (show _ = _;first|exact k2 rfl|(simp only [zz,y29,Nat.reduceAdd,Nat.reduceLeDiff,tload,rowOf,partT]<;>exact rfl)|exact rfl)));(with_reducible apply TO.here))|((with_reducible apply TX.region);(focus (simp only []<;>exact rfl));(focus rfl);(try dsimp only)))
    obtain ⟨⟨v10,v11,v12⟩,h2,hr⟩:=Option.bind_eq_some_iff.1 hr
    try dsimp only at hr
    apply TO.cal (by first|rfl|(simp only [twant,z1,z7]<;>rfl)) rfl goFn51 (loop_plot_value_spec h2) rfl rfl rfl
    (repeat (focus (show _ = _;(simp only [zz,Nat.reduceAdd,shift]<;>exact rfl))))
    with_reducible apply TO.here
    repeat (first|(with_reducible first|refine mv ?_|refine TO.nil ?_)|((with_reducible first|apply TO.al|apply TO.sv);(repeat (focus (show _ = _;first|exact k1 rfl|exact k2 rfl|(simp only [zz,y29,Nat.reduceAdd]<;>exact rfl))));(with_reducible apply TO.here))|((with_reducible first|apply TD.fa|apply TD.ld|apply TD.mv|apply TD.bin);(repeat (focus (show _ = _;first|exact k2 rfl|(simp only [zz,y29,Nat.reduceAdd,Nat.reduceLeDiff,tfieldAddr,tload,rowOf,partT]<;>exact rfl)|exact rfl)));(with_reducible refine TD.here ?_))|((with_reducible apply TX.drawn);(focus decide +kernel);(focus (simp only []<;>exact rfl));(focus exact rfl);(try dsimp only)))
    obtain ⟨v13,h3,hr⟩:=Option.bind_eq_some_iff.1 hr
    try dsimp only at hr
    first|apply TD.cal (by first|rfl|(simp only [twant,z1,z7]<;>rfl)) rfl goFn87 (loop_plot_sway_spec h3) rfl rfl rfl|apply TD.calw (by first|rfl|(simp only [twant,z1,z7]<;>rfl)) rfl goFn87 (loop_plot_sway_spec h3) rfl rfl rfl rfl
    (repeat (focus (show _ = _;(simp only [zz,shift]<;>exact rfl))))
    with_reducible apply TD.here
    repeat (first|(with_reducible first|refine mv ?_|refine TO.nil ?_)|((with_reducible first|apply TO.ld|apply TO.sv);(repeat (focus (show _ = _;first|exact k1 rfl|exact k2 rfl|(simp only [zz,y29,Nat.reduceAdd,Nat.reduceLeDiff,tload,rowOf,partT]<;>exact rfl)|exact rfl)));(with_reducible apply TO.here))|((with_reducible apply TX.region);(focus (simp only []<;>exact rfl));(focus rfl);(try dsimp only))|with_reducible refine TD.nil ?_|((with_reducible first|apply TD.bin|apply TD.fa|apply TD.sv);(repeat (focus (show _ = _;first|exact k1 rfl|exact k2 rfl|(simp only [zz,y29,Nat.reduceAdd,tfieldAddr]<;>exact rfl))));(with_reducible refine TD.here ?_)))
    cases hr
    refine ⟨.inr rfl,_,(by simp only [];exact rfl),?_⟩
    exact wr [] rfl .nil
  rfl

end Go.Rex

namespace Go.Rex
open Go.Proofs
open Go Go.Rex Go.RowKit
set_option maxRecDepth 100000
set_option maxHeartbeats 200000
theorem loop_isSmall_spec {v1 : Int} {v2 : Int} {v3 : Bool} (hr : loop_isSmall v1 v2 = some (v3)) : Spec (lim Try.prog) 123 [.v (.int .i64 v1),.v (.int .i64 v2)] ⟨[.v (.bool v3)],[]⟩:=by
  unfold loop_isSmall at hr
  apply Spec.fn Try.func123 rfl
  focus (simp [Try.f123]<;>exact rfl)
  focus
    repeat (first|(with_reducible first|refine mv ?_|refine TO.nil ?_)|((with_reducible first|apply TO.asg|apply TO.mv);(repeat (focus (show _ = _;first|exact k2 rfl|(simp only [zz]<;>exact rfl))));(with_reducible apply TO.here))|((with_reducible apply TX.region);(focus (simp only []<;>exact rfl));(focus rfl);(try dsimp only)))
    apply TO.pop1 (by first|rfl|(simp only [twant,z1,z7]<;>rfl)) (pop_neg rfl)
    (repeat (focus (show _ = _;(simp only [zz]<;>exact rfl))))
    with_reducible apply TO.here
    repeat (((with_reducible first|apply TO.mv|apply TO.bin);(repeat (focus (show _ = _;first|exact k2 rfl|(simp only [zz]<;>exact rfl))));(with_reducible apply TO.here)))
    rcases Bool.eq_false_or_eq_true ((decide ((IntKind.i64.wrap (0 - v2)) ≤ v1))) with h1|h1
    · rw [if_pos h1] at hr
      repeat (first|(with_reducible first|refine mv ?_|refine TO.nil ?_)|((with_reducible first|apply TO.mv|apply TO.bin|apply TO.pk|apply TO.asg);(repeat (focus (show _ = _;first|exact k2 rfl|(simp only [zz,h1]<;>exact rfl))));(with_reducible apply TO.here)))
      cases hr
      refine ⟨.inr rfl,_,(by simp only [];exact rfl),?_⟩
      exact Wk.ren [] rfl .nil (by (repeat (first|exact RNs.nil|refine RNs.cons (.keep rfl rfl) ?_)))
    · rw [if_neg (by rw [h1];exact Bool.false_ne_true)] at hr
      repeat (first|(with_reducible first|refine mv ?_|refine TO.nil ?_)|((with_reducible first|apply TO.pk|apply TO.asg);(repeat (focus (show _ = _;first|exact k2 rfl|(simp only [zz]<;>exact rfl))));(with_reducible apply TO.here))|((with_reducible apply TO.skip1);(repeat (focus (show _ = _;(simp only [zz,twant,zp,zs,h1]<;>exact rfl))));(with_reducible apply TO.here)))
      cases hr
      refine ⟨.inr rfl,_,(by simp only [];exact rfl),?_⟩
      exact Wk.ren [] rfl .nil (by (repeat (first|exact RNs.nil|refine RNs.cons (.keep rfl rfl) ?_)))
  rfl

end Go.Rex

namespace Go.Rex
open Go.Proofs
open Go Go.Rex Go.RowKit
set_option maxRecDepth 100000
set_option maxHeartbeats 200000
theorem cmp_isNaN_int_spec {v1 : Int} {v2 : Bool} (hr : cmp_isNaN_int v1 = some (v2)) : Spec (lim Try.prog) 132 [.v (.int .i64 v1)] ⟨[.v (.bool v2)],[]⟩:=by
  unfold cmp_isNaN_int at hr
  apply Spec.fn Try.func132 rfl
  focus (simp [Try.f132]<;>exact rfl)
  focus
    repeat (first|(with_reducible first|refine mv ?_|refine TO.nil ?_)|((with_reducible first|apply TO.asg|apply TO.mv|apply TO.bin);(repeat (focus (show _ = _;first|exact k2 rfl|(simp only [zz]<;>exact rfl))));(with_reducible apply TO.here))|((with_reducible apply TX.region);(focus (simp only []<;>exact rfl));(focus rfl);(try dsimp only)))
    cases hr
    refine ⟨.inr rfl,_,(by simp only [];exact rfl),?_⟩
    exact wr [] rfl .nil
  rfl

end Go.Rex

namespace Go.Rex
open Go.Proofs
open Go Go.Rex Go.RowKit
set_option maxRecDepth 100000
set_option maxHeartbeats 200000
theorem cmp_Compare_int_spec {v1 : Int} {v2 : Int} {v3 : Int} (hr : cmp_Compare_int v1 v2 = some (v3)) : Spec (lim Try.prog) 124 [.v (.int .i64 v1),.v (.int .i64 v2)] ⟨[.v (.int .i64 v3)],[]⟩:=by
  unfold cmp_Compare_int at hr
  apply Spec.fn Try.func124 rfl
  focus (simp [Try.f124]<;>exact rfl)
  focus
    repeat (first|(with_reducible first|refine mv ?_|refine TO.nil ?_)|((with_reducible first|apply TO.asg|apply TO.mv);(repeat (focus (show _ = _;first|exact k2 rfl|(simp only [zz]<;>exact rfl))));(with_reducible apply TO.here))|((with_reducible apply TX.region);(focus (simp only []<;>exact rfl));(focus rfl);(try dsimp only)))
    obtain ⟨v4,h1,hr⟩:=Option.bind_eq_some_iff.1 hr
    try dsimp only at hr
    apply TO.cal (by first|rfl|(simp only [twant,z1,z7]<;>rfl)) rfl goFn132 (cmp_isNaN_int_spec h1) rfl rfl rfl
    (repeat (focus (show _ = _;(simp only [zz,shift]<;>exact rfl))))
    with_reducible apply TO.here
    repeat (first|(with_reducible first|refine mv ?_|refine TO.nil ?_)|((with_reducible first|apply TO.asg|apply TO.mv);(repeat (focus (show _ = _;first|exact k2 rfl|(simp only [zz]<;>exact rfl))));(with_reducible apply TO.here))|((with_reducible apply TX.region);(focus (simp only []<;>exact rfl));(focus rfl);(try dsimp only)))
    obtain ⟨v5,h2,hr⟩:=Option.bind_eq_some_iff.1 hr
    try dsimp only at hr
    apply TO.cal (by first|rfl|(simp only [twant,z1,z7]<;>rfl)) rfl goFn132 (cmp_isNaN_int_spec h2) rfl rfl rfl
    (repeat (focus (show _ = _;(simp only [zz,shift]<;>exact rfl))))
    with_reducible apply TO.here
    repeat (first|(with_reducible first|refine mv ?_|refine TO.nil ?_)|((with_reducible first|apply TO.asg|apply TO.mv);(repeat (focus (show _ = _;first|exact k2 rfl|(simp only [zz]<;>exact rfl))));(with_reducible apply TO.here))|((with_reducible apply TX.region);(focus (simp only []<;>exact rfl));(focus rfl);(try dsimp only)))
    rcases Bool.eq_false_or_eq_true (v4) with h3|h3
    · rw [if_pos h3] at hr
      repeat (first|(with_reducible first|refine mv ?_|refine TO.nil ?_)|((with_reducible apply TO.mv);(repeat (focus (show _ = _;first|exact k2 rfl|(simp only [zz,h3]<;>exact rfl))));(with_reducible apply TO.here))|((with_reducible apply TX.region);(focus (simp only []<;>exact rfl));(focus rfl);(try dsimp only))|((with_reducible apply TX.cond_true);(focus rfl);(focus ((simp only [z1,h3];done)))))
      rcases Bool.eq_false_or_eq_true (v5) with h4|h4
      · rw [if_pos h4] at hr
        repeat (first|(with_reducible first|refine mv ?_|refine TO.nil ?_)|((with_reducible apply TO.asg);(repeat (focus (show _ = _;first|exact k2 rfl|(simp only [zz,h4]<;>exact rfl))));(with_reducible apply TO.here))|((with_reducible apply TX.region);(focus (simp only []<;>exact rfl));(focus rfl);(try dsimp only))|((with_reducible apply TX.cond_true);(focus rfl);(focus ((simp only [z1,h4];done)))))
        cases hr
        refine ⟨.inr rfl,_,(by simp only [];exact rfl),?_⟩
        exact Wk.ren [] rfl .nil (by (repeat (first|exact RNs.nil|refine RNs.cons (.keep rfl rfl) ?_)))
      · rw [if_neg (by rw [h4];exact Bool.false_ne_true)] at hr
        repeat (first|(with_reducible first|refine mv ?_|refine TO.nil ?_)|((with_reducible apply TO.asg);(repeat (focus (show _ = _;first|exact k2 rfl|(simp only [zz,h4]<;>exact rfl))));(with_reducible apply TO.here))|((with_reducible apply TX.region);(focus (simp only []<;>exact rfl));(focus rfl);(try dsimp only))|((with_reducible apply TX.cond_false);(focus rfl);(focus ((simp only [z1,h4];done)))))
        cases hr
        refine ⟨.inr rfl,_,(by simp only [];exact rfl),?_⟩
        exact Wk.ren [] rfl .nil (by (repeat (first|exact RNs.nil|refine RNs.cons (.keep rfl rfl) ?_)))
    · rw [if_neg (by rw [h3];exact Bool.false_ne_true)] at hr
      repeat (first|(with_reducible first|refine mv ?_|refine TO.nil ?_)|((with_reducible apply TO.mv);(repeat (focus (show _ = _;first|exact k2 rfl|(simp only [zz,h3]<;>exact rfl))));(with_reducible apply TO.here))|((with_reducible apply TX.region);(focus (simp only []<;>exact rfl));(focus rfl);(try dsimp only))|((with_reducible apply TX.cond_false);(focus rfl);(focus ((simp only [z1,h3];done)))))
      rcases Bool.eq_false_or_eq_true (v5) with h5|h5
      · rw [if_pos h5] at hr
        repeat (first|(with_reducible first|refine mv ?_|refine TO.nil ?_)|((with_reducible apply TO.asg);(repeat (focus (show _ = _;first|exact k2 rfl|(simp only [zz,h5]<;>exact rfl))));(with_reducible apply TO.here))|((with_reducible apply TX.region);(focus (simp only []<;>exact rfl));(focus rfl);(try dsimp only))|((with_reducible apply TX.cond_true);(focus rfl);(focus ((simp only [z1,h5];done)))))
        cases hr
        refine ⟨.inr rfl,_,(by simp only [];exact rfl),?_⟩
        exact Wk.ren [] rfl .nil (by (repeat (first|exact RNs.nil|refine RNs.cons (.keep rfl rfl) ?_)))
      · rw [if_neg (by rw [h5];exact Bool.false_ne_true)] at hr
        repeat (first|(with_reducible first|refine mv ?_|refine TO.nil ?_)|((with_reducible first|apply TO.mv|apply TO.bin);(repeat (focus (show _ = _;first|exact k2 rfl|(simp only [zz,h5]<;>exact rfl))));(with_reducible apply TO.here))|((with_reducible apply TX.region);(focus (simp only []<;>exact rfl));(focus rfl);(try dsimp only))|((with_reducible apply TX.cond_false);(focus rfl);(focus ((simp only [z1,h5];done)))))
        rcases Bool.eq_false_or_eq_true ((decide (v1 < v2))) with h6|h6
        · rw [if_pos h6] at hr
          repeat (first|(with_reducible first|refine mv ?_|refine TO.nil ?_)|((with_reducible apply TO.asg);(repeat (focus (show _ = _;first|exact k2 rfl|(simp only [zz,h6]<;>exact rfl))));(with_reducible apply TO.here))|((with_reducible apply TX.region);(focus (simp only []<;>exact rfl));(focus rfl);(try dsimp only))|((with_reducible apply TX.cond_true);(focus rfl);(focus ((simp only [z1,h6];done)))))
          cases hr
          refine ⟨.inr rfl,_,(by simp only [];exact rfl),?_⟩
          exact Wk.ren [] rfl .nil (by (repeat (first|exact RNs.nil|refine RNs.cons (.keep rfl rfl) ?_)))
        · rw [if_neg (by rw [h6];exact Bool.false_ne_true)] at hr
          repeat (first|(with_reducible first|refine mv ?_|refine TO.nil ?_)|((with_reducible first|apply TO.mv|apply TO.bin);(repeat (focus (show _ = _;first|exact k2 rfl|(simp only [zz,h6]<;>exact rfl))));(with_reducible apply TO.here))|((with_reducible apply TX.region);(focus (simp only []<;>exact rfl));(focus rfl);(try dsimp only))|((with_reducible apply TX.cond_false);(focus rfl);(focus ((simp only [z1,h6];done)))))
          rcases Bool.eq_false_or_eq_true ((decide (v1 > v2))) with h7|h7
          · rw [if_pos h7] at hr
            repeat (first|(with_reducible first|refine mv ?_|refine TO.nil ?_)|((with_reducible apply TO.asg);(repeat (focus (show _ = _;first|exact k2 rfl|(simp only [zz,h7]<;>exact rfl))));(with_reducible apply TO.here))|((with_reducible apply TX.region);(focus (simp only []<;>exact rfl));(focus rfl);(try dsimp only))|((with_reducible apply TX.cond_true);(focus rfl);(focus ((simp only [z1,h7];done)))))
            cases hr
            refine ⟨.inr rfl,_,(by simp only [];exact rfl),?_⟩
            exact Wk.ren [] rfl .nil (by (repeat (first|exact RNs.nil|refine RNs.cons (.keep rfl rfl) ?_)))
          · rw [if_neg (by rw [h7];exact Bool.false_ne_true)] at hr
            repeat (first|(with_reducible first|refine mv ?_|refine TO.nil ?_)|((with_reducible apply TO.asg);(repeat (focus (show _ = _;first|exact k2 rfl|(simp only [zz,h7]<;>exact rfl))));(with_reducible apply TO.here))|((with_reducible apply TX.region);(focus (simp only []<;>exact rfl));(focus rfl);(try dsimp only))|((with_reducible apply TX.cond_false);(focus rfl);(focus ((simp only [z1,h7];done)))))
            cases hr
            refine ⟨.inr rfl,_,(by simp only [];exact rfl),?_⟩
            exact Wk.ren [] rfl .nil (by (repeat (first|exact RNs.nil|refine RNs.cons (.keep rfl rfl) ?_)))
  rfl

end Go.Rex

namespace Go.Rex
open Go.Proofs
open Go Go.Rex Go.RowKit
set_option maxRecDepth 100000
set_option maxHeartbeats 200000
def y30:=an @ag3 <| an @fd30_1 <| @fd30_2
theorem loop_side_spec {v1 : Int} {v2 : Int} {v3 : Int} {v4 : Int} (hr : loop_side v1 v2 v3 = some (v4)) : Spec (lim Try.prog) 97 [.agg [.v (.int .i64 v1),.v (.int .i64 v2),.v (.int .i64 v3)]] ⟨[.v (.int .i64 v4)],[]⟩:=by
  unfold loop_side at hr
  apply Spec.fn Try.func97 rfl
  focus (simp [Try.f97]<;>exact rfl)
  focus
    repeat (first|(with_reducible first|refine mv ?_|refine TO.nil ?_)|((with_reducible first|apply TO.bf|apply TO.asg);(repeat (focus (show _ = _;first|exact k1 rfl|exact k2 rfl|(simp only [zz]<;>exact rfl)|exact rfl)));(with_reducible apply TO.here))|((with_reducible apply TX.region);(focus (simp only []<;>exact rfl));(focus rfl);(try dsimp only))|((with_reducible first|apply TD.fa|apply TD.ld);(repeat (focus (show _ = _;first|exact k2 rfl|(simp only [zz,y30,Nat.reduceAdd,tfieldAddr,tload,rowOf,partT]<;>exact rfl)|exact rfl)));(with_reducible refine TD.here ?_))|((with_reducible apply TX.drawn);(focus decide +kernel);(focus (simp only []<;>exact rfl));(focus exact rfl);(try dsimp only)))
    obtain ⟨v5,h1,hr⟩:=Option.bind_eq_some_iff.1 hr
    try dsimp only at hr
    first|apply TD.cal (by first|rfl|(simp only [twant,z1,z7]<;>rfl)) rfl goFn82 (loop_size_spec h1) rfl rfl rfl|apply TD.calw (by first|rfl|(simp only [twant,z1,z7]<;>rfl)) rfl goFn82 (loop_size_spec h1) rfl rfl rfl rfl
    (repeat (focus (show _ = _;(simp only [zz,shift]<;>exact rfl))))
    with_reducible apply TD.here
    repeat (first|(with_reducible first|refine mv ?_|refine TD.nil ?_)|((with_reducible first|apply TD.fa|apply TD.ld|apply TD.bin);(repeat (focus (show _ = _;first|exact k2 rfl|(simp only [zz,y30,Nat.reduceAdd,tfieldAddr,tload,rowOf,partT]<;>exact rfl)|exact rfl)));(with_reducible refine TD.here ?_)))
    rcases Bool.eq_false_or_eq_true ((decide (v5 ≤ v3))) with h2|h2
    · rw [if_pos h2] at hr
      repeat (first|(with_reducible first|refine mv ?_|refine TO.nil ?_)|((with_reducible apply TO.asg);(repeat (focus (show _ = _;first|exact k2 rfl|(simp only [zz,h2]<;>exact rfl))));(with_reducible apply TO.here))|((with_reducible apply TX.region);(focus (simp only []<;>exact rfl));(focus rfl);(try dsimp only))|((with_reducible apply TX.cond_true);(focus rfl);(focus ((simp only [z1,h2];done)))))
      cases hr
      refine ⟨.inr rfl,_,(by simp only [];exact rfl),?_⟩
      exact Wk.ren [] rfl .nil (by (repeat (first|exact RNs.nil|refine RNs.cons (.keep rfl rfl) ?_)))
    · rw [if_neg (by rw [h2];exact Bool.false_ne_true)] at hr
      repeat (first|with_reducible refine mv ?_|((with_reducible first|apply TO.fa|apply TO.ld);(repeat (focus (show _ = _;first|exact k2 rfl|(simp only [zz,y30,Nat.reduceAdd,tfieldAddr,tload,rowOf,partT,h2]<;>exact rfl)|exact rfl)));(with_reducible apply TO.here))|((with_reducible apply TX.region);(focus (simp only []<;>exact rfl));(focus rfl);(try dsimp only))|((with_reducible apply TX.cond_false);(focus rfl);(focus ((simp only [z1,h2];done)))))
      obtain ⟨v6,h3,hr⟩:=Option.bind_eq_some_iff.1 hr
      try dsimp only at hr
      apply TO.cal (by first|rfl|(simp only [twant,z1,z7,h2]<;>rfl)) rfl goFn124 (cmp_Compare_int_spec h3) rfl rfl rfl
      (repeat (focus (show _ = _;(simp only [zz,shift]<;>exact rfl))))
      with_reducible apply TO.here
      repeat (first|(with_reducible first|refine mv ?_|refine TO.nil ?_)|((with_reducible apply TO.asg);(repeat (focus (show _ = _;first|exact k2 rfl|(simp only [zz]<;>exact rfl))));(with_reducible apply TO.here)))
      cases hr
      refine ⟨.inr rfl,_,(by simp only [];exact rfl),?_⟩
      exact Wk.ren [] rfl .nil (by (repeat (first|exact RNs.nil|refine RNs.cons (.keep rfl rfl) ?_)))
  rfl

end Go.Rex

namespace Go.Rex
open Go.Proofs
open Go Go.Rex Go.RowKit
set_option maxRecDepth 100000
set_option maxHeartbeats 200000
def y31:=an @ag3 <| an @ag30 <| an @cs30 <| an @fd30_0 <| an @fd30_1 <| an @fd30_2 <| @ok30
theorem loop_IsClear_spec {v1 : Int} {v2 : Int} {v3 : Int} {v4 : Bool} (hr : loop_IsClear v1 v2 v3 = some (v4)) : Spec (lim Try.prog) 94 [.agg [.v (.int .i64 v1),.v (.int .i64 v2),.v (.int .i64 v3)]] ⟨[.v (.bool v4)],[]⟩:=by
  unfold loop_IsClear at hr
  apply Spec.fn Try.func94 rfl
  focus (simp [Try.f94]<;>exact rfl)
  focus
    repeat (first|(with_reducible first|refine mv ?_|refine TO.nil ?_)|((with_reducible first|apply TO.bf|apply TO.asg|apply TO.fa|apply TO.ld);(repeat (focus (show _ = _;first|exact k1 rfl|exact k2 rfl|(simp only [zz,y31,Nat.reduceAdd,tfieldAddr,tload,rowOf,partT]<;>exact rfl)|exact rfl)));(with_reducible apply TO.here))|((with_reducible apply TX.region);(focus (simp only []<;>exact rfl));(focus rfl);(try dsimp only)))
    obtain ⟨v5,h1,hr⟩:=Option.bind_eq_some_iff.1 hr
    try dsimp only at hr
    apply TO.cal (by first|rfl|(simp only [twant,z1,z7]<;>rfl)) rfl goFn123 (loop_isSmall_spec h1) rfl rfl rfl
    (repeat (focus (show _ = _;(simp only [zz,shift]<;>exact rfl))))
    with_reducible apply TO.here
    repeat (((with_reducible apply TO.mv);(repeat (focus (show _ = _;first|exact k2 rfl|(simp only [zz]<;>exact rfl))));(with_reducible apply TO.here)))
    rcases Bool.eq_false_or_eq_true (v5) with h2|h2
    · rw [if_pos h2] at hr
      repeat (((with_reducible first|apply TO.fa|apply TO.ld);(repeat (focus (show _ = _;first|exact k2 rfl|(simp only [zz,y31,Nat.reduceAdd,tfieldAddr,tload,rowOf,partT,h2]<;>exact rfl)|exact rfl)));(with_reducible apply TO.here)))
      obtain ⟨v6,h3,hr⟩:=Option.bind_eq_some_iff.1 hr
      try dsimp only at hr
      apply TO.cal (by first|rfl|(simp only [twant,z1,z7,h2]<;>rfl)) rfl goFn123 (loop_isSmall_spec h3) rfl rfl rfl
      (repeat (focus (show _ = _;(simp only [zz,shift]<;>exact rfl))))
      with_reducible apply TO.here
      repeat (((with_reducible first|apply TO.pk|apply TO.mv);(repeat (focus (show _ = _;first|exact k2 rfl|(simp only [zz]<;>exact rfl))));(with_reducible apply TO.here)))
      rcases Bool.eq_false_or_eq_true (v6) with h4|h4
      · rw [if_pos h4] at hr
        repeat (((with_reducible first|apply TO.fa|apply TO.ld|apply TO.bin|apply TO.pk|apply TO.mv);(repeat (focus (show _ = _;first|exact k2 rfl|(simp only [zz,y31,Nat.reduceAdd,tfieldAddr,tload,rowOf,partT,h4]<;>exact rfl)|exact rfl)));(with_reducible apply TO.here)))
        rcases Bool.eq_false_or_eq_true ((decide (0 ≤ v3))) with h5|h5
        · rw [if_pos h5] at hr
          repeat (first|(with_reducible first|refine mv ?_|refine TO.nil ?_)|((with_reducible first|apply TO.fa|apply TO.ld|apply TO.bin|apply TO.pk|apply TO.asg|apply TO.mv);(repeat (focus (show _ = _;first|exact k2 rfl|(simp only [zz,y31,Nat.reduceAdd,tfieldAddr,tload,rowOf,partT,h5]<;>exact rfl)|exact rfl)));(with_reducible apply TO.here))|((with_reducible apply TX.region);(focus (simp only []<;>exact rfl));(focus rfl);(try dsimp only)))
          rcases Bool.eq_false_or_eq_true ((decide (v3 ≤ 1000000000000000))) with h6|h6
          · rw [if_pos h6] at hr
            repeat (((with_reducible apply TO.ld);(repeat (focus (show _ = _;first|(simp only [zz,y31,Nat.reduceAdd,Nat.reduceLeDiff,tload,rowOf,partT,h6]<;>exact rfl)|exact rfl)));(with_reducible apply TO.here)))
            obtain ⟨v7,h7,hr⟩:=Option.bind_eq_some_iff.1 hr
            try dsimp only at hr
            apply TO.cal (by first|rfl|(simp only [twant,z1,z7,h2,h4,h5,h6]<;>rfl)) rfl goFn97 (loop_side_spec h7) rfl rfl rfl
            (repeat (focus (show _ = _;(simp only [zz,shift]<;>exact rfl))))
            with_reducible apply TO.here
            repeat (((with_reducible first|apply TO.bin|apply TO.mv);(repeat (focus (show _ = _;first|exact k2 rfl|(simp only [zz]<;>exact rfl))));(with_reducible apply TO.here)))
            rcases Bool.eq_false_or_eq_true ((decide (v7 ≠ 0))) with h8|h8
            · rw [if_pos h8] at hr
              repeat (first|(with_reducible first|refine mv ?_|refine TO.nil ?_)|((with_reducible first|apply TO.pk|apply TO.asg);(repeat (focus (show _ = _;first|exact k2 rfl|(simp only [zz]<;>exact rfl))));(with_reducible apply TO.here))|((with_reducible apply TO.skip1);(repeat (focus (show _ = _;(simp only [zz,twant,zp,zs,h8]<;>exact rfl))));(with_reducible apply TO.here)))
              cases hr
              refine ⟨.inr rfl,_,(by simp only [];exact rfl),?_⟩
              exact Wk.ren [] rfl .nil (by (repeat (first|exact RNs.nil|refine RNs.cons (.keep rfl rfl) ?_)))
            · rw [if_neg (by rw [h8];exact Bool.false_ne_true)] at hr
              repeat (first|(with_reducible first|refine mv ?_|refine TO.nil ?_)|((with_reducible first|apply TO.fa|apply TO.ld|apply TO.bin|apply TO.pk|apply TO.asg);(repeat (focus (show _ = _;first|exact k2 rfl|(simp only [zz,y31,Nat.reduceAdd,tfieldAddr,tload,rowOf,partT,h8]<;>exact rfl)|exact rfl)));(with_reducible apply TO.here)))
              cases hr
              refine ⟨.inr rfl,_,(by simp only [];exact rfl),?_⟩
              exact Wk.ren [] rfl .nil (by (repeat (first|exact RNs.nil|refine RNs.cons (.keep rfl rfl) ?_)))
          · rw [if_neg (by rw [h6];exact Bool.false_ne_true)] at hr
            repeat (first|(with_reducible first|refine mv ?_|refine TO.nil ?_)|((with_reducible first|apply TO.pk|apply TO.asg);(repeat (focus (show _ = _;first|exact k2 rfl|(simp only [zz]<;>exact rfl))));(with_reducible apply TO.here))|((with_reducible apply TO.skip1);(repeat (focus (show _ = _;(simp only [zz,twant,zp,zs,h6]<;>exact rfl))));(with_reducible apply TO.here)))
            cases hr
            refine ⟨.inr rfl,_,(by simp only [];exact rfl),?_⟩
            exact Wk.ren [] rfl .nil (by (repeat (first|exact RNs.nil|refine RNs.cons (.keep rfl rfl) ?_)))
        · rw [if_neg (by rw [h5];exact Bool.false_ne_true)] at hr
          repeat (first|(with_reducible first|refine mv ?_|refine TO.nil ?_)|((with_reducible first|apply TO.pk|apply TO.asg|apply TO.mv);(repeat (focus (show _ = _;first|exact k2 rfl|(simp only [zz]<;>exact rfl))));(with_reducible apply TO.here))|((with_reducible apply TO.skip1);(repeat (focus (show _ = _;(simp only [zz,twant,zp,zs,h5]<;>exact rfl))));(with_reducible apply TO.here))|((with_reducible apply TX.region);(focus (simp only []<;>exact rfl));(focus rfl);(try dsimp only)))
          cases hr
          refine ⟨.inr rfl,_,(by simp only [];exact rfl),?_⟩
          exact Wk.ren [] rfl .nil (by (repeat (first|exact RNs.nil|refine RNs.cons (.keep rfl rfl) ?_)))
      · rw [if_neg (by rw [h4];exact Bool.false_ne_true)] at hr
        repeat (first|(with_reducible first|refine mv ?_|refine TO.nil ?_)|((with_reducible first|apply TO.pk|apply TO.mv|apply TO.asg);(repeat (focus (show _ = _;first|exact k2 rfl|(simp only [zz]<;>exact rfl))));(with_reducible apply TO.here))|((with_reducible apply TO.skip1);(repeat (focus (show _ = _;(simp only [zz,twant,zp,zs,h4]<;>exact rfl))));(with_reducible apply TO.here))|((with_reducible apply TX.region);(focus (simp only []<;>exact rfl));(focus rfl);(try dsimp only)))
        cases hr
        refine ⟨.inr rfl,_,(by simp only [];exact rfl),?_⟩
        exact Wk.ren [] rfl .nil (by (repeat (first|exact RNs.nil|refine RNs.cons (.keep rfl rfl) ?_)))
    · rw [if_neg (by rw [h2];exact Bool.false_ne_true)] at hr
      repeat (first|(with_reducible first|refine mv ?_|refine TO.nil ?_)|((with_reducible first|apply TO.pk|apply TO.mv|apply TO.asg);(repeat (focus (show _ = _;first|exact k2 rfl|(simp only [zz]<;>exact rfl))));(with_reducible apply TO.here))|((with_reducible apply TO.skip1);(repeat (focus (show _ = _;(simp only [zz,twant,zp,zs,h2]<;>exact rfl))));(with_reducible apply TO.here))|((with_reducible apply TX.region);(focus (simp only []<;>exact rfl));(focus rfl);(try dsimp only)))
      cases hr
      refine ⟨.inr rfl,_,(by simp only [];exact rfl),?_⟩
      exact Wk.ren [] rfl .nil (by (repeat (first|exact RNs.nil|refine RNs.cons (.keep rfl rfl) ?_)))
  rfl

end Go.Rex

namespace Go.Rex
open Go.Proofs
open Go Go.Rex Go.RowKit
set_option maxRecDepth 100000
set_option maxHeartbeats 200000
def y32:=an @ag26 <| an @ag90 <| an @cs26 <| an @cs90 <| an @ok26 <| @ok90
theorem loop_plot_provenBy_c2_c1_c1_4b26_spec {v1 : (List Int)} {v2 : Int} {v3 : (List (Int × Int))} {v4 : Int} {v5 : Int} {v6 : Int} (hr : loop_plot_provenBy_c2_c1_c1_4b26 v1 v2 v3 v4 v5 = some (v6)) : Spec (lim Try.prog) 93 [.fptr true [.list 1 (v1.map e_i),.v (.int .i64 v2),.list 2 (v3.map e_ii)] 0,.fptr true [.v (.int .i64 v4),.v (.int .i64 v5)] 0] ⟨[.v (.int .i64 v6)],[]⟩:=by
  unfold loop_plot_provenBy_c2_c1_c1_4b26 at hr
  apply Spec.fn Try.func93 rfl
  focus (simp [Try.f93]<;>exact rfl)
  focus
    repeat (first|(with_reducible first|refine mv ?_|refine TO.nil ?_)|((with_reducible first|apply TO.asg|apply TO.ld);(repeat (focus (show _ = _;first|exact k2 rfl|(simp only [zz,y32,Nat.reduceAdd,Nat.reduceLeDiff,tload,rowOf,partT]<;>exact rfl)|exact rfl)));(with_reducible apply TO.here))|((with_reducible apply TX.region);(focus (simp only []<;>exact rfl));(focus rfl);(try dsimp only)))
    obtain ⟨⟨v7,v8,v9⟩,h1,hr⟩:=Option.bind_eq_some_iff.1 hr
    try dsimp only at hr
    apply TO.cal (by first|rfl|(simp only [twant,z1,z7]<;>rfl)) rfl goFn54 (loop_plot_ball_spec h1) rfl rfl rfl
    (repeat (focus (show _ = _;(simp only [zz,shift]<;>exact rfl))))
    with_reducible apply TO.here
    obtain ⟨v10,h2,hr⟩:=Option.bind_eq_some_iff.1 hr
    try dsimp only at hr
    apply TO.cal (by first|rfl|(simp only [twant,z1,z7]<;>rfl)) rfl goFn94 (loop_IsClear_spec h2) rfl rfl rfl
    (repeat (focus (show _ = _;(simp only [zz,shift]<;>exact rfl))))
    with_reducible apply TO.here
    apply TO.pop1 (by first|rfl|(simp only [twant,z1,z7]<;>rfl)) (pop_not rfl)
    (repeat (focus (show _ = _;(simp only [zz]<;>exact rfl))))
    with_reducible apply TO.here
    obtain ⟨⟨v11,v12⟩,h3,hr⟩:=Option.bind_eq_some_iff.1 hr
    try dsimp only at hr
    apply TO.cal (by first|rfl|(simp only [twant,z1,z7]<;>rfl)) rfl goFn55 (loop_refuse_spec h3) rfl rfl rfl
    (repeat (focus (show _ = _;(simp only [zz,shift]<;>exact rfl))))
    with_reducible apply TO.here
    obtain ⟨v13,h4,hr⟩:=Option.bind_eq_some_iff.1 hr
    try dsimp only at hr
    apply TO.cal (by first|rfl|(simp only [twant,z1,z7]<;>rfl)) rfl goFn88 (loop_refuse_c1_11f9_spec h4) rfl rfl rfl
    (repeat (focus (show _ = _;(simp only [zz,shift]<;>exact rfl))))
    with_reducible apply TO.here
    repeat (first|(with_reducible first|refine mv ?_|refine TO.nil ?_)|((with_reducible apply TO.asg);(repeat (focus (show _ = _;first|exact k2 rfl|(simp only [zz]<;>exact rfl))));(with_reducible apply TO.here)))
    cases hr
    refine ⟨.inr rfl,_,(by simp only [];exact rfl),?_⟩
    exact wr [] rfl .nil
  rfl

end Go.Rex

namespace Go.Rex
open Go.Proofs
open Go Go.Rex Go.RowKit
set_option maxRecDepth 100000
set_option maxHeartbeats 200000
def y33:=an @ag94 <| an @cs94 <| an @ok94 <| an @so122 <| an @wi64_0a1 <| an @wi64_1a1 <| @wi64_2a1
theorem loop_firstError_64d9_spec {v1 : Int} {v2 : Int} {v3 : Bool} {v4 : Int} {v5 : (List Int)} {v6 : Int} {v7 : (List (Int × Int))} {v8 : Int} {v9 : Int} {v10 : Int} (hr : loop_firstError_64d9 v1 v2 v3 v4 v5 v6 v7 v8 v9 = some (v10)) : Spec (lim Try.prog) 48 [.list 1 [[.func 85 [] [.fptr true [.v (.int .i64 v1),.v (.int .i64 v2)] 0]],[.func 88 [] [.fptr true [.v (.bool v3)] 0,.fptr true [.v (.int .i64 v4)] 0]],[.func 93 [] [.fptr true [.list 1 (v5.map e_i),.v (.int .i64 v6),.list 2 (v7.map e_ii)] 0,.fptr true [.v (.int .i64 v8),.v (.int .i64 v9)] 0]]]] ⟨[.v (.int .i64 v10)],[]⟩:=by
  unfold loop_firstError_64d9 at hr
  apply Spec.fn Try.func48 rfl
  focus (simp [Try.f48]<;>exact rfl)
  focus
    repeat (first|(with_reducible first|refine mv ?_|refine TO.nil ?_)|((with_reducible first|apply TO.asg|apply TO.mv|apply TO.len);(repeat (focus (show _ = _;first|exact k2 rfl|(simp only [zz,y33,Nat.reduceAdd,tlen]<;>exact rfl))));(with_reducible apply TO.here))|((with_reducible apply TX.region);(focus (simp only []<;>exact rfl));(focus rfl);(try dsimp only)))
    refine TX.unroll ?_
    repeat (first|(with_reducible first|refine mv ?_|refine TO.nil ?_)|((with_reducible first|apply TO.bin|apply TO.ia|apply TO.ld|apply TO.asg|apply TO.mv);(repeat (focus (show _ = _;first|exact k2 rfl|(simp only [zz,y33,tindexAddr,z5,Int.reduceLT,Int.cast_ofNat_Int,tload,rowOf,partT]<;>exact rfl)|exact rfl)));(with_reducible apply TO.here))|((with_reducible apply TX.region);(focus (simp only []<;>exact rfl));(focus rfl);(try dsimp only))|((with_reducible apply TX.cond_true);(focus rfl);(focus (rfl))))
    obtain ⟨v11,h1,hr⟩:=Option.bind_eq_some_iff.1 hr
    try dsimp only at hr
    apply TO.cal (by first|rfl|(simp only [twant,z1,z7]<;>rfl)) rfl goFn85 (loop_onHalf_c1_eebc_spec h1) rfl rfl rfl
    (repeat (focus (show _ = _;(simp only [zz,shift]<;>exact rfl))))
    with_reducible apply TO.here
    repeat (first|(with_reducible first|refine mv ?_|refine TO.nil ?_)|((with_reducible first|apply TO.asg|apply TO.mv|apply TO.bin);(repeat (focus (show _ = _;first|exact k2 rfl|(simp only [zz]<;>exact rfl))));(with_reducible apply TO.here))|((with_reducible apply TX.region);(focus (simp only []<;>exact rfl));(focus rfl);(try dsimp only)))
    rcases Bool.eq_false_or_eq_true ((decide (v11 ≠ 0))) with h2|h2
    · rw [if_pos h2] at hr
      repeat (first|(with_reducible first|refine mv ?_|refine TO.nil ?_)|((with_reducible first|apply TO.mv|apply TO.asg);(repeat (focus (show _ = _;first|exact k2 rfl|(simp only [zz,h2]<;>exact rfl))));(with_reducible apply TO.here))|((with_reducible apply TX.region);(focus (simp only []<;>exact rfl));(focus rfl);(try dsimp only))|((with_reducible apply TX.cond_true);(focus rfl);(focus ((simp only [z1,h2];done)))))
      cases hr
      refine ⟨.inr rfl,_,(by simp only [];exact rfl),?_⟩
      exact Wk.ren [] rfl .nil (by (repeat (first|exact RNs.nil|refine RNs.cons (.keep rfl rfl) ?_)))
    · rw [if_neg (by rw [h2];exact Bool.false_ne_true)] at hr
      repeat (first|(with_reducible first|refine mv ?_|refine TO.nil ?_)|((with_reducible first|apply TO.bin|apply TO.mv);(repeat (focus (show _ = _;first|exact k2 rfl|(simp only [zz,y33,h2]<;>exact rfl))));(with_reducible apply TO.here))|((with_reducible apply TX.region);(focus (simp only []<;>exact rfl));(focus rfl);(try dsimp only))|((with_reducible apply TX.cond_false);(focus rfl);(focus ((simp only [z1,h2];done)))))
      refine TX.unroll ?_
      repeat (first|(with_reducible first|refine mv ?_|refine TO.nil ?_)|((with_reducible first|apply TO.bin|apply TO.ia|apply TO.ld|apply TO.asg|apply TO.mv);(repeat (focus (show _ = _;first|exact k2 rfl|(simp only [zz,y33,tindexAddr,z5,Int.reduceLT,tload,rowOf,partT]<;>exact rfl)|exact rfl)));(with_reducible apply TO.here))|((with_reducible apply TX.region);(focus (simp only []<;>exact rfl));(focus rfl);(try dsimp only))|((with_reducible apply TX.cond_true);(focus rfl);(focus (rfl))))
      obtain ⟨v12,h3,hr⟩:=Option.bind_eq_some_iff.1 hr
      try dsimp only at hr
      apply TO.cal (by first|rfl|(simp only [twant,z1,z7,h2]<;>rfl)) rfl goFn88 (loop_refuse_c1_11f9_spec h3) rfl rfl rfl
      (repeat (focus (show _ = _;(simp only [zz,shift]<;>exact rfl))))
      with_reducible apply TO.here
      repeat (first|(with_reducible first|refine mv ?_|refine TO.nil ?_)|((with_reducible first|apply TO.asg|apply TO.mv|apply TO.bin);(repeat (focus (show _ = _;first|exact k2 rfl|(simp only [zz]<;>exact rfl))));(with_reducible apply TO.here))|((with_reducible apply TX.region);(focus (simp only []<;>exact rfl));(focus rfl);(try dsimp only)))
      rcases Bool.eq_false_or_eq_true ((decide (v12 ≠ 0))) with h4|h4
      · rw [if_pos h4] at hr
        repeat (first|(with_reducible first|refine mv ?_|refine TO.nil ?_)|((with_reducible first|apply TO.mv|apply TO.asg);(repeat (focus (show _ = _;first|exact k2 rfl|(simp only [zz,h4]<;>exact rfl))));(with_reducible apply TO.here))|((with_reducible apply TX.region);(focus (simp only []<;>exact rfl));(focus rfl);(try dsimp only))|((with_reducible apply TX.cond_true);(focus rfl);(focus ((simp only [z1,h4];done)))))
        cases hr
        refine ⟨.inr rfl,_,(by simp only [];exact rfl),?_⟩
        exact Wk.ren [] rfl .nil (by (repeat (first|exact RNs.nil|refine RNs.cons (.keep rfl rfl) ?_)))
      · rw [if_neg (by rw [h4];exact Bool.false_ne_true)] at hr
        repeat (first|(with_reducible first|refine mv ?_|refine TO.nil ?_)|((with_reducible first|apply TO.bin|apply TO.mv);(repeat (focus (show _ = _;first|exact k2 rfl|(simp only [zz,y33,h4]<;>exact rfl))));(with_reducible apply TO.here))|((with_reducible apply TX.region);(focus (simp only []<;>exact rfl));(focus rfl);(try dsimp only))|((with_reducible apply TX.cond_false);(focus rfl);(focus ((simp only [z1,h4];done)))))
        refine TX.unroll ?_
        repeat (first|(with_reducible first|refine mv ?_|refine TO.nil ?_)|((with_reducible first|apply TO.bin|apply TO.ia|apply TO.ld|apply TO.asg|apply TO.mv);(repeat (focus (show _ = _;first|exact k2 rfl|(simp only [zz,y33,tindexAddr,z5,Int.reduceLT,tload,rowOf,partT]<;>exact rfl)|exact rfl)));(with_reducible apply TO.here))|((with_reducible apply TX.region);(focus (simp only []<;>exact rfl));(focus rfl);(try dsimp only))|((with_reducible apply TX.cond_true);(focus rfl);(focus (rfl))))
        obtain ⟨v13,h5,hr⟩:=Option.bind_eq_some_iff.1 hr
        try dsimp only at hr
        apply TO.cal (by first|rfl|(simp only [twant,z1,z7,h2,h4]<;>rfl)) rfl goFn93 (loop_plot_provenBy_c2_c1_c1_4b26_spec h5) rfl rfl rfl
        (repeat (focus (show _ = _;(simp only [zz,shift]<;>exact rfl))))
        with_reducible apply TO.here
        repeat (first|(with_reducible first|refine mv ?_|refine TO.nil ?_)|((with_reducible first|apply TO.asg|apply TO.mv|apply TO.bin);(repeat (focus (show _ = _;first|exact k2 rfl|(simp only [zz]<;>exact rfl))));(with_reducible apply TO.here))|((with_reducible apply TX.region);(focus (simp only []<;>exact rfl));(focus rfl);(try dsimp only)))
        rcases Bool.eq_false_or_eq_true ((decide (v13 ≠ 0))) with h6|h6
        · rw [if_pos h6] at hr
          repeat (first|(with_reducible first|refine mv ?_|refine TO.nil ?_)|((with_reducible first|apply TO.mv|apply TO.asg);(repeat (focus (show _ = _;first|exact k2 rfl|(simp only [zz,h6]<;>exact rfl))));(with_reducible apply TO.here))|((with_reducible apply TX.region);(focus (simp only []<;>exact rfl));(focus rfl);(try dsimp only))|((with_reducible apply TX.cond_true);(focus rfl);(focus ((simp only [z1,h6];done)))))
          cases hr
          refine ⟨.inr rfl,_,(by simp only [];exact rfl),?_⟩
          exact Wk.ren [] rfl .nil (by (repeat (first|exact RNs.nil|refine RNs.cons (.keep rfl rfl) ?_)))
        · rw [if_neg (by rw [h6];exact Bool.false_ne_true)] at hr
          repeat (first|(with_reducible first|refine mv ?_|refine TO.nil ?_)|((with_reducible first|apply TO.bin|apply TO.mv);(repeat (focus (show _ = _;first|exact k2 rfl|(simp only [zz,y33,h6]<;>exact rfl))));(with_reducible apply TO.here))|((with_reducible apply TX.region);(focus (simp only []<;>exact rfl));(focus rfl);(try dsimp only))|((with_reducible apply TX.cond_false);(focus rfl);(focus ((simp only [z1,h6];done)))))
          refine TX.unroll ?_
          repeat (first|(with_reducible first|refine mv ?_|refine TO.nil ?_)|((with_reducible first|apply TO.bin|apply TO.asg);(repeat (focus (show _ = _;first|exact k2 rfl|(simp only [zz]<;>exact rfl))));(with_reducible apply TO.here))|((with_reducible apply TX.region);(focus (simp only []<;>exact rfl));(focus rfl);(try dsimp only))|((with_reducible apply TX.cond_false);(focus rfl);(focus (rfl))))
          cases hr
          refine ⟨.inr rfl,_,(by simp only [];exact rfl),?_⟩
          exact Wk.ren [] rfl .nil (by (repeat (first|exact RNs.nil|refine RNs.cons (.keep rfl rfl) ?_)))
  rfl

end Go.Rex

namespace Go.Rex
open Go.Proofs
open Go Go.Rex Go.RowKit
set_option maxRecDepth 100000
set_option maxHeartbeats 200000
def y34:=an @ag26 <| an @ag3 <| an @ag39 <| an @ag97 <| an @cs26 <| an @cs94 <| an @fd26_0 <| an @ok26 <| an @so122 <| an @so39 <| an @zc26 <| @zc94
theorem loop_plot_provenBy_c2_c1_6729_spec {v1 : Int} {v2 : (List (Int × Int))} {v3 : (List (Int × Int))} {v4 : (List Int)} {v5 : Int} {v6 : (List (Int × Int))} {v7 : Int} (hr : loop_plot_provenBy_c2_c1_6729 v1 v2 v3 v4 v5 v6 = some (v7)) : Spec (lim Try.prog) 92 [.v (.int .i64 v1),.fptr true [.list 2 (v2.map e_ii)] 0,.fptr true [.func 89 [] [.fptr true [.list 2 (v3.map e_ii)] 0]] 0,.fptr true [.list 1 (v4.map e_i),.v (.int .i64 v5),.list 2 (v6.map e_ii)] 0] ⟨[.v (.int .i64 v7)],[]⟩:=by
  unfold loop_plot_provenBy_c2_c1_6729 at hr
  apply Spec.fn Try.func92 rfl
  focus (simp [Try.f92]<;>exact rfl)
  focus
    repeat (first|(with_reducible first|refine mv ?_|refine TO.nil ?_)|((with_reducible first|apply TO.asg|apply TO.ld|apply TO.mv);(repeat (focus (show _ = _;first|exact k2 rfl|(simp only [zz,y34,tload,rowOf,partT]<;>exact rfl)|exact rfl)));(with_reducible apply TO.here))|((with_reducible apply TX.region);(focus (simp only []<;>exact rfl));(focus rfl);(try dsimp only)))
    obtain ⟨⟨v8,v9⟩,h1,hr⟩:=Option.bind_eq_some_iff.1 hr
    try dsimp only at hr
    have h1m:=tidx_map (f:=e_ii) h1
    have h1l:=getI_lt h1
    try simp only [List.length_set] at h1l
    have h1a:=getI_at h1
    repeat (first|(with_reducible first|refine mv ?_|refine TO.nil ?_)|((with_reducible first|apply TO.ia|apply TO.ld|apply TO.al|apply TO.sv);(repeat (focus (show _ = _;first|exact k1 rfl|exact k2 rfl|(simp only [zz,y34,e_ii,Nat.reduceAdd,Nat.reduceLeDiff,tindexAddr,Nat.zero_add,tload,rowOf,partT,h1m]<;>exact rfl)|exact rfl)));(with_reducible apply TO.here))|((with_reducible apply TD.ld);(repeat (focus (show _ = _;first|exact k2 rfl|(simp only [zz,y34,Nat.reduceAdd,Nat.reduceLeDiff,tload,rowOf,partT]<;>exact rfl)|exact rfl)));(with_reducible refine TD.here ?_))|((with_reducible apply TX.drawn);(focus decide +kernel);(focus (simp only []<;>exact rfl));(focus exact rfl);(try dsimp only)))
    obtain ⟨⟨v10,v11⟩,h2,hr⟩:=Option.bind_eq_some_iff.1 hr
    try dsimp only at hr
    first|apply TD.cal (by first|rfl|(simp only [twant,z1,z7,h1m,h1l,h1a]<;>rfl)) rfl goFn53 (loop_onHalf_spec h2) rfl rfl rfl|apply TD.calw (by first|rfl|(simp only [twant,z1,z7,h1m,h1l,h1a]<;>rfl)) rfl goFn53 (loop_onHalf_spec h2) rfl rfl rfl rfl
    (repeat (focus (show _ = _;(simp only [zz,shift]<;>exact rfl))))
    with_reducible apply TD.here
    repeat (((with_reducible first|apply TD.fa|apply TD.ld|apply TD.mv);(repeat (focus (show _ = _;first|exact k2 rfl|(simp only [zz,y34,Nat.reduceAdd,tfieldAddr,tload,rowOf,partT]<;>exact rfl)|exact rfl)));(with_reducible refine TD.here ?_)))
    obtain ⟨v12,h3,hr⟩:=Option.bind_eq_some_iff.1 hr
    try dsimp only at hr
    first|apply TD.cal (by first|rfl|(simp only [twant,z1,z7,h1m,h1l,h1a]<;>rfl)) rfl goFn89 (loop_plot_provenBy_c1_cff2_spec h3) rfl rfl rfl|apply TD.calw (by first|rfl|(simp only [twant,z1,z7,h1m,h1l,h1a]<;>rfl)) rfl goFn89 (loop_plot_provenBy_c1_cff2_spec h3) rfl rfl rfl rfl
    (repeat (focus (show _ = _;(simp only [zz,shift]<;>exact rfl))))
    with_reducible apply TD.here
    repeat (((with_reducible apply TD.bin);(repeat (focus (show _ = _;first|exact k2 rfl|(simp only [zz]<;>exact rfl))));(with_reducible refine TD.here ?_)))
    obtain ⟨⟨v13,v14⟩,h4,hr⟩:=Option.bind_eq_some_iff.1 hr
    try dsimp only at hr
    first|apply TD.cal (by first|rfl|(simp only [twant,z1,z7,h1m,h1l,h1a]<;>rfl)) rfl goFn55 (loop_refuse_spec h4) rfl rfl rfl|apply TD.calw (by first|rfl|(simp only [twant,z1,z7,h1m,h1l,h1a]<;>rfl)) rfl goFn55 (loop_refuse_spec h4) rfl rfl rfl rfl
    (repeat (focus (show _ = _;(simp only [zz,shift]<;>exact rfl))))
    with_reducible apply TD.here
    apply TD.frz 0 rfl rfl
    (repeat (focus (show _ = _;(simp only [zz,frz,frzB]<;>exact rfl))))
    with_reducible apply TD.here
    repeat (((with_reducible first|apply TD.mf|apply TD.bs);(repeat (focus (show _ = _;first|exact k1 rfl|exact k2 rfl|(simp only [zz,y34,Nat.reduceAdd,Nat.reduceMul,tslice,tparts]<;>exact rfl)|exact rfl)));(with_reducible refine TD.here ?_)))
    obtain ⟨v15,h5,hr⟩:=Option.bind_eq_some_iff.1 hr
    try dsimp only at hr
    first|apply TD.cal (by first|rfl|(simp only [twant,z1,z7,h1m,h1l,h1a]<;>rfl)) rfl goFn48 (loop_firstError_64d9_spec h5) rfl rfl rfl|apply TD.calw (by first|rfl|(simp only [twant,z1,z7,h1m,h1l,h1a]<;>rfl)) rfl goFn48 (loop_firstError_64d9_spec h5) rfl rfl rfl rfl
    (repeat (focus (show _ = _;(simp only [zz,shift]<;>exact rfl))))
    with_reducible apply TD.here
    repeat (first|(with_reducible first|refine mv ?_|refine TD.nil ?_)|((with_reducible apply TD.asg);(repeat (focus (show _ = _;first|exact k2 rfl|(simp only [zz]<;>exact rfl))));(with_reducible refine TD.here ?_)))
    cases hr
    refine ⟨.inr rfl,_,(by simp only [];exact rfl),?_⟩
    exact wr [] rfl .nil
  rfl

end Go.Rex

namespace Go.Rex
open Go.Proofs
open Go Go.Rex Go.RowKit
set_option maxRecDepth 100000
set_option maxHeartbeats 200000
def y35:=an @ag125 <| an @ag3 <| @wi64_0a1
theorem loop_each_c1_ff07_spec {v1 : Int} {v2 : (List (Int × Int))} {v3 : (List (Int × Int))} {v4 : (List Int)} {v5 : Int} {v6 : (List (Int × Int))} {v7 : Int} (hr : loop_each_c1_ff07 v1 v2 v3 v4 v5 v6 = some (v7)) : Spec (lim Try.prog) 122 [.fptr true [.v (.int .i64 v1)] 0,.fptr true [.func 92 [] [.fptr true [.list 2 (v2.map e_ii)] 0,.fptr true [.func 89 [] [.fptr true [.list 2 (v3.map e_ii)] 0]] 0,.fptr true [.list 1 (v4.map e_i),.v (.int .i64 v5),.list 2 (v6.map e_ii)] 0]] 0] ⟨[.v (.int .i64 v7)],[]⟩:=by
  unfold loop_each_c1_ff07 at hr
  apply Spec.fn Try.func122 rfl
  focus (simp [Try.f122]<;>exact rfl)
  focus
    repeat (first|(with_reducible first|refine mv ?_|refine TO.nil ?_)|((with_reducible first|apply TO.asg|apply TO.ld|apply TO.mv);(repeat (focus (show _ = _;first|exact k2 rfl|(simp only [zz,y35,tload,rowOf,partT]<;>exact rfl)|exact rfl)));(with_reducible apply TO.here))|((with_reducible apply TX.region);(focus (simp only []<;>exact rfl));(focus rfl);(try dsimp only)))
    obtain ⟨v12,h7,hr⟩:=Option.bind_eq_some_iff.1 hr
    refine TX.loopE (step:=loop_each_c1_ff07_l1 v1 v2 v3 v4 v5 v6) (x:=0) h7 (fun v8=>⟨.junk :: .fptr true [.func 92 [] [.fptr true [.list 2 (v2.map e_ii)] 0,.fptr true [.func 89 [] [.fptr true [.list 2 (v3.map e_ii)] 0]] 0,.fptr true [.list 1 (v4.map e_i),.v (.int .i64 v5),.list 2 (v6.map e_ii)] 0]] 0 :: .junk :: .junk :: .junk :: .v (.int .i64 v1) :: .v (.int .i64 v8) :: .junk :: .junk :: .junk :: .junk :: .junk :: .junk :: .junk :: .junk :: .junk :: [],[]⟩) (fun e=>match e with|(.inl v10)=>(.ret,⟨.junk :: .junk :: .v (.int .i64 v10) :: .junk :: .junk :: .junk :: .junk :: .junk :: .junk :: .junk :: .junk :: .junk :: .junk :: .junk :: .junk :: .junk :: [],[]⟩)|(.inr _)=>(.exit 0,⟨.junk :: .junk :: .junk :: .junk :: .junk :: .junk :: .junk :: .junk :: .junk :: .junk :: .junk :: .junk :: .junk :: .junk :: .junk :: .junk :: [],[]⟩)) ?_ ?_ ?_ ?_
    · rintro v8 v0 hr
      dsimp only [loop_each_c1_ff07_l1] at hr
      try dsimp only
      repeat (first|(with_reducible first|refine mv ?_|refine TO.nil ?_)|((with_reducible apply TO.bin);(repeat (focus (show _ = _;first|exact k2 rfl|(simp only [zz]<;>exact rfl))));(with_reducible apply TO.here))|((with_reducible apply TX.region);(focus (simp only []<;>exact rfl));(focus rfl);(try dsimp only)))
      rcases Bool.eq_false_or_eq_true ((decide (v8 < v1))) with h4|h4
      · rw [if_pos h4] at hr
        repeat (first|(with_reducible first|refine mv ?_|refine TO.nil ?_)|((with_reducible first|apply TO.mv|apply TO.asg|apply TO.ld);(repeat (focus (show _ = _;first|exact k2 rfl|(simp only [zz,y35,tload,rowOf,partT,h4]<;>exact rfl)|exact rfl)));(with_reducible apply TO.here))|((with_reducible apply TX.region);(focus (simp only []<;>exact rfl));(focus rfl);(try dsimp only))|((with_reducible apply TX.cond_true);(focus rfl);(focus ((simp only [z1,h4];done)))))
        obtain ⟨v11,h5,hr⟩:=Option.bind_eq_some_iff.1 hr
        try dsimp only at hr
        apply TO.cal (by first|rfl|(simp only [twant,z1,z7,h4]<;>rfl)) rfl goFn92 (loop_plot_provenBy_c2_c1_6729_spec h5) rfl rfl rfl
        (repeat (focus (show _ = _;(simp only [zz,shift]<;>exact rfl))))
        with_reducible apply TO.here
        repeat (first|(with_reducible first|refine mv ?_|refine TO.nil ?_)|((with_reducible first|apply TO.asg|apply TO.mv|apply TO.bin);(repeat (focus (show _ = _;first|exact k2 rfl|(simp only [zz]<;>exact rfl))));(with_reducible apply TO.here))|((with_reducible apply TX.region);(focus (simp only []<;>exact rfl));(focus rfl);(try dsimp only)))
        rcases Bool.eq_false_or_eq_true ((decide (v11 ≠ 0))) with h6|h6
        · rw [if_pos h6] at hr
          repeat (first|(with_reducible first|refine mv ?_|refine TO.nil ?_)|((with_reducible first|apply TO.mv|apply TO.asg);(repeat (focus (show _ = _;first|exact k2 rfl|(simp only [zz,h6]<;>exact rfl))));(with_reducible apply TO.here))|((with_reducible apply TX.region);(focus (simp only []<;>exact rfl));(focus rfl);(try dsimp only))|((with_reducible apply TX.cond_true);(focus rfl);(focus ((simp only [z1,h6];done)))))
          cases hr
          refine ⟨rfl,?_⟩
          exact Wk.ren [] rfl .nil (by (repeat (first|exact RNs.nil|refine RNs.cons .junk ?_|refine RNs.cons (.keep rfl rfl) ?_)))
        · rw [if_neg (by rw [h6];exact Bool.false_ne_true)] at hr
          repeat (first|(with_reducible first|refine mv ?_|refine TO.nil ?_)|((with_reducible first|apply TO.bin|apply TO.mv);(repeat (focus (show _ = _;first|exact k2 rfl|(simp only [zz,h6]<;>exact rfl))));(with_reducible apply TO.here))|((with_reducible apply TX.region);(focus (simp only []<;>exact rfl));(focus rfl);(try dsimp only))|((with_reducible apply TX.cond_false);(focus rfl);(focus ((simp only [z1,h6];done)))))
          cases hr
          refine ⟨rfl,?_⟩
          exact Wk.ren [] rfl .nil (by (repeat (first|exact RNs.nil|refine RNs.cons .junk ?_|refine RNs.cons (.keep rfl rfl) ?_)))
      · rw [if_neg (by rw [h4];exact Bool.false_ne_true)] at hr
        repeat (first|with_reducible refine mv ?_|((with_reducible apply TX.cond_false);(focus rfl);(focus ((simp only [z1,h4];done)))))
        cases hr
        refine ⟨rfl,?_⟩
        exact Wk.ren [] rfl .nil (by (repeat (first|exact RNs.nil|refine RNs.cons .junk ?_)))
    · intro e h;rcases e with _|e<;>cases h
    · try dsimp only
      rcases v12 with v13|_
      · try dsimp only at hr
        try dsimp only
        repeat (with_reducible refine mv ?_)
        cases hr
        refine ⟨.inr rfl,_,(by simp only [];exact rfl),?_⟩
        exact wr [] rfl .nil
      · try dsimp only at hr
        try dsimp only
        repeat (first|(with_reducible first|refine mv ?_|refine TO.nil ?_)|((with_reducible apply TO.asg);(repeat (focus (show _ = _;first|exact k2 rfl|(simp only [zz]<;>exact rfl))));(with_reducible apply TO.here))|((with_reducible apply TX.region);(focus (simp only []<;>exact rfl));(focus rfl);(try dsimp only)))
        cases hr
        refine ⟨.inr rfl,_,(by simp only [];exact rfl),?_⟩
        exact wr [] rfl .nil
    · try dsimp only
      exact wr [] rfl .nil
  rfl

end Go.Rex

namespace Go.Rex
open Go.Proofs
open Go Go.Rex Go.RowKit
set_option maxRecDepth 100000
set_option maxHeartbeats 200000
def y36:=an @ag94 <| an @cs94 <| an @ok94 <| an @so122 <| an @wi64_0a1 <| @wi64_1a1
theorem loop_firstError_ba72_spec {v1 : Int} {v2 : (List (Int × Int))} {v3 : (List (Int × Int))} {v4 : (List Int)} {v5 : Int} {v6 : (List (Int × Int))} {v7 : Bool} {v8 : Int} {v9 : Int} (hr : loop_firstError_ba72 v1 v2 v3 v4 v5 v6 v7 v8 = some (v9)) : Spec (lim Try.prog) 48 [.list 1 [[.func 122 [] [.fptr true [.v (.int .i64 v1)] 0,.fptr true [.func 92 [] [.fptr true [.list 2 (v2.map e_ii)] 0,.fptr true [.func 89 [] [.fptr true [.list 2 (v3.map e_ii)] 0]] 0,.fptr true [.list 1 (v4.map e_i),.v (.int .i64 v5),.list 2 (v6.map e_ii)] 0]] 0]],[.func 88 [] [.fptr true [.v (.bool v7)] 0,.fptr true [.v (.int .i64 v8)] 0]]]] ⟨[.v (.int .i64 v9)],[]⟩:=by
  unfold loop_firstError_ba72 at hr
  apply Spec.fn Try.func48 rfl
  focus (simp [Try.f48]<;>exact rfl)
  focus
    repeat (first|(with_reducible first|refine mv ?_|refine TO.nil ?_)|((with_reducible first|apply TO.asg|apply TO.mv|apply TO.len);(repeat (focus (show _ = _;first|exact k2 rfl|(simp only [zz,y36,Nat.reduceAdd,tlen]<;>exact rfl))));(with_reducible apply TO.here))|((with_reducible apply TX.region);(focus (simp only []<;>exact rfl));(focus rfl);(try dsimp only)))
    refine TX.unroll ?_
    repeat (first|(with_reducible first|refine mv ?_|refine TO.nil ?_)|((with_reducible first|apply TO.bin|apply TO.ia|apply TO.ld|apply TO.asg|apply TO.mv);(repeat (focus (show _ = _;first|exact k2 rfl|(simp only [zz,y36,tindexAddr,z5,Int.reduceLT,Int.cast_ofNat_Int,tload,rowOf,partT]<;>exact rfl)|exact rfl)));(with_reducible apply TO.here))|((with_reducible apply TX.region);(focus (simp only []<;>exact rfl));(focus rfl);(try dsimp only))|((with_reducible apply TX.cond_true);(focus rfl);(focus (rfl))))
    obtain ⟨v10,h1,hr⟩:=Option.bind_eq_some_iff.1 hr
    try dsimp only at hr
    apply TO.cal (by first|rfl|(simp only [twant,z1,z7]<;>rfl)) rfl goFn122 (loop_each_c1_ff07_spec h1) rfl rfl rfl
    (repeat (focus (show _ = _;(simp only [zz,shift]<;>exact rfl))))
    with_reducible apply TO.here
    repeat (first|(with_reducible first|refine mv ?_|refine TO.nil ?_)|((with_reducible first|apply TO.asg|apply TO.mv|apply TO.bin);(repeat (focus (show _ = _;first|exact k2 rfl|(simp only [zz]<;>exact rfl))));(with_reducible apply TO.here))|((with_reducible apply TX.region);(focus (simp only []<;>exact rfl));(focus rfl);(try dsimp only)))
    rcases Bool.eq_false_or_eq_true ((decide (v10 ≠ 0))) with h2|h2
    · rw [if_pos h2] at hr
      repeat (first|(with_reducible first|refine mv ?_|refine TO.nil ?_)|((with_reducible first|apply TO.mv|apply TO.asg);(repeat (focus (show _ = _;first|exact k2 rfl|(simp only [zz,h2]<;>exact rfl))));(with_reducible apply TO.here))|((with_reducible apply TX.region);(focus (simp only []<;>exact rfl));(focus rfl);(try dsimp only))|((with_reducible apply TX.cond_true);(focus rfl);(focus ((simp only [z1,h2];done)))))
      cases hr
      refine ⟨.inr rfl,_,(by simp only [];exact rfl),?_⟩
      exact Wk.ren [] rfl .nil (by (repeat (first|exact RNs.nil|refine RNs.cons (.keep rfl rfl) ?_)))
    · rw [if_neg (by rw [h2];exact Bool.false_ne_true)] at hr
      repeat (first|(with_reducible first|refine mv ?_|refine TO.nil ?_)|((with_reducible first|apply TO.bin|apply TO.mv);(repeat (focus (show _ = _;first|exact k2 rfl|(simp only [zz,y36,h2]<;>exact rfl))));(with_reducible apply TO.here))|((with_reducible apply TX.region);(focus (simp only []<;>exact rfl));(focus rfl);(try dsimp only))|((with_reducible apply TX.cond_false);(focus rfl);(focus ((simp only [z1,h2];done)))))
      refine TX.unroll ?_
      repeat (first|(with_reducible first|refine mv ?_|refine TO.nil ?_)|((with_reducible first|apply TO.bin|apply TO.ia|apply TO.ld|apply TO.asg|apply TO.mv);(repeat (focus (show _ = _;first|exact k2 rfl|(simp only [zz,y36,tindexAddr,z5,Int.reduceLT,tload,rowOf,partT]<;>exact rfl)|exact rfl)));(with_reducible apply TO.here))|((with_reducible apply TX.region);(focus (simp only []<;>exact rfl));(focus rfl);(try dsimp only))|((with_reducible apply TX.cond_true);(focus rfl);(focus (rfl))))
      obtain ⟨v11,h3,hr⟩:=Option.bind_eq_some_iff.1 hr
      try dsimp only at hr
      apply TO.cal (by first|rfl|(simp only [twant,z1,z7,h2]<;>rfl)) rfl goFn88 (loop_refuse_c1_11f9_spec h3) rfl rfl rfl
      (repeat (focus (show _ = _;(simp only [zz,shift]<;>exact rfl))))
      with_reducible apply TO.here
      repeat (first|(with_reducible first|refine mv ?_|refine TO.nil ?_)|((with_reducible first|apply TO.asg|apply TO.mv|apply TO.bin);(repeat (focus (show _ = _;first|exact k2 rfl|(simp only [zz]<;>exact rfl))));(with_reducible apply TO.here))|((with_reducible apply TX.region);(focus (simp only []<;>exact rfl));(focus rfl);(try dsimp only)))
      rcases Bool.eq_false_or_eq_true ((decide (v11 ≠ 0))) with h4|h4
      · rw [if_pos h4] at hr
        repeat (first|(with_reducible first|refine mv ?_|refine TO.nil ?_)|((with_reducible first|apply TO.mv|apply TO.asg);(repeat (focus (show _ = _;first|exact k2 rfl|(simp only [zz,h4]<;>exact rfl))));(with_reducible apply TO.here))|((with_reducible apply TX.region);(focus (simp only []<;>exact rfl));(focus rfl);(try dsimp only))|((with_reducible apply TX.cond_true);(focus rfl);(focus ((simp only [z1,h4];done)))))
        cases hr
        refine ⟨.inr rfl,_,(by simp only [];exact rfl),?_⟩
        exact Wk.ren [] rfl .nil (by (repeat (first|exact RNs.nil|refine RNs.cons (.keep rfl rfl) ?_)))
      · rw [if_neg (by rw [h4];exact Bool.false_ne_true)] at hr
        repeat (first|(with_reducible first|refine mv ?_|refine TO.nil ?_)|((with_reducible first|apply TO.bin|apply TO.mv);(repeat (focus (show _ = _;first|exact k2 rfl|(simp only [zz,y36,h4]<;>exact rfl))));(with_reducible apply TO.here))|((with_reducible apply TX.region);(focus (simp only []<;>exact rfl));(focus rfl);(try dsimp only))|((with_reducible apply TX.cond_false);(focus rfl);(focus ((simp only [z1,h4];done)))))
        refine TX.unroll ?_
        repeat (first|(with_reducible first|refine mv ?_|refine TO.nil ?_)|((with_reducible first|apply TO.bin|apply TO.asg);(repeat (focus (show _ = _;first|exact k2 rfl|(simp only [zz]<;>exact rfl))));(with_reducible apply TO.here))|((with_reducible apply TX.region);(focus (simp only []<;>exact rfl));(focus rfl);(try dsimp only))|((with_reducible apply TX.cond_false);(focus rfl);(focus (rfl))))
        cases hr
        refine ⟨.inr rfl,_,(by simp only [];exact rfl),?_⟩
        exact Wk.ren [] rfl .nil (by (repeat (first|exact RNs.nil|refine RNs.cons (.keep rfl rfl) ?_)))
  rfl

end Go.Rex

namespace Go.Rex
open Go.Proofs
open Go Go.Rex Go.RowKit
set_option maxRecDepth 100000
set_option maxHeartbeats 200000
def y37:=an @ag39 <| an @ag97 <| an @cs94 <| an @so122 <| an @so39 <| @zc94
theorem loop_plot_provenBy_c2_e9f9_spec {v1 : (List (Int × Int))} {v2 : (List (Int × Int))} {v3 : (List Int)} {v4 : Int} {v5 : (List (Int × Int))} {v6 : Int} (hr : loop_plot_provenBy_c2_e9f9 v1 v2 v3 v4 v5 = some (v6)) : Spec (lim Try.prog) 90 [.fptr true [.list 2 (v1.map e_ii)] 0,.fptr true [.func 89 [] [.fptr true [.list 2 (v2.map e_ii)] 0]] 0,.fptr true [.list 1 (v3.map e_i),.v (.int .i64 v4),.list 2 (v5.map e_ii)] 0] ⟨[.v (.int .i64 v6)],[]⟩:=by
  unfold loop_plot_provenBy_c2_e9f9 at hr
  apply Spec.fn Try.func90 rfl
  focus (simp [Try.f90]<;>exact rfl)
  focus
    repeat (first|(with_reducible first|refine mv ?_|refine TO.nil ?_)|((with_reducible apply TO.asg);(repeat (focus (show _ = _;first|exact k2 rfl|(simp only [zz]<;>exact rfl))));(with_reducible apply TO.here))|((with_reducible apply TX.region);(focus (simp only []<;>exact rfl));(focus rfl);(try dsimp only))|((with_reducible first|apply TD.ld|apply TD.len|apply TD.mf);(repeat (focus (show _ = _;first|exact k1 rfl|exact k2 rfl|(simp only [zz,y37,tload,rowOf,partT,tlen]<;>exact rfl)|exact rfl)));(with_reducible refine TD.here ?_))|((with_reducible apply TX.drawn);(focus decide +kernel);(focus (simp only []<;>exact rfl));(focus exact rfl);(try dsimp only)))
    obtain ⟨⟨v7,v8,v9,v10,v11,v12⟩,h1,hr⟩:=Option.bind_eq_some_iff.1 hr
    try dsimp only at hr
    first|apply TD.cal (by first|rfl|(simp only [twant,z1,z7]<;>rfl)) rfl goFn91 (loop_each_561b_spec h1) rfl rfl rfl|apply TD.calw (by first|rfl|(simp only [twant,z1,z7]<;>rfl)) rfl goFn91 (loop_each_561b_spec h1) rfl rfl rfl rfl
    (repeat (focus (show _ = _;(simp only [zz,shift]<;>exact rfl))))
    with_reducible apply TD.here
    repeat (((with_reducible first|apply TD.ld|apply TD.len);(repeat (focus (show _ = _;first|exact k2 rfl|(simp only [zz,y37,tload,rowOf,partT,tlen]<;>exact rfl)|exact rfl)));(with_reducible refine TD.here ?_)))
    obtain ⟨v13,h2,hr⟩:=Option.bind_eq_some_iff.1 hr
    try dsimp only at hr
    first|apply TD.cal (by first|rfl|(simp only [twant,z1,z7]<;>rfl)) rfl goFn89 (loop_plot_provenBy_c1_cff2_spec h2) rfl rfl rfl|apply TD.calw (by first|rfl|(simp only [twant,z1,z7]<;>rfl)) rfl goFn89 (loop_plot_provenBy_c1_cff2_spec h2) rfl rfl rfl rfl
    (repeat (focus (show _ = _;(simp only [zz,shift]<;>exact rfl))))
    with_reducible apply TD.here
    repeat (((with_reducible apply TD.bin);(repeat (focus (show _ = _;first|exact k2 rfl|(simp only [zz]<;>exact rfl))));(with_reducible refine TD.here ?_)))
    obtain ⟨⟨v14,v15⟩,h3,hr⟩:=Option.bind_eq_some_iff.1 hr
    try dsimp only at hr
    first|apply TD.cal (by first|rfl|(simp only [twant,z1,z7]<;>rfl)) rfl goFn55 (loop_refuse_spec h3) rfl rfl rfl|apply TD.calw (by first|rfl|(simp only [twant,z1,z7]<;>rfl)) rfl goFn55 (loop_refuse_spec h3) rfl rfl rfl rfl
    (repeat (focus (show _ = _;(simp only [zz,shift]<;>exact rfl))))
    with_reducible apply TD.here
    repeat (((with_reducible apply TD.bs);(repeat (focus (show _ = _;first|exact k2 rfl|(simp only [zz,y37,Nat.reduceAdd,Nat.reduceMul,tslice,tparts]<;>exact rfl)|exact rfl)));(with_reducible refine TD.here ?_)))
    obtain ⟨v16,h4,hr⟩:=Option.bind_eq_some_iff.1 hr
    try dsimp only at hr
    first|apply TD.cal (by first|rfl|(simp only [twant,z1,z7]<;>rfl)) rfl goFn48 (loop_firstError_ba72_spec h4) rfl rfl rfl|apply TD.calw (by first|rfl|(simp only [twant,z1,z7]<;>rfl)) rfl goFn48 (loop_firstError_ba72_spec h4) rfl rfl rfl rfl
    (repeat (focus (show _ = _;(simp only [zz,shift]<;>exact rfl))))
    with_reducible apply TD.here
    repeat (first|(with_reducible first|refine mv ?_|refine TD.nil ?_)|((with_reducible apply TD.asg);(repeat (focus (show _ = _;first|exact k2 rfl|(simp only [zz]<;>exact rfl))));(with_reducible refine TD.here ?_)))
    cases hr
    refine ⟨.inr rfl,_,(by simp only [];exact rfl),?_⟩
    exact wr [] rfl .nil
  rfl

end Go.Rex

namespace Go.Rex
open Go.Proofs
open Go Go.Rex Go.RowKit
set_option maxRecDepth 100000
set_option maxHeartbeats 200000
def y38:=an @ag94 <| an @cs94 <| an @ok94 <| an @so122 <| an @wi64_0a1 <| an @wi64_1a1 <| @wi64_2a1
theorem loop_firstError_ce11_spec {v1 : (List Int)} {v2 : Int} {v3 : Bool} {v4 : Int} {v5 : (List (Int × Int))} {v6 : (List (Int × Int))} {v7 : (List Int)} {v8 : Int} {v9 : (List (Int × Int))} {v10 : Int} (hr : loop_firstError_ce11 v1 v2 v3 v4 v5 v6 v7 v8 v9 = some (v10)) : Spec (lim Try.prog) 48 [.list 1 [[.func 49 [.agg [.list 1 (v1.map e_i),.v (.int .i64 v2)]] []],[.func 88 [] [.fptr true [.v (.bool v3)] 0,.fptr true [.v (.int .i64 v4)] 0]],[.func 90 [] [.fptr true [.list 2 (v5.map e_ii)] 0,.fptr true [.func 89 [] [.fptr true [.list 2 (v6.map e_ii)] 0]] 0,.fptr true [.list 1 (v7.map e_i),.v (.int .i64 v8),.list 2 (v9.map e_ii)] 0]]]] ⟨[.v (.int .i64 v10)],[]⟩:=by
  unfold loop_firstError_ce11 at hr
  apply Spec.fn Try.func48 rfl
  focus (simp [Try.f48]<;>exact rfl)
  focus
    repeat (first|(with_reducible first|refine mv ?_|refine TO.nil ?_)|((with_reducible first|apply TO.asg|apply TO.mv|apply TO.len);(repeat (focus (show _ = _;first|exact k2 rfl|(simp only [zz,y38,Nat.reduceAdd,tlen]<;>exact rfl))));(with_reducible apply TO.here))|((with_reducible apply TX.region);(focus (simp only []<;>exact rfl));(focus rfl);(try dsimp only)))
    refine TX.unroll ?_
    repeat (first|(with_reducible first|refine mv ?_|refine TO.nil ?_)|((with_reducible first|apply TO.bin|apply TO.ia|apply TO.ld|apply TO.asg|apply TO.mv);(repeat (focus (show _ = _;first|exact k2 rfl|(simp only [zz,y38,tindexAddr,z5,Int.reduceLT,Int.cast_ofNat_Int,tload,rowOf,partT]<;>exact rfl)|exact rfl)));(with_reducible apply TO.here))|((with_reducible apply TX.region);(focus (simp only []<;>exact rfl));(focus rfl);(try dsimp only))|((with_reducible apply TX.cond_true);(focus rfl);(focus (rfl))))
    obtain ⟨v11,h1,hr⟩:=Option.bind_eq_some_iff.1 hr
    try dsimp only at hr
    apply TO.cal (by first|rfl|(simp only [twant,z1,z7]<;>rfl)) rfl goFn49 (loop_feedback_check_spec h1) rfl rfl rfl
    (repeat (focus (show _ = _;(simp only [zz,shift]<;>exact rfl))))
    with_reducible apply TO.here
    repeat (first|(with_reducible first|refine mv ?_|refine TO.nil ?_)|((with_reducible first|apply TO.asg|apply TO.mv|apply TO.bin);(repeat (focus (show _ = _;first|exact k2 rfl|(simp only [zz]<;>exact rfl))));(with_reducible apply TO.here))|((with_reducible apply TX.region);(focus (simp only []<;>exact rfl));(focus rfl);(try dsimp only)))
    rcases Bool.eq_false_or_eq_true ((decide (v11 ≠ 0))) with h2|h2
    · rw [if_pos h2] at hr
      repeat (first|(with_reducible first|refine mv ?_|refine TO.nil ?_)|((with_reducible first|apply TO.mv|apply TO.asg);(repeat (focus (show _ = _;first|exact k2 rfl|(simp only [zz,h2]<;>exact rfl))));(with_reducible apply TO.here))|((with_reducible apply TX.region);(focus (simp only []<;>exact rfl));(focus rfl);(try dsimp only))|((with_reducible apply TX.cond_true);(focus rfl);(focus ((simp only [z1,h2];done)))))
      cases hr
      refine ⟨.inr rfl,_,(by simp only [];exact rfl),?_⟩
      exact Wk.ren [] rfl .nil (by (repeat (first|exact RNs.nil|refine RNs.cons (.keep rfl rfl) ?_)))
    · rw [if_neg (by rw [h2];exact Bool.false_ne_true)] at hr
      repeat (first|(with_reducible first|refine mv ?_|refine TO.nil ?_)|((with_reducible first|apply TO.bin|apply TO.mv);(repeat (focus (show _ = _;first|exact k2 rfl|(simp only [zz,y38,h2]<;>exact rfl))));(with_reducible apply TO.here))|((with_reducible apply TX.region);(focus (simp only []<;>exact rfl));(focus rfl);(try dsimp only))|((with_reducible apply TX.cond_false);(focus rfl);(focus ((simp only [z1,h2];done)))))
      refine TX.unroll ?_
      repeat (first|(with_reducible first|refine mv ?_|refine TO.nil ?_)|((with_reducible first|apply TO.bin|apply TO.ia|apply TO.ld|apply TO.asg|apply TO.mv);(repeat (focus (show _ = _;first|exact k2 rfl|(simp only [zz,y38,tindexAddr,z5,Int.reduceLT,tload,rowOf,partT]<;>exact rfl)|exact rfl)));(with_reducible apply TO.here))|((with_reducible apply TX.region);(focus (simp only []<;>exact rfl));(focus rfl);(try dsimp only))|((with_reducible apply TX.cond_true);(focus rfl);(focus (rfl))))
      obtain ⟨v12,h3,hr⟩:=Option.bind_eq_some_iff.1 hr
      try dsimp only at hr
      apply TO.cal (by first|rfl|(simp only [twant,z1,z7,h2]<;>rfl)) rfl goFn88 (loop_refuse_c1_11f9_spec h3) rfl rfl rfl
      (repeat (focus (show _ = _;(simp only [zz,shift]<;>exact rfl))))
      with_reducible apply TO.here
      repeat (first|(with_reducible first|refine mv ?_|refine TO.nil ?_)|((with_reducible first|apply TO.asg|apply TO.mv|apply TO.bin);(repeat (focus (show _ = _;first|exact k2 rfl|(simp only [zz]<;>exact rfl))));(with_reducible apply TO.here))|((with_reducible apply TX.region);(focus (simp only []<;>exact rfl));(focus rfl);(try dsimp only)))
      rcases Bool.eq_false_or_eq_true ((decide (v12 ≠ 0))) with h4|h4
      · rw [if_pos h4] at hr
        repeat (first|(with_reducible first|refine mv ?_|refine TO.nil ?_)|((with_reducible first|apply TO.mv|apply TO.asg);(repeat (focus (show _ = _;first|exact k2 rfl|(simp only [zz,h4]<;>exact rfl))));(with_reducible apply TO.here))|((with_reducible apply TX.region);(focus (simp only []<;>exact rfl));(focus rfl);(try dsimp only))|((with_reducible apply TX.cond_true);(focus rfl);(focus ((simp only [z1,h4];done)))))
        cases hr
        refine ⟨.inr rfl,_,(by simp only [];exact rfl),?_⟩
        exact Wk.ren [] rfl .nil (by (repeat (first|exact RNs.nil|refine RNs.cons (.keep rfl rfl) ?_)))
      · rw [if_neg (by rw [h4];exact Bool.false_ne_true)] at hr
        repeat (first|(with_reducible first|refine mv ?_|refine TO.nil ?_)|((with_reducible first|apply TO.bin|apply TO.mv);(repeat (focus (show _ = _;first|exact k2 rfl|(simp only [zz,y38,h4]<;>exact rfl))));(with_reducible apply TO.here))|((with_reducible apply TX.region);(focus (simp only []<;>exact rfl));(focus rfl);(try dsimp only))|((with_reducible apply TX.cond_false);(focus rfl);(focus ((simp only [z1,h4];done)))))
        refine TX.unroll ?_
        repeat (first|(with_reducible first|refine mv ?_|refine TO.nil ?_)|((with_reducible first|apply TO.bin|apply TO.ia|apply TO.ld|apply TO.asg|apply TO.mv);(repeat (focus (show _ = _;first|exact k2 rfl|(simp only [zz,y38,tindexAddr,z5,Int.reduceLT,tload,rowOf,partT]<;>exact rfl)|exact rfl)));(with_reducible apply TO.here))|((with_reducible apply TX.region);(focus (simp only []<;>exact rfl));(focus rfl);(try dsimp only))|((with_reducible apply TX.cond_true);(focus rfl);(focus (rfl))))
        obtain ⟨v13,h5,hr⟩:=Option.bind_eq_some_iff.1 hr
        try dsimp only at hr
        apply TO.cal (by first|rfl|(simp only [twant,z1,z7,h2,h4]<;>rfl)) rfl goFn90 (loop_plot_provenBy_c2_e9f9_spec h5) rfl rfl rfl
        (repeat (focus (show _ = _;(simp only [zz,shift]<;>exact rfl))))
        with_reducible apply TO.here
        repeat (first|(with_reducible first|refine mv ?_|refine TO.nil ?_)|((with_reducible first|apply TO.asg|apply TO.mv|apply TO.bin);(repeat (focus (show _ = _;first|exact k2 rfl|(simp only [zz]<;>exact rfl))));(with_reducible apply TO.here))|((with_reducible apply TX.region);(focus (simp only []<;>exact rfl));(focus rfl);(try dsimp only)))
        rcases Bool.eq_false_or_eq_true ((decide (v13 ≠ 0))) with h6|h6
        · rw [if_pos h6] at hr
          repeat (first|(with_reducible first|refine mv ?_|refine TO.nil ?_)|((with_reducible first|apply TO.mv|apply TO.asg);(repeat (focus (show _ = _;first|exact k2 rfl|(simp only [zz,h6]<;>exact rfl))));(with_reducible apply TO.here))|((with_reducible apply TX.region);(focus (simp only []<;>exact rfl));(focus rfl);(try dsimp only))|((with_reducible apply TX.cond_true);(focus rfl);(focus ((simp only [z1,h6];done)))))
          cases hr
          refine ⟨.inr rfl,_,(by simp only [];exact rfl),?_⟩
          exact Wk.ren [] rfl .nil (by (repeat (first|exact RNs.nil|refine RNs.cons (.keep rfl rfl) ?_)))
        · rw [if_neg (by rw [h6];exact Bool.false_ne_true)] at hr
          repeat (first|(with_reducible first|refine mv ?_|refine TO.nil ?_)|((with_reducible first|apply TO.bin|apply TO.mv);(repeat (focus (show _ = _;first|exact k2 rfl|(simp only [zz,y38,h6]<;>exact rfl))));(with_reducible apply TO.here))|((with_reducible apply TX.region);(focus (simp only []<;>exact rfl));(focus rfl);(try dsimp only))|((with_reducible apply TX.cond_false);(focus rfl);(focus ((simp only [z1,h6];done)))))
          refine TX.unroll ?_
          repeat (first|(with_reducible first|refine mv ?_|refine TO.nil ?_)|((with_reducible first|apply TO.bin|apply TO.asg);(repeat (focus (show _ = _;first|exact k2 rfl|(simp only [zz]<;>exact rfl))));(with_reducible apply TO.here))|((with_reducible apply TX.region);(focus (simp only []<;>exact rfl));(focus rfl);(try dsimp only))|((with_reducible apply TX.cond_false);(focus rfl);(focus (rfl))))
          cases hr
          refine ⟨.inr rfl,_,(by simp only [];exact rfl),?_⟩
          exact Wk.ren [] rfl .nil (by (repeat (first|exact RNs.nil|refine RNs.cons (.keep rfl rfl) ?_)))
  rfl

end Go.Rex

namespace Go.Rex
open Go.Proofs
open Go Go.Rex Go.RowKit
set_option maxRecDepth 100000
set_option maxHeartbeats 200000
def y39:=an @ag24 <| an @ag86 <| an @ag90 <| an @cs24 <| an @cs86 <| an @cs90 <| an @cs94 <| an @fd90_0 <| an @ok24 <| an @ok86 <| an @ok90 <| an @so122 <| an @so39 <| an @zc90 <| @zc94
theorem loop_CheckArcs_spec {v1 : (List Int)} {v2 : Int} {v3 : (List (Int × Int))} {v4 : Int} {v5 : Int} (hr : loop_CheckArcs v1 v2 v3 = some (v4,v5)) : Spec (lim Try.prog) 17 [.agg [.list 1 (v1.map e_i),.v (.int .i64 v2)],.list 2 (v3.map e_ii)] ⟨[.tuple [.v (.int .i64 v4),.v (.int .i64 v5)]],[]⟩:=by
  unfold loop_CheckArcs at hr
  apply Spec.fn Try.func17 rfl
  focus (simp [Try.f17]<;>exact rfl)
  focus
    repeat (first|(with_reducible first|refine mv ?_|refine TO.nil ?_)|((with_reducible first|apply TO.bf|apply TO.asg|apply TO.ld);(repeat (focus (show _ = _;first|exact k1 rfl|exact k2 rfl|(simp only [zz,y39,Nat.reduceAdd,Nat.reduceLeDiff,tload,rowOf,partT]<;>exact rfl)|exact rfl)));(with_reducible apply TO.here))|((with_reducible apply TX.region);(focus (simp only []<;>exact rfl));(focus rfl);(try dsimp only)))
    obtain ⟨⟨v6,v7,v8⟩,h1,hr⟩:=Option.bind_eq_some_iff.1 hr
    try dsimp only at hr
    apply TO.cal (by first|rfl|(simp only [twant,z1,z7]<;>rfl)) rfl goFn47 (loop_plotOf_spec h1) rfl rfl rfl
    (repeat (focus (show _ = _;(simp only [zz,Nat.reduceAdd,shift]<;>exact rfl))))
    with_reducible apply TO.here
    repeat (first|(with_reducible first|refine mv ?_|refine TO.nil ?_)|((with_reducible first|apply TO.al|apply TO.sv);(repeat (focus (show _ = _;first|exact k1 rfl|exact k2 rfl|(simp only [zz,y39,Nat.reduceAdd]<;>exact rfl))));(with_reducible apply TO.here))|((with_reducible first|apply TD.fa|apply TD.ld|apply TD.mf|apply TD.mv|apply TD.len|apply TD.bin);(repeat (focus (show _ = _;first|exact k1 rfl|exact k2 rfl|(simp only [zz,y39,Nat.reduceAdd,Nat.reduceLeDiff,tfieldAddr,tload,rowOf,partT,tlen]<;>exact rfl)|exact rfl)));(with_reducible refine TD.here ?_))|((with_reducible apply TX.drawn);(focus decide +kernel);(focus (simp only []<;>exact rfl));(focus exact rfl);(try dsimp only)))
    obtain ⟨⟨v9,v10⟩,h2,hr⟩:=Option.bind_eq_some_iff.1 hr
    try dsimp only at hr
    first|apply TD.cal (by first|rfl|(simp only [twant,z1,z7]<;>rfl)) rfl goFn55 (loop_refuse_spec h2) rfl rfl rfl|apply TD.calw (by first|rfl|(simp only [twant,z1,z7]<;>rfl)) rfl goFn55 (loop_refuse_spec h2) rfl rfl rfl rfl
    (repeat (focus (show _ = _;(simp only [zz,shift]<;>exact rfl))))
    with_reducible apply TD.here
    repeat (((with_reducible first|apply TD.ld|apply TD.mv);(repeat (focus (show _ = _;first|exact k2 rfl|(simp only [zz,y39,Nat.reduceAdd,Nat.reduceLeDiff,tload,rowOf,partT]<;>exact rfl)|exact rfl)));(with_reducible refine TD.here ?_)))
    apply TD.frz 0 rfl rfl
    (repeat (focus (show _ = _;(simp only [zz,Nat.reduceEqDiff,frz,frzB,tmlc]<;>exact rfl))))
    with_reducible apply TD.here
    obtain ⟨⟨v16,v17,v18,v19,v20⟩,h4,hr⟩:=Option.bind_eq_some_iff.1 hr
    try dsimp only at hr
    first|apply TD.cal (by first|rfl|(simp only [twant,z1,z7]<;>rfl)) rfl goFn56 (loop_plot_provenBy_spec h4) rfl rfl rfl|apply TD.calw (by first|rfl|(simp only [twant,z1,z7]<;>rfl)) rfl goFn56 (loop_plot_provenBy_spec h4) rfl rfl rfl rfl
    (repeat (focus (show _ = _;(simp only [zz,shift]<;>exact rfl))))
    with_reducible apply TD.here
    repeat (((with_reducible apply TD.bs);(repeat (focus (show _ = _;first|exact k2 rfl|(simp only [zz,y39,Nat.reduceAdd,Nat.reduceMul,tslice,tparts]<;>exact rfl)|exact rfl)));(with_reducible refine TD.here ?_)))
    obtain ⟨v21,h5,hr⟩:=Option.bind_eq_some_iff.1 hr
    try dsimp only at hr
    first|apply TD.cal (by first|rfl|(simp only [twant,z1,z7]<;>rfl)) rfl goFn48 (loop_firstError_ce11_spec h5) rfl rfl rfl|apply TD.calw (by first|rfl|(simp only [twant,z1,z7]<;>rfl)) rfl goFn48 (loop_firstError_ce11_spec h5) rfl rfl rfl rfl
    (repeat (focus (show _ = _;(simp only [zz,shift]<;>exact rfl))))
    with_reducible apply TD.here
    repeat (first|(with_reducible first|refine mv ?_|refine TO.nil ?_)|((with_reducible first|apply TO.mv|apply TO.bin);(repeat (focus (show _ = _;first|exact k2 rfl|(simp only [zz]<;>exact rfl))));(with_reducible apply TO.here))|((with_reducible apply TX.region);(focus (simp only []<;>exact rfl));(focus rfl);(try dsimp only))|with_reducible refine TD.nil ?_|((with_reducible apply TD.asg);(repeat (focus (show _ = _;first|exact k2 rfl|(simp only [zz]<;>exact rfl))));(with_reducible refine TD.here ?_)))
    rcases Bool.eq_false_or_eq_true ((decide (v21 ≠ 0))) with h6|h6
    · rw [if_pos h6] at hr
      repeat (first|(with_reducible first|refine mv ?_|refine TO.nil ?_)|((with_reducible first|apply TO.mv|apply TO.asg);(repeat (focus (show _ = _;first|exact k2 rfl|(simp only [zz,h6]<;>exact rfl))));(with_reducible apply TO.here))|((with_reducible apply TX.region);(focus (simp only []<;>exact rfl));(focus rfl);(try dsimp only))|((with_reducible apply TX.cond_true);(focus rfl);(focus ((simp only [z1,h6];done)))))
      cases hr
      refine ⟨.inr rfl,_,(by simp only [];exact rfl),?_⟩
      exact Wk.ren [] rfl .nil (by (repeat (first|exact RNs.nil|refine RNs.cons (.keep rfl rfl) ?_)))
    · rw [if_neg (by rw [h6];exact Bool.false_ne_true)] at hr
      repeat (first|(with_reducible first|refine mv ?_|refine TO.nil ?_)|((with_reducible first|apply TO.mv|apply TO.len|apply TO.asg);(repeat (focus (show _ = _;first|exact k2 rfl|(simp only [zz,y39,tlen,h6]<;>exact rfl))));(with_reducible apply TO.here))|((with_reducible apply TX.region);(focus (simp only []<;>exact rfl));(focus rfl);(try dsimp only))|((with_reducible apply TX.cond_false);(focus rfl);(focus ((simp only [z1,h6];done)))))
      cases hr
      refine ⟨.inr rfl,_,(by simp only [];exact rfl),?_⟩
      exact Wk.ren [] rfl .nil (by (repeat (first|exact RNs.nil|refine RNs.cons (.keep rfl rfl) ?_)))
  rfl

end Go.Rex

namespace Go.Rex
open Go.Proofs
open Go Go.Rex Go.RowKit
set_option maxRecDepth 100000
set_option maxHeartbeats 200000
def y40:=an @ag26 <| an @cs26 <| an @ok26 <| an @st26 <| @zc26
theorem loop_atPoint_spec {v1 : Int} {v2 : Int} {v3 : Int} (hr : loop_atPoint v1 = some (v2,v3)) : Spec (lim Try.prog) 95 [.v (.int .i64 v1)] ⟨[.agg [.v (.int .i64 v2),.v (.int .i64 v3)]],[]⟩:=by
  unfold loop_atPoint at hr
  apply Spec.fn Try.func95 rfl
  focus (simp [Try.f95]<;>exact rfl)
  focus
    repeat (first|(with_reducible first|refine mv ?_|refine TO.nil ?_)|((with_reducible first|apply TO.al|apply TO.mv|apply TO.bld|apply TO.sv);(repeat (focus (show _ = _;first|exact k1 rfl|exact k2 rfl|(simp only [zz,y40,Nat.reduceAdd,Nat.reduceLeDiff,tbuild,tfill]<;>exact rfl))));(with_reducible apply TO.here))|((with_reducible apply TX.region);(focus (simp only []<;>exact rfl));(focus rfl);(try dsimp only)))
    cases hr
    refine ⟨.inr rfl,_,(by simp only [];exact rfl),?_⟩
    exact wr [] rfl .nil
  rfl

end Go.Rex

namespace Go.Rex
open Go.Proofs
open Go Go.Rex Go.RowKit
set_option maxRecDepth 100000
set_option maxHeartbeats 200000
def y41:=an @ag3 <| an @fd30_0 <| @fd30_2
theorem loop_isBeyond_spec {v1 : Int} {v2 : Int} {v3 : Int} {v4 : Bool} (hr : loop_isBeyond v1 v2 v3 = some (v4)) : Spec (lim Try.prog) 96 [.agg [.v (.int .i64 v1),.v (.int .i64 v2),.v (.int .i64 v3)]] ⟨[.v (.bool v4)],[]⟩:=by
  unfold loop_isBeyond at hr
  apply Spec.fn Try.func96 rfl
  focus (simp [Try.f96]<;>exact rfl)
  focus
    repeat (first|(with_reducible first|refine mv ?_|refine TO.nil ?_)|((with_reducible first|apply TO.bf|apply TO.asg|apply TO.fa|apply TO.ld|apply TO.bin);(repeat (focus (show _ = _;first|exact k1 rfl|exact k2 rfl|(simp only [zz,y41,Nat.reduceAdd,tfieldAddr,tload,rowOf,partT]<;>exact rfl)|exact rfl)));(with_reducible apply TO.here))|((with_reducible apply TX.region);(focus (simp only []<;>exact rfl));(focus rfl);(try dsimp only)))
    cases hr
    refine ⟨.inr rfl,_,(by simp only [];exact rfl),?_⟩
    exact wr [] rfl .nil
  rfl

end Go.Rex

namespace Go.Rex
open Go.Proofs
open Go Go.Rex Go.RowKit
set_option maxRecDepth 100000
set_option maxHeartbeats 1000000
def y42:=an @ag26 <| an @ag3 <| an @ag90 <| an @cs26 <| an @cs90 <| an @eqg26 <| an @eqs26 <| an @fd26_0 <| an @fd26_1 <| an @ok26 <| @ok90
theorem loop_plot_ringsOn_spec {v1 : (List Int)} {v2 : Int} {v3 : (List (Int × Int))} {v4 : Int} {v5 : Int} {v6 : Bool} (hr : loop_plot_ringsOn v1 v2 v3 v4 v5 = some (v6)) : Spec (lim Try.prog) 58 [.agg [.list 1 (v1.map e_i),.v (.int .i64 v2),.list 2 (v3.map e_ii)],.agg [.v (.int .i64 v4),.v (.int .i64 v5)]] ⟨[.v (.bool v6)],[]⟩:=by
  unfold loop_plot_ringsOn at hr
  apply Spec.fn Try.func58 rfl
  focus (simp [Try.f58]<;>exact rfl)
  focus
    repeat (first|(with_reducible first|refine mv ?_|refine TO.nil ?_)|((with_reducible first|apply TO.bf|apply TO.asg);(repeat (focus (show _ = _;first|exact k1 rfl|exact k2 rfl|(simp only [zz]<;>exact rfl)|exact rfl)));(with_reducible apply TO.here))|((with_reducible apply TX.region);(focus (simp only []<;>exact rfl));(focus rfl);(try dsimp only))|((with_reducible apply TD.ld);(repeat (focus (show _ = _;first|exact k2 rfl|(simp only [zz,y42,Nat.reduceAdd,Nat.reduceLeDiff,tload,rowOf,partT]<;>exact rfl)|exact rfl)));(with_reducible refine TD.here ?_))|((with_reducible apply TX.drawn);(focus decide +kernel);(focus (simp only []<;>exact rfl));(focus exact rfl);(try dsimp only)))
    obtain ⟨⟨v7,v8⟩,h1,hr⟩:=Option.bind_eq_some_iff.1 hr
    try dsimp only at hr
    first|apply TD.cal (by first|rfl|(simp only [twant,z1,z7]<;>rfl)) rfl goFn95 (loop_atPoint_spec h1) rfl rfl rfl|apply TD.calw (by first|rfl|(simp only [twant,z1,z7]<;>rfl)) rfl goFn95 (loop_atPoint_spec h1) rfl rfl rfl rfl
    (repeat (focus (show _ = _;(simp only [zz,shift]<;>exact rfl))))
    with_reducible apply TD.here
    apply TD.pop1 (by first|rfl|(simp only [twant,z1,z7]<;>rfl)) (pop_eqs1 (X:=⟨[.int .i64 (v4),.int .i64 (v5)]⟩) (Y:=⟨[.int .i64 (v7),.int .i64 (v8)]⟩) rfl rfl rfl rfl rfl rfl rfl eqg26 eqs26 rfl)
    (repeat (focus (show _ = _;(simp only [zz]<;>exact rfl))))
    with_reducible apply TD.here
    repeat (((with_reducible apply TD.mv);(repeat (focus (show _ = _;first|exact k2 rfl|(simp only [zz]<;>exact rfl))));(with_reducible refine TD.here ?_)))
    rcases Bool.eq_false_or_eq_true (([v4 == v7,v5 == v8].all id)) with h2|h2
    · rw [if_pos h2] at hr
      repeat (first|with_reducible refine mv ?_|((with_reducible first|apply TO.ld|apply TO.fa);(repeat (focus (show _ = _;first|exact k2 rfl|(simp only [zz,y42,Nat.reduceAdd,Nat.reduceLeDiff,tload,rowOf,partT,tfieldAddr]<;>exact rfl)|exact rfl)));(with_reducible apply TO.here))|((with_reducible apply TX.region);(focus (simp only []<;>exact rfl));(focus rfl);(try dsimp only))|with_reducible refine TD.nil ?_|((with_reducible apply TD.pk);(repeat (focus (show _ = _;first|exact k2 rfl|(simp only [zz]<;>exact rfl))));(with_reducible refine TD.here ?_))|((with_reducible apply TD.skip1);(repeat (focus (show _ = _;(simp only [zz,twant,zp,zs,h2]<;>exact rfl))));(with_reducible refine TD.here ?_))|((with_reducible apply TX.cond_true);(focus rfl);(focus (rfl))))
      obtain ⟨⟨v9,v10,v11⟩,h3,hr⟩:=Option.bind_eq_some_iff.1 hr
      try dsimp only at hr
      apply TO.cal (by first|rfl|(simp only [twant,z1,z7,h2]<;>rfl)) rfl goFn51 (loop_plot_value_spec h3) rfl rfl rfl
      (repeat (focus (show _ = _;(simp only [zz,shift]<;>exact rfl))))
      with_reducible apply TO.here
      obtain ⟨v12,h4,hr⟩:=Option.bind_eq_some_iff.1 hr
      try dsimp only at hr
      apply TO.cal (by first|rfl|(simp only [twant,z1,z7,h2]<;>rfl)) rfl goFn96 (loop_isBeyond_spec h4) rfl rfl rfl
      (repeat (focus (show _ = _;(simp only [zz,shift]<;>exact rfl))))
      with_reducible apply TO.here
      repeat (first|(with_reducible first|refine mv ?_|refine TO.nil ?_)|((with_reducible apply TO.asg);(repeat (focus (show _ = _;first|exact k2 rfl|(simp only [zz]<;>exact rfl))));(with_reducible apply TO.here)))
      cases hr
      refine ⟨.inr rfl,_,(by simp only [];exact rfl),?_⟩
      exact Wk.ren [] rfl .nil (by (repeat (first|exact RNs.nil|refine RNs.cons (.keep rfl rfl) ?_)))
    · rw [if_neg (by rw [h2];exact Bool.false_ne_true)] at hr
      repeat (((with_reducible apply TD.ld);(repeat (focus (show _ = _;first|(simp only [zz,y42,Nat.reduceAdd,Nat.reduceLeDiff,tload,rowOf,partT,h2]<;>exact rfl)|exact rfl)));(with_reducible refine TD.here ?_)))
      obtain ⟨⟨v13,v14⟩,h5,hr⟩:=Option.bind_eq_some_iff.1 hr
      try dsimp only at hr
      first|apply TD.cal (by first|rfl|(simp only [twant,z1,z7,h2]<;>rfl)) rfl goFn95 (loop_atPoint_spec h5) rfl rfl rfl|apply TD.calw (by first|rfl|(simp only [twant,z1,z7,h2]<;>rfl)) rfl goFn95 (loop_atPoint_spec h5) rfl rfl rfl rfl
      (repeat (focus (show _ = _;(simp only [zz,shift]<;>exact rfl))))
      with_reducible apply TD.here
      apply TD.pop1 (by first|rfl|(simp only [twant,z1,z7,h2]<;>rfl)) (pop_eqs1 (X:=⟨[.int .i64 (v4),.int .i64 (v5)]⟩) (Y:=⟨[.int .i64 (v13),.int .i64 (v14)]⟩) rfl rfl rfl rfl rfl rfl rfl eqg26 eqs26 rfl)
      (repeat (focus (show _ = _;(simp only [zz]<;>exact rfl))))
      with_reducible apply TD.here
      repeat (first|(with_reducible first|refine mv ?_|refine TD.nil ?_)|((with_reducible apply TD.pk);(repeat (focus (show _ = _;first|exact k2 rfl|(simp only [zz]<;>exact rfl))));(with_reducible refine TD.here ?_)))
      rcases Bool.eq_false_or_eq_true (([v4 == v13,v5 == v14].all id)) with h6|h6
      · rw [if_pos h6] at hr
        repeat (first|with_reducible refine mv ?_|((with_reducible first|apply TO.ld|apply TO.fa);(repeat (focus (show _ = _;first|exact k2 rfl|(simp only [zz,y42,Nat.reduceAdd,Nat.reduceLeDiff,tload,rowOf,partT,tfieldAddr,h6]<;>exact rfl)|exact rfl)));(with_reducible apply TO.here))|((with_reducible apply TX.region);(focus (simp only []<;>exact rfl));(focus rfl);(try dsimp only))|((with_reducible apply TX.cond_true);(focus rfl);(focus ((simp only [z1,h6];done)))))
        obtain ⟨⟨v15,v16,v17⟩,h7,hr⟩:=Option.bind_eq_some_iff.1 hr
        try dsimp only at hr
        apply TO.cal (by first|rfl|(simp only [twant,z1,z7,h2,h6]<;>rfl)) rfl goFn51 (loop_plot_value_spec h7) rfl rfl rfl
        (repeat (focus (show _ = _;(simp only [zz,shift]<;>exact rfl))))
        with_reducible apply TO.here
        obtain ⟨v18,h8,hr⟩:=Option.bind_eq_some_iff.1 hr
        try dsimp only at hr
        apply TO.cal (by first|rfl|(simp only [twant,z1,z7,h2,h6]<;>rfl)) rfl goFn96 (loop_isBeyond_spec h8) rfl rfl rfl
        (repeat (focus (show _ = _;(simp only [zz,shift]<;>exact rfl))))
        with_reducible apply TO.here
        repeat (first|(with_reducible first|refine mv ?_|refine TO.nil ?_)|((with_reducible apply TO.asg);(repeat (focus (show _ = _;first|exact k2 rfl|(simp only [zz]<;>exact rfl))));(with_reducible apply TO.here)))
        cases hr
        refine ⟨.inr rfl,_,(by simp only [];exact rfl),?_⟩
        exact Wk.ren [] rfl .nil (by (repeat (first|exact RNs.nil|refine RNs.cons (.keep rfl rfl) ?_)))
      · rw [if_neg (by rw [h6];exact Bool.false_ne_true)] at hr
        repeat (first|with_reducible refine mv ?_|((with_reducible apply TD.ld);(repeat (focus (show _ = _;first|exact k2 rfl|(simp only [zz,y42,Nat.reduceAdd,Nat.reduceLeDiff,tload,rowOf,partT,h6]<;>exact rfl)|exact rfl)));(with_reducible refine TD.here ?_))|((with_reducible apply TX.drawn);(focus decide +kernel);(focus (simp only []<;>exact rfl));(focus exact rfl);(try dsimp only))|((with_reducible apply TX.cond_false);(focus rfl);(focus ((simp only [z1,h6];done)))))
        obtain ⟨⟨v19,v20,v21⟩,h9,hr⟩:=Option.bind_eq_some_iff.1 hr
        try dsimp only at hr
        first|apply TD.cal (by first|rfl|(simp only [twant,z1,z7,h2,h6]<;>rfl)) rfl goFn54 (loop_plot_ball_spec h9) rfl rfl rfl|apply TD.calw (by first|rfl|(simp only [twant,z1,z7,h2,h6]<;>rfl)) rfl goFn54 (loop_plot_ball_spec h9) rfl rfl rfl rfl
        (repeat (focus (show _ = _;(simp only [zz,shift]<;>exact rfl))))
        with_reducible apply TD.here
        obtain ⟨v22,h10,hr⟩:=Option.bind_eq_some_iff.1 hr
        try dsimp only at hr
        first|apply TD.cal (by first|rfl|(simp only [twant,z1,z7,h2,h6]<;>rfl)) rfl goFn96 (loop_isBeyond_spec h10) rfl rfl rfl|apply TD.calw (by first|rfl|(simp only [twant,z1,z7,h2,h6]<;>rfl)) rfl goFn96 (loop_isBeyond_spec h10) rfl rfl rfl rfl
        (repeat (focus (show _ = _;(simp only [zz,shift]<;>exact rfl))))
        with_reducible apply TD.here
        repeat (((with_reducible apply TD.mv);(repeat (focus (show _ = _;first|exact k2 rfl|(simp only [zz]<;>exact rfl))));(with_reducible refine TD.here ?_)))
        rcases Bool.eq_false_or_eq_true (v22) with h11|h11
        · rw [if_pos h11] at hr
          repeat (((with_reducible first|apply TD.ld|apply TD.fa);(repeat (focus (show _ = _;first|exact k2 rfl|(simp only [zz,y42,Nat.reduceAdd,Nat.reduceLeDiff,tload,rowOf,partT,tfieldAddr,h11]<;>exact rfl)|exact rfl)));(with_reducible refine TD.here ?_)))
          obtain ⟨⟨v23,v24,v25⟩,h12,hr⟩:=Option.bind_eq_some_iff.1 hr
          try dsimp only at hr
          first|apply TD.cal (by first|rfl|(simp only [twant,z1,z7,h2,h6,h11]<;>rfl)) rfl goFn51 (loop_plot_value_spec h12) rfl rfl rfl|apply TD.calw (by first|rfl|(simp only [twant,z1,z7,h2,h6,h11]<;>rfl)) rfl goFn51 (loop_plot_value_spec h12) rfl rfl rfl rfl
          (repeat (focus (show _ = _;(simp only [zz,shift]<;>exact rfl))))
          with_reducible apply TD.here
          obtain ⟨v26,h13,hr⟩:=Option.bind_eq_some_iff.1 hr
          try dsimp only at hr
          first|apply TD.cal (by first|rfl|(simp only [twant,z1,z7,h2,h6,h11]<;>rfl)) rfl goFn97 (loop_side_spec h13) rfl rfl rfl|apply TD.calw (by first|rfl|(simp only [twant,z1,z7,h2,h6,h11]<;>rfl)) rfl goFn97 (loop_side_spec h13) rfl rfl rfl rfl
          (repeat (focus (show _ = _;(simp only [zz,shift]<;>exact rfl))))
          with_reducible apply TD.here
          repeat (((with_reducible first|apply TD.ld|apply TD.fa);(repeat (focus (show _ = _;first|exact k2 rfl|(simp only [zz,y42,Nat.reduceAdd,Nat.reduceLeDiff,tload,rowOf,partT,tfieldAddr]<;>exact rfl)|exact rfl)));(with_reducible refine TD.here ?_)))
          obtain ⟨⟨v27,v28,v29⟩,h14,hr⟩:=Option.bind_eq_some_iff.1 hr
          try dsimp only at hr
          first|apply TD.cal (by first|rfl|(simp only [twant,z1,z7,h2,h6,h11]<;>rfl)) rfl goFn51 (loop_plot_value_spec h14) rfl rfl rfl|apply TD.calw (by first|rfl|(simp only [twant,z1,z7,h2,h6,h11]<;>rfl)) rfl goFn51 (loop_plot_value_spec h14) rfl rfl rfl rfl
          (repeat (focus (show _ = _;(simp only [zz,shift]<;>exact rfl))))
          with_reducible apply TD.here
          obtain ⟨v30,h15,hr⟩:=Option.bind_eq_some_iff.1 hr
          try dsimp only at hr
          first|apply TD.cal (by first|rfl|(simp only [twant,z1,z7,h2,h6,h11]<;>rfl)) rfl goFn97 (loop_side_spec h15) rfl rfl rfl|apply TD.calw (by first|rfl|(simp only [twant,z1,z7,h2,h6,h11]<;>rfl)) rfl goFn97 (loop_side_spec h15) rfl rfl rfl rfl
          (repeat (focus (show _ = _;(simp only [zz,shift]<;>exact rfl))))
          with_reducible apply TD.here
          repeat (first|(with_reducible first|refine mv ?_|refine TD.nil ?_)|((with_reducible first|apply TD.bin|apply TD.pk|apply TD.asg);(repeat (focus (show _ = _;first|exact k2 rfl|(simp only [zz]<;>exact rfl))));(with_reducible refine TD.here ?_)))
          cases hr
          refine ⟨.inr rfl,_,(by simp only [];exact rfl),?_⟩
          exact Wk.ren [] rfl .nil (by (repeat (first|exact RNs.nil|refine RNs.cons (.keep rfl rfl) ?_)))
        · rw [if_neg (by rw [h11];exact Bool.false_ne_true)] at hr
          repeat (first|(with_reducible first|refine mv ?_|refine TD.nil ?_)|((with_reducible first|apply TD.pk|apply TD.asg);(repeat (focus (show _ = _;first|exact k2 rfl|(simp only [zz]<;>exact rfl))));(with_reducible refine TD.here ?_))|((with_reducible apply TD.skip1);(repeat (focus (show _ = _;(simp only [zz,twant,zp,zs,h11]<;>exact rfl))));(with_reducible refine TD.here ?_)))
          cases hr
          refine ⟨.inr rfl,_,(by simp only [];exact rfl),?_⟩
          exact Wk.ren [] rfl .nil (by (repeat (first|exact RNs.nil|refine RNs.cons (.keep rfl rfl) ?_)))
  rfl

end Go.Rex

namespace Go.Rex
open Go.Proofs
open Go Go.Rex Go.RowKit
set_option maxRecDepth 100000
set_option maxHeartbeats 200000
def y43:=an @ag26 <| an @ag90 <| an @cs26 <| an @cs90 <| an @ok26 <| @ok90
theorem loop_CheckRings_c1_4b26_spec {v1 : (List Int)} {v2 : Int} {v3 : (List (Int × Int))} {v4 : Int} {v5 : Int} {v6 : Int} (hr : loop_CheckRings_c1_4b26 v1 v2 v3 v4 v5 = some (v6)) : Spec (lim Try.prog) 57 [.fptr true [.list 1 (v1.map e_i),.v (.int .i64 v2),.list 2 (v3.map e_ii)] 0,.fptr true [.v (.int .i64 v4),.v (.int .i64 v5)] 0] ⟨[.v (.int .i64 v6)],[]⟩:=by
  unfold loop_CheckRings_c1_4b26 at hr
  apply Spec.fn Try.func57 rfl
  focus (simp [Try.f57]<;>exact rfl)
  focus
    repeat (first|(with_reducible first|refine mv ?_|refine TO.nil ?_)|((with_reducible first|apply TO.asg|apply TO.ld);(repeat (focus (show _ = _;first|exact k2 rfl|(simp only [zz,y43,Nat.reduceAdd,Nat.reduceLeDiff,tload,rowOf,partT]<;>exact rfl)|exact rfl)));(with_reducible apply TO.here))|((with_reducible apply TX.region);(focus (simp only []<;>exact rfl));(focus rfl);(try dsimp only)))
    obtain ⟨v7,h1,hr⟩:=Option.bind_eq_some_iff.1 hr
    try dsimp only at hr
    apply TO.cal (by first|rfl|(simp only [twant,z1,z7]<;>rfl)) rfl goFn58 (loop_plot_ringsOn_spec h1) rfl rfl rfl
    (repeat (focus (show _ = _;(simp only [zz,shift]<;>exact rfl))))
    with_reducible apply TO.here
    apply TO.pop1 (by first|rfl|(simp only [twant,z1,z7]<;>rfl)) (pop_not rfl)
    (repeat (focus (show _ = _;(simp only [zz]<;>exact rfl))))
    with_reducible apply TO.here
    obtain ⟨⟨v8,v9⟩,h2,hr⟩:=Option.bind_eq_some_iff.1 hr
    try dsimp only at hr
    apply TO.cal (by first|rfl|(simp only [twant,z1,z7]<;>rfl)) rfl goFn55 (loop_refuse_spec h2) rfl rfl rfl
    (repeat (focus (show _ = _;(simp only [zz,shift]<;>exact rfl))))
    with_reducible apply TO.here
    obtain ⟨v10,h3,hr⟩:=Option.bind_eq_some_iff.1 hr
    try dsimp only at hr
    apply TO.cal (by first|rfl|(simp only [twant,z1,z7]<;>rfl)) rfl goFn88 (loop_refuse_c1_11f9_spec h3) rfl rfl rfl
    (repeat (focus (show _ = _;(simp only [zz,shift]<;>exact rfl))))
    with_reducible apply TO.here
    repeat (first|(with_reducible first|refine mv ?_|refine TO.nil ?_)|((with_reducible apply TO.asg);(repeat (focus (show _ = _;first|exact k2 rfl|(simp only [zz]<;>exact rfl))));(with_reducible apply TO.here)))
    cases hr
    refine ⟨.inr rfl,_,(by simp only [];exact rfl),?_⟩
    exact wr [] rfl .nil
  rfl

end Go.Rex

namespace Go.Rex
open Go.Proofs
open Go Go.Rex Go.RowKit
set_option maxRecDepth 100000
set_option maxHeartbeats 200000
def y44:=an @ag94 <| an @cs94 <| an @ok94 <| an @so122 <| an @wi64_0a1 <| an @wi64_1a1 <| @wi64_2a1
theorem loop_firstError_203d_spec {v1 : (List Int)} {v2 : Int} {v3 : Int} {v4 : Int} {v5 : (List Int)} {v6 : Int} {v7 : (List (Int × Int))} {v8 : Int} {v9 : Int} {v10 : Int} (hr : loop_firstError_203d v1 v2 v3 v4 v5 v6 v7 v8 v9 = some (v10)) : Spec (lim Try.prog) 48 [.list 1 [[.func 49 [.agg [.list 1 (v1.map e_i),.v (.int .i64 v2)]] []],[.func 85 [] [.fptr true [.v (.int .i64 v3),.v (.int .i64 v4)] 0]],[.func 57 [] [.fptr true [.list 1 (v5.map e_i),.v (.int .i64 v6),.list 2 (v7.map e_ii)] 0,.fptr true [.v (.int .i64 v8),.v (.int .i64 v9)] 0]]]] ⟨[.v (.int .i64 v10)],[]⟩:=by
  unfold loop_firstError_203d at hr
  apply Spec.fn Try.func48 rfl
  focus (simp [Try.f48]<;>exact rfl)
  focus
    repeat (first|(with_reducible first|refine mv ?_|refine TO.nil ?_)|((with_reducible first|apply TO.asg|apply TO.mv|apply TO.len);(repeat (focus (show _ = _;first|exact k2 rfl|(simp only [zz,y44,Nat.reduceAdd,tlen]<;>exact rfl))));(with_reducible apply TO.here))|((with_reducible apply TX.region);(focus (simp only []<;>exact rfl));(focus rfl);(try dsimp only)))
    refine TX.unroll ?_
    repeat (first|(with_reducible first|refine mv ?_|refine TO.nil ?_)|((with_reducible first|apply TO.bin|apply TO.ia|apply TO.ld|apply TO.asg|apply TO.mv);(repeat (focus (show _ = _;first|exact k2 rfl|(simp only [zz,y44,tindexAddr,z5,Int.reduceLT,Int.cast_ofNat_Int,tload,rowOf,partT]<;>exact rfl)|exact rfl)));(with_reducible apply TO.here))|((with_reducible apply TX.region);(focus (simp only []<;>exact rfl));(focus rfl);(try dsimp only))|((with_reducible apply TX.cond_true);(focus rfl);(focus (rfl))))
    obtain ⟨v11,h1,hr⟩:=Option.bind_eq_some_iff.1 hr
    try dsimp only at hr
    apply TO.cal (by first|rfl|(simp only [twant,z1,z7]<;>rfl)) rfl goFn49 (loop_feedback_check_spec h1) rfl rfl rfl
    (repeat (focus (show _ = _;(simp only [zz,shift]<;>exact rfl))))
    with_reducible apply TO.here
    repeat (first|(with_reducible first|refine mv ?_|refine TO.nil ?_)|((with_reducible first|apply TO.asg|apply TO.mv|apply TO.bin);(repeat (focus (show _ = _;first|exact k2 rfl|(simp only [zz]<;>exact rfl))));(with_reducible apply TO.here))|((with_reducible apply TX.region);(focus (simp only []<;>exact rfl));(focus rfl);(try dsimp only)))
    rcases Bool.eq_false_or_eq_true ((decide (v11 ≠ 0))) with h2|h2
    · rw [if_pos h2] at hr
      repeat (first|(with_reducible first|refine mv ?_|refine TO.nil ?_)|((with_reducible first|apply TO.mv|apply TO.asg);(repeat (focus (show _ = _;first|exact k2 rfl|(simp only [zz,h2]<;>exact rfl))));(with_reducible apply TO.here))|((with_reducible apply TX.region);(focus (simp only []<;>exact rfl));(focus rfl);(try dsimp only))|((with_reducible apply TX.cond_true);(focus rfl);(focus ((simp only [z1,h2];done)))))
      cases hr
      refine ⟨.inr rfl,_,(by simp only [];exact rfl),?_⟩
      exact Wk.ren [] rfl .nil (by (repeat (first|exact RNs.nil|refine RNs.cons (.keep rfl rfl) ?_)))
    · rw [if_neg (by rw [h2];exact Bool.false_ne_true)] at hr
      repeat (first|(with_reducible first|refine mv ?_|refine TO.nil ?_)|((with_reducible first|apply TO.bin|apply TO.mv);(repeat (focus (show _ = _;first|exact k2 rfl|(simp only [zz,y44,h2]<;>exact rfl))));(with_reducible apply TO.here))|((with_reducible apply TX.region);(focus (simp only []<;>exact rfl));(focus rfl);(try dsimp only))|((with_reducible apply TX.cond_false);(focus rfl);(focus ((simp only [z1,h2];done)))))
      refine TX.unroll ?_
      repeat (first|(with_reducible first|refine mv ?_|refine TO.nil ?_)|((with_reducible first|apply TO.bin|apply TO.ia|apply TO.ld|apply TO.asg|apply TO.mv);(repeat (focus (show _ = _;first|exact k2 rfl|(simp only [zz,y44,tindexAddr,z5,Int.reduceLT,tload,rowOf,partT]<;>exact rfl)|exact rfl)));(with_reducible apply TO.here))|((with_reducible apply TX.region);(focus (simp only []<;>exact rfl));(focus rfl);(try dsimp only))|((with_reducible apply TX.cond_true);(focus rfl);(focus (rfl))))
      obtain ⟨v12,h3,hr⟩:=Option.bind_eq_some_iff.1 hr
      try dsimp only at hr
      apply TO.cal (by first|rfl|(simp only [twant,z1,z7,h2]<;>rfl)) rfl goFn85 (loop_onHalf_c1_eebc_spec h3) rfl rfl rfl
      (repeat (focus (show _ = _;(simp only [zz,shift]<;>exact rfl))))
      with_reducible apply TO.here
      repeat (first|(with_reducible first|refine mv ?_|refine TO.nil ?_)|((with_reducible first|apply TO.asg|apply TO.mv|apply TO.bin);(repeat (focus (show _ = _;first|exact k2 rfl|(simp only [zz]<;>exact rfl))));(with_reducible apply TO.here))|((with_reducible apply TX.region);(focus (simp only []<;>exact rfl));(focus rfl);(try dsimp only)))
      rcases Bool.eq_false_or_eq_true ((decide (v12 ≠ 0))) with h4|h4
      · rw [if_pos h4] at hr
        repeat (first|(with_reducible first|refine mv ?_|refine TO.nil ?_)|((with_reducible first|apply TO.mv|apply TO.asg);(repeat (focus (show _ = _;first|exact k2 rfl|(simp only [zz,h4]<;>exact rfl))));(with_reducible apply TO.here))|((with_reducible apply TX.region);(focus (simp only []<;>exact rfl));(focus rfl);(try dsimp only))|((with_reducible apply TX.cond_true);(focus rfl);(focus ((simp only [z1,h4];done)))))
        cases hr
        refine ⟨.inr rfl,_,(by simp only [];exact rfl),?_⟩
        exact Wk.ren [] rfl .nil (by (repeat (first|exact RNs.nil|refine RNs.cons (.keep rfl rfl) ?_)))
      · rw [if_neg (by rw [h4];exact Bool.false_ne_true)] at hr
        repeat (first|(with_reducible first|refine mv ?_|refine TO.nil ?_)|((with_reducible first|apply TO.bin|apply TO.mv);(repeat (focus (show _ = _;first|exact k2 rfl|(simp only [zz,y44,h4]<;>exact rfl))));(with_reducible apply TO.here))|((with_reducible apply TX.region);(focus (simp only []<;>exact rfl));(focus rfl);(try dsimp only))|((with_reducible apply TX.cond_false);(focus rfl);(focus ((simp only [z1,h4];done)))))
        refine TX.unroll ?_
        repeat (first|(with_reducible first|refine mv ?_|refine TO.nil ?_)|((with_reducible first|apply TO.bin|apply TO.ia|apply TO.ld|apply TO.asg|apply TO.mv);(repeat (focus (show _ = _;first|exact k2 rfl|(simp only [zz,y44,tindexAddr,z5,Int.reduceLT,tload,rowOf,partT]<;>exact rfl)|exact rfl)));(with_reducible apply TO.here))|((with_reducible apply TX.region);(focus (simp only []<;>exact rfl));(focus rfl);(try dsimp only))|((with_reducible apply TX.cond_true);(focus rfl);(focus (rfl))))
        obtain ⟨v13,h5,hr⟩:=Option.bind_eq_some_iff.1 hr
        try dsimp only at hr
        apply TO.cal (by first|rfl|(simp only [twant,z1,z7,h2,h4]<;>rfl)) rfl goFn57 (loop_CheckRings_c1_4b26_spec h5) rfl rfl rfl
        (repeat (focus (show _ = _;(simp only [zz,shift]<;>exact rfl))))
        with_reducible apply TO.here
        repeat (first|(with_reducible first|refine mv ?_|refine TO.nil ?_)|((with_reducible first|apply TO.asg|apply TO.mv|apply TO.bin);(repeat (focus (show _ = _;first|exact k2 rfl|(simp only [zz]<;>exact rfl))));(with_reducible apply TO.here))|((with_reducible apply TX.region);(focus (simp only []<;>exact rfl));(focus rfl);(try dsimp only)))
        rcases Bool.eq_false_or_eq_true ((decide (v13 ≠ 0))) with h6|h6
        · rw [if_pos h6] at hr
          repeat (first|(with_reducible first|refine mv ?_|refine TO.nil ?_)|((with_reducible first|apply TO.mv|apply TO.asg);(repeat (focus (show _ = _;first|exact k2 rfl|(simp only [zz,h6]<;>exact rfl))));(with_reducible apply TO.here))|((with_reducible apply TX.region);(focus (simp only []<;>exact rfl));(focus rfl);(try dsimp only))|((with_reducible apply TX.cond_true);(focus rfl);(focus ((simp only [z1,h6];done)))))
          cases hr
          refine ⟨.inr rfl,_,(by simp only [];exact rfl),?_⟩
          exact Wk.ren [] rfl .nil (by (repeat (first|exact RNs.nil|refine RNs.cons (.keep rfl rfl) ?_)))
        · rw [if_neg (by rw [h6];exact Bool.false_ne_true)] at hr
          repeat (first|(with_reducible first|refine mv ?_|refine TO.nil ?_)|((with_reducible first|apply TO.bin|apply TO.mv);(repeat (focus (show _ = _;first|exact k2 rfl|(simp only [zz,y44,h6]<;>exact rfl))));(with_reducible apply TO.here))|((with_reducible apply TX.region);(focus (simp only []<;>exact rfl));(focus rfl);(try dsimp only))|((with_reducible apply TX.cond_false);(focus rfl);(focus ((simp only [z1,h6];done)))))
          refine TX.unroll ?_
          repeat (first|(with_reducible first|refine mv ?_|refine TO.nil ?_)|((with_reducible first|apply TO.bin|apply TO.asg);(repeat (focus (show _ = _;first|exact k2 rfl|(simp only [zz]<;>exact rfl))));(with_reducible apply TO.here))|((with_reducible apply TX.region);(focus (simp only []<;>exact rfl));(focus rfl);(try dsimp only))|((with_reducible apply TX.cond_false);(focus rfl);(focus (rfl))))
          cases hr
          refine ⟨.inr rfl,_,(by simp only [];exact rfl),?_⟩
          exact Wk.ren [] rfl .nil (by (repeat (first|exact RNs.nil|refine RNs.cons (.keep rfl rfl) ?_)))
  rfl

end Go.Rex

namespace Go.Rex
open Go.Proofs
open Go Go.Rex Go.RowKit
set_option maxRecDepth 100000
set_option maxHeartbeats 200000
def y45:=an @ag24 <| an @ag26 <| an @ag86 <| an @cs24 <| an @cs26 <| an @cs86 <| an @cs90 <| an @cs94 <| an @fd90_0 <| an @ok24 <| an @ok26 <| an @ok86 <| an @ok90 <| an @so122 <| an @zc90 <| @zc94
theorem loop_CheckRings_spec {v1 : (List Int)} {v2 : Int} {v3 : Int} {v4 : Int} {v5 : Int} (hr : loop_CheckRings v1 v2 v3 v4 = some (v5)) : Spec (lim Try.prog) 19 [.agg [.list 1 (v1.map e_i),.v (.int .i64 v2)],.agg [.v (.int .i64 v3),.v (.int .i64 v4)]] ⟨[.v (.int .i64 v5)],[]⟩:=by
  unfold loop_CheckRings at hr
  apply Spec.fn Try.func19 rfl
  focus (simp [Try.f19]<;>exact rfl)
  focus
    repeat (first|(with_reducible first|refine mv ?_|refine TO.nil ?_)|((with_reducible first|apply TO.bf|apply TO.asg|apply TO.ld);(repeat (focus (show _ = _;first|exact k1 rfl|exact k2 rfl|(simp only [zz,y45,Nat.reduceAdd,Nat.reduceLeDiff,tload,rowOf,partT]<;>exact rfl)|exact rfl)));(with_reducible apply TO.here))|((with_reducible apply TX.region);(focus (simp only []<;>exact rfl));(focus rfl);(try dsimp only)))
    obtain ⟨⟨v6,v7,v8⟩,h1,hr⟩:=Option.bind_eq_some_iff.1 hr
    try dsimp only at hr
    apply TO.cal (by first|rfl|(simp only [twant,z1,z7]<;>rfl)) rfl goFn47 (loop_plotOf_spec h1) rfl rfl rfl
    (repeat (focus (show _ = _;(simp only [zz,Nat.reduceAdd,shift]<;>exact rfl))))
    with_reducible apply TO.here
    repeat (first|(with_reducible first|refine mv ?_|refine TO.nil ?_)|((with_reducible first|apply TO.al|apply TO.sv);(repeat (focus (show _ = _;first|exact k1 rfl|exact k2 rfl|(simp only [zz,y45,Nat.reduceAdd]<;>exact rfl))));(with_reducible apply TO.here))|((with_reducible first|apply TD.fa|apply TD.ld|apply TD.mf);(repeat (focus (show _ = _;first|exact k1 rfl|exact k2 rfl|(simp only [zz,y45,Nat.reduceAdd,Nat.reduceLeDiff,tfieldAddr,tload,rowOf,partT]<;>exact rfl)|exact rfl)));(with_reducible refine TD.here ?_))|((with_reducible apply TX.drawn);(focus decide +kernel);(focus (simp only []<;>exact rfl));(focus exact rfl);(try dsimp only)))
    obtain ⟨⟨v9,v10⟩,h2,hr⟩:=Option.bind_eq_some_iff.1 hr
    try dsimp only at hr
    first|apply TD.cal (by first|rfl|(simp only [twant,z1,z7]<;>rfl)) rfl goFn53 (loop_onHalf_spec h2) rfl rfl rfl|apply TD.calw (by first|rfl|(simp only [twant,z1,z7]<;>rfl)) rfl goFn53 (loop_onHalf_spec h2) rfl rfl rfl rfl
    (repeat (focus (show _ = _;(simp only [zz,shift]<;>exact rfl))))
    with_reducible apply TD.here
    apply TD.frz 0 rfl rfl
    (repeat (focus (show _ = _;(simp only [zz,Nat.reduceEqDiff,frz,frzB,tmlc]<;>exact rfl))))
    with_reducible apply TD.here
    apply TD.frz 1 rfl rfl
    (repeat (focus (show _ = _;(simp only [zz,frz,frzB]<;>exact rfl))))
    with_reducible apply TD.here
    repeat (((with_reducible first|apply TD.mf|apply TD.bs);(repeat (focus (show _ = _;first|exact k1 rfl|exact k2 rfl|(simp only [zz,y45,Nat.reduceAdd,Nat.reduceMul,tslice,tparts]<;>exact rfl)|exact rfl)));(with_reducible refine TD.here ?_)))
    obtain ⟨v11,h3,hr⟩:=Option.bind_eq_some_iff.1 hr
    try dsimp only at hr
    first|apply TD.cal (by first|rfl|(simp only [twant,z1,z7]<;>rfl)) rfl goFn48 (loop_firstError_203d_spec h3) rfl rfl rfl|apply TD.calw (by first|rfl|(simp only [twant,z1,z7]<;>rfl)) rfl goFn48 (loop_firstError_203d_spec h3) rfl rfl rfl rfl
    (repeat (focus (show _ = _;(simp only [zz,shift]<;>exact rfl))))
    with_reducible apply TD.here
    repeat (first|(with_reducible first|refine mv ?_|refine TD.nil ?_)|((with_reducible apply TD.asg);(repeat (focus (show _ = _;first|exact k2 rfl|(simp only [zz]<;>exact rfl))));(with_reducible refine TD.here ?_)))
    cases hr
    refine ⟨.inr rfl,_,(by simp only [];exact rfl),?_⟩
    exact wr [] rfl .nil
  rfl

end Go.Rex

namespace Go.Rex
open Go.Proofs
open Go Go.Rex Go.RowKit
set_option maxRecDepth 100000
set_option maxHeartbeats 200000
theorem base_Within_spec {v1 : Int} {v2 : Int} {v3 : Int} {v4 : Bool} (hr : base_Within v1 v2 v3 = some (v4)) : Spec (lim Try.prog) 10 [.v (.int .i64 v1),.v (.int .i64 v2),.v (.int .i64 v3)] ⟨[.v (.bool v4)],[]⟩:=by
  unfold base_Within at hr
  apply Spec.fn Try.func10 rfl
  focus (simp [Try.f10]<;>exact rfl)
  focus
    repeat (first|(with_reducible first|refine mv ?_|refine TO.nil ?_)|((with_reducible first|apply TO.asg|apply TO.mv|apply TO.bin);(repeat (focus (show _ = _;first|exact k2 rfl|(simp only [zz]<;>exact rfl))));(with_reducible apply TO.here))|((with_reducible apply TX.region);(focus (simp only []<;>exact rfl));(focus rfl);(try dsimp only)))
    rcases Bool.eq_false_or_eq_true ((decide (v2 ≤ v1))) with h1|h1
    · rw [if_pos h1] at hr
      repeat (first|(with_reducible first|refine mv ?_|refine TO.nil ?_)|((with_reducible first|apply TO.mv|apply TO.bin|apply TO.pk|apply TO.asg);(repeat (focus (show _ = _;first|exact k2 rfl|(simp only [zz,h1]<;>exact rfl))));(with_reducible apply TO.here)))
      cases hr
      refine ⟨.inr rfl,_,(by simp only [];exact rfl),?_⟩
      exact Wk.ren [] rfl .nil (by (repeat (first|exact RNs.nil|refine RNs.cons (.keep rfl rfl) ?_)))
    · rw [if_neg (by rw [h1];exact Bool.false_ne_true)] at hr
      repeat (first|(with_reducible first|refine mv ?_|refine TO.nil ?_)|((with_reducible first|apply TO.pk|apply TO.asg);(repeat (focus (show _ = _;first|exact k2 rfl|(simp only [zz]<;>exact rfl))));(with_reducible apply TO.here))|((with_reducible apply TO.skip1);(repeat (focus (show _ = _;(simp only [zz,twant,zp,zs,h1]<;>exact rfl))));(with_reducible apply TO.here)))
      cases hr
      refine ⟨.inr rfl,_,(by simp only [];exact rfl),?_⟩
      exact Wk.ren [] rfl .nil (by (repeat (first|exact RNs.nil|refine RNs.cons (.keep rfl rfl) ?_)))
  rfl

end Go.Rex

namespace Go.Rex
open Go.Proofs
open Go Go.Rex Go.RowKit
set_option maxRecDepth 100000
set_option maxHeartbeats 1000000
def y46:=an @ag22 <| an @ag3 <| an @cs3 <| an @fd24_0 <| an @fd24_1 <| an @ok3 <| an @so22 <| @wi64_0a1
theorem ref08_CheckLoop_spec {v1 : (List Int)} {v2 : Int} {v3 : Int} (hr : ref08_CheckLoop v1 v2 = some (v3)) : Spec (lim Try.prog) 20 [.agg [.list 1 (v1.map e_i),.v (.int .i64 v2)]] ⟨[.v (.int .i64 v3)],[]⟩:=by
  unfold ref08_CheckLoop at hr
  apply Spec.fn Try.func20 rfl
  focus (simp [Try.f20]<;>exact rfl)
  focus
    repeat (first|(with_reducible first|refine mv ?_|refine TO.nil ?_)|((with_reducible first|apply TO.bf|apply TO.asg|apply TO.fa|apply TO.ld|apply TO.len|apply TO.bin);(repeat (focus (show _ = _;first|exact k1 rfl|exact k2 rfl|(simp only [zz,y46,Nat.reduceAdd,tfieldAddr,tload,rowOf,partT,tlen]<;>exact rfl)|exact rfl)));(with_reducible apply TO.here))|((with_reducible apply TX.region);(focus (simp only []<;>exact rfl));(focus rfl);(try dsimp only)))
    rcases Bool.eq_false_or_eq_true ((decide ((v1.length : Int) = 0))) with h1|h1
    · rw [if_pos h1] at hr
      repeat (first|(with_reducible first|refine mv ?_|refine TO.nil ?_)|((with_reducible apply TO.asg);(repeat (focus (show _ = _;first|exact k2 rfl|(simp only [zz,h1]<;>exact rfl))));(with_reducible apply TO.here))|((with_reducible apply TX.region);(focus (simp only []<;>exact rfl));(focus rfl);(try dsimp only))|((with_reducible apply TX.cond_true);(focus rfl);(focus ((simp only [z1,h1];done)))))
      cases hr
      refine ⟨.inr rfl,_,(by simp only [];exact rfl),?_⟩
      exact Wk.ren [] rfl .nil (by (repeat (first|exact RNs.nil|refine RNs.cons (.keep rfl rfl) ?_)))
    · rw [if_neg (by rw [h1];exact Bool.false_ne_true)] at hr
      repeat (first|(with_reducible first|refine mv ?_|refine TO.nil ?_)|((with_reducible first|apply TO.fa|apply TO.ld|apply TO.len|apply TO.bin);(repeat (focus (show _ = _;first|exact k2 rfl|(simp only [zz,y46,Nat.reduceAdd,tfieldAddr,tload,rowOf,partT,tlen,h1]<;>exact rfl)|exact rfl)));(with_reducible apply TO.here))|((with_reducible apply TX.region);(focus (simp only []<;>exact rfl));(focus rfl);(try dsimp only))|((with_reducible apply TX.cond_false);(focus rfl);(focus ((simp only [z1,h1];done)))))
      rcases Bool.eq_false_or_eq_true ((decide ((v1.length : Int) > 32))) with h2|h2
      · rw [if_pos h2] at hr
        repeat (first|(with_reducible first|refine mv ?_|refine TO.nil ?_)|((with_reducible apply TO.asg);(repeat (focus (show _ = _;first|exact k2 rfl|(simp only [zz,h2]<;>exact rfl))));(with_reducible apply TO.here))|((with_reducible apply TX.region);(focus (simp only []<;>exact rfl));(focus rfl);(try dsimp only))|((with_reducible apply TX.cond_true);(focus rfl);(focus ((simp only [z1,h2];done)))))
        cases hr
        refine ⟨.inr rfl,_,(by simp only [];exact rfl),?_⟩
        exact Wk.ren [] rfl .nil (by (repeat (first|exact RNs.nil|refine RNs.cons (.keep rfl rfl) ?_)))
      · rw [if_neg (by rw [h2];exact Bool.false_ne_true)] at hr
        repeat (first|with_reducible refine mv ?_|((with_reducible first|apply TO.fa|apply TO.ld);(repeat (focus (show _ = _;first|exact k2 rfl|(simp only [zz,y46,Nat.reduceAdd,tfieldAddr,tload,rowOf,partT,h2]<;>exact rfl)|exact rfl)));(with_reducible apply TO.here))|((with_reducible apply TX.region);(focus (simp only []<;>exact rfl));(focus rfl);(try dsimp only))|((with_reducible apply TX.cond_false);(focus rfl);(focus ((simp only [z1,h2];done)))))
        obtain ⟨v4,h3,hr⟩:=Option.bind_eq_some_iff.1 hr
        try dsimp only at hr
        have h3m:=tidx_map (f:=e_i) h3
        have h3l:=getI_lt h3
        try simp only [List.length_set] at h3l
        have h3a:=getI_at h3
        repeat (first|(with_reducible first|refine mv ?_|refine TO.nil ?_)|((with_reducible first|apply TO.ia|apply TO.ld|apply TO.bin);(repeat (focus (show _ = _;first|exact k2 rfl|(simp only [zz,y46,e_i,tindexAddr,tload,rowOf,partT,h3m]<;>exact rfl)|exact rfl)));(with_reducible apply TO.here)))
        rcases Bool.eq_false_or_eq_true ((decide (v4 ≠ 0))) with h4|h4
        · rw [if_pos h4] at hr
          repeat (first|(with_reducible first|refine mv ?_|refine TO.nil ?_)|((with_reducible apply TO.asg);(repeat (focus (show _ = _;first|exact k2 rfl|(simp only [zz,h4]<;>exact rfl))));(with_reducible apply TO.here))|((with_reducible apply TX.region);(focus (simp only []<;>exact rfl));(focus rfl);(try dsimp only))|((with_reducible apply TX.cond_true);(focus rfl);(focus ((simp only [z1,h4];done)))))
          cases hr
          refine ⟨.inr rfl,_,(by simp only [];exact rfl),?_⟩
          exact Wk.ren [] rfl .nil (by (repeat (first|exact RNs.nil|refine RNs.cons (.keep rfl rfl) ?_)))
        · rw [if_neg (by rw [h4];exact Bool.false_ne_true)] at hr
          repeat (first|(with_reducible first|refine mv ?_|refine TO.nil ?_)|((with_reducible apply TO.asg);(repeat (focus (show _ = _;first|exact k2 rfl|(simp only [zz,h4]<;>exact rfl))));(with_reducible apply TO.here))|((with_reducible apply TX.region);(focus (simp only []<;>exact rfl));(focus rfl);(try dsimp only))|((with_reducible apply TX.cond_false);(focus rfl);(focus ((simp only [z1,h4];done)))))
          obtain ⟨v10,h13,hr⟩:=Option.bind_eq_some_iff.1 hr
          refine TX.loopE (step:=ref08_CheckLoop_l1 v1) (x:=0) h13 (fun v5=>⟨.junk :: .fptr true [.list 1 (v1.map e_i),.v (.int .i64 v2)] 0 :: .junk :: .v (.int .i64 v5) :: .junk :: .junk :: .junk :: .junk :: .junk :: .junk :: .junk :: .junk :: .junk :: .junk :: .junk :: .junk :: .junk :: .junk :: .junk :: .junk :: .junk :: .junk :: .junk :: .junk :: .junk :: .junk :: .junk :: .junk :: .junk :: .junk :: .junk :: .junk :: .junk :: .junk :: .junk :: [],[]⟩) (fun e=>match e with|(.inl _)=>(.ret,⟨.junk :: .junk :: .v (.int .i64 2) :: .junk :: .junk :: .junk :: .junk :: .junk :: .junk :: .junk :: .junk :: .junk :: .junk :: .junk :: .junk :: .junk :: .junk :: .junk :: .junk :: .junk :: .junk :: .junk :: .junk :: .junk :: .junk :: .junk :: .junk :: .junk :: .junk :: .junk :: .junk :: .junk :: .junk :: .junk :: .junk :: [],[]⟩)|(.inr _)=>(.exit 0,⟨.junk :: .fptr true [.list 1 (v1.map e_i),.v (.int .i64 v2)] 0 :: .junk :: .junk :: .junk :: .junk :: .junk :: .junk :: .junk :: .junk :: .junk :: .junk :: .junk :: .junk :: .junk :: .junk :: .junk :: .junk :: .junk :: .junk :: .junk :: .junk :: .junk :: .junk :: .junk :: .junk :: .junk :: .junk :: .junk :: .junk :: .junk :: .junk :: .junk :: .junk :: .junk :: [],[]⟩)) ?_ ?_ ?_ ?_
          · rintro v5 v0 hr
            dsimp only [ref08_CheckLoop_l1] at hr
            try dsimp only
            repeat (first|(with_reducible first|refine mv ?_|refine TO.nil ?_)|((with_reducible first|apply TO.mv|apply TO.fa|apply TO.ld|apply TO.len|apply TO.bin);(repeat (focus (show _ = _;first|exact k2 rfl|(simp only [zz,y46,Nat.reduceAdd,tfieldAddr,tload,rowOf,partT,tlen]<;>exact rfl)|exact rfl)));(with_reducible apply TO.here))|((with_reducible apply TX.region);(focus (simp only []<;>exact rfl));(focus rfl);(try dsimp only)))
            rcases Bool.eq_false_or_eq_true ((decide (v5 < (v1.length : Int)))) with h9|h9
            · rw [if_pos h9] at hr
              repeat (first|with_reducible refine mv ?_|((with_reducible first|apply TO.fa|apply TO.ld|apply TO.mv);(repeat (focus (show _ = _;first|exact k2 rfl|(simp only [zz,y46,Nat.reduceAdd,tfieldAddr,tload,rowOf,partT,h9]<;>exact rfl)|exact rfl)));(with_reducible apply TO.here))|((with_reducible apply TX.region);(focus (simp only []<;>exact rfl));(focus rfl);(try dsimp only))|((with_reducible apply TX.cond_true);(focus rfl);(focus ((simp only [z1,h9];done)))))
              obtain ⟨v8,h10,hr⟩:=Option.bind_eq_some_iff.1 hr
              try dsimp only at hr
              have h10m:=tidx_map (f:=e_i) h10
              have h10l:=getI_lt h10
              try simp only [List.length_set] at h10l
              have h10a:=getI_at h10
              repeat (((with_reducible first|apply TO.ia|apply TO.ld);(repeat (focus (show _ = _;first|exact k2 rfl|(simp only [zz,y46,e_i,tindexAddr,tload,rowOf,partT,h10m]<;>exact rfl)|exact rfl)));(with_reducible apply TO.here)))
              obtain ⟨v9,h11,hr⟩:=Option.bind_eq_some_iff.1 hr
              try dsimp only at hr
              apply TO.cal (by first|rfl|(simp only [twant,z1,z7,h1,h2,h3m,h3l,h3a,h4,h9,h10m,h10l,h10a]<;>rfl)) rfl goFn10 (base_Within_spec h11) rfl rfl rfl
              (repeat (focus (show _ = _;(simp only [zz,shift]<;>exact rfl))))
              with_reducible apply TO.here
              apply TO.pop1 (by first|rfl|(simp only [twant,z1,z7,h1,h2,h3m,h3l,h3a,h4,h9,h10m,h10l,h10a]<;>rfl)) (pop_not rfl)
              (repeat (focus (show _ = _;(simp only [zz]<;>exact rfl))))
              with_reducible apply TO.here
              repeat (first|(with_reducible first|refine mv ?_|refine TO.nil ?_))
              rcases Bool.eq_false_or_eq_true (v9) with h12|h12
              · rw [if_pos h12] at hr
                repeat (first|(with_reducible first|refine mv ?_|refine TO.nil ?_)|((with_reducible first|apply TO.mv|apply TO.bin|apply TO.asg);(repeat (focus (show _ = _;first|exact k2 rfl|(simp only [zz,h12]<;>exact rfl))));(with_reducible apply TO.here))|((with_reducible apply TX.region);(focus (simp only []<;>exact rfl));(focus rfl);(try dsimp only))|((with_reducible apply TX.cond_false);(focus rfl);(focus ((simp only [z1,Bool.not_true,h12];done)))))
                cases hr
                refine ⟨rfl,?_⟩
                exact Wk.ren [] rfl .nil (by (repeat (first|exact RNs.nil|refine RNs.cons .junk ?_|refine RNs.cons (.keep rfl rfl) ?_)))
              · rw [if_neg (by rw [h12];exact Bool.false_ne_true)] at hr
                repeat (first|(with_reducible first|refine mv ?_|refine TO.nil ?_)|((with_reducible apply TO.asg);(repeat (focus (show _ = _;first|exact k2 rfl|(simp only [zz,h12]<;>exact rfl))));(with_reducible apply TO.here))|((with_reducible apply TX.region);(focus (simp only []<;>exact rfl));(focus rfl);(try dsimp only))|((with_reducible apply TX.cond_true);(focus rfl);(focus ((simp only [z1,Bool.not_false,h12];done)))))
                cases hr
                refine ⟨rfl,?_⟩
                exact Wk.ren [] rfl .nil (by (repeat (first|exact RNs.nil|refine RNs.cons .junk ?_|refine RNs.cons (.keep rfl rfl) ?_)))
            · rw [if_neg (by rw [h9];exact Bool.false_ne_true)] at hr
              repeat (first|with_reducible refine mv ?_|((with_reducible apply TX.cond_false);(focus rfl);(focus ((simp only [z1,h9];done)))))
              cases hr
              refine ⟨rfl,?_⟩
              exact Wk.ren [] rfl .nil (by (repeat (first|exact RNs.nil|refine RNs.cons .junk ?_|refine RNs.cons (.keep rfl rfl) ?_)))
          · intro e h;rcases e with _|e<;>cases h
          · try dsimp only
            rcases v10 with _|_
            · try dsimp only at hr
              try dsimp only
              repeat (with_reducible refine mv ?_)
              cases hr
              refine ⟨.inr rfl,_,(by simp only [];exact rfl),?_⟩
              exact Wk.ren [] rfl .nil (by (repeat (first|exact RNs.nil|refine RNs.cons (.keep rfl rfl) ?_)))
            · try dsimp only at hr
              try dsimp only
              repeat (first|with_reducible refine mv ?_|((with_reducible first|apply TO.fa|apply TO.ld);(repeat (focus (show _ = _;first|exact k2 rfl|(simp only [zz,y46,Nat.reduceAdd,tfieldAddr,tload,rowOf,partT]<;>exact rfl)|exact rfl)));(with_reducible apply TO.here))|((with_reducible apply TX.region);(focus (simp only []<;>exact rfl));(focus rfl);(try dsimp only)))
              obtain ⟨v11,h14,hr⟩:=Option.bind_eq_some_iff.1 hr
              try dsimp only at hr
              apply TO.cal (by first|rfl|(simp only [twant,z1,z7,h1,h2,h3m,h3l,h3a,h4]<;>rfl)) rfl goFn10 (base_Within_spec h14) rfl rfl rfl
              (repeat (focus (show _ = _;(simp only [zz,shift]<;>exact rfl))))
              with_reducible apply TO.here
              apply TO.pop1 (by first|rfl|(simp only [twant,z1,z7,h1,h2,h3m,h3l,h3a,h4]<;>rfl)) (pop_not rfl)
              (repeat (focus (show _ = _;(simp only [zz]<;>exact rfl))))
              with_reducible apply TO.here
              repeat (first|(with_reducible first|refine mv ?_|refine TO.nil ?_))
              rcases Bool.eq_false_or_eq_true (v11) with h15|h15
              · rw [if_pos h15] at hr
                repeat (first|(with_reducible first|refine mv ?_|refine TO.nil ?_)|((with_reducible apply TO.asg);(repeat (focus (show _ = _;first|exact k2 rfl|(simp only [zz,h15]<;>exact rfl))));(with_reducible apply TO.here))|((with_reducible apply TX.region);(focus (simp only []<;>exact rfl));(focus rfl);(try dsimp only))|((with_reducible apply TX.cond_false);(focus rfl);(focus ((simp only [z1,Bool.not_true,h15];done)))))
                cases hr
                refine ⟨.inr rfl,_,(by simp only [];exact rfl),?_⟩
                exact Wk.ren [] rfl .nil (by (repeat (first|exact RNs.nil|refine RNs.cons (.keep rfl rfl) ?_)))
              · rw [if_neg (by rw [h15];exact Bool.false_ne_true)] at hr
                repeat (first|(with_reducible first|refine mv ?_|refine TO.nil ?_)|((with_reducible apply TO.asg);(repeat (focus (show _ = _;first|exact k2 rfl|(simp only [zz,h15]<;>exact rfl))));(with_reducible apply TO.here))|((with_reducible apply TX.region);(focus (simp only []<;>exact rfl));(focus rfl);(try dsimp only))|((with_reducible apply TX.cond_true);(focus rfl);(focus ((simp only [z1,Bool.not_false,h15];done)))))
                cases hr
                refine ⟨.inr rfl,_,(by simp only [];exact rfl),?_⟩
                exact Wk.ren [] rfl .nil (by (repeat (first|exact RNs.nil|refine RNs.cons (.keep rfl rfl) ?_)))
          · try dsimp only
            exact Wk.ren [] rfl .nil (by (repeat (first|exact RNs.nil|refine RNs.cons .junk ?_|refine RNs.cons (.keep rfl rfl) ?_)))
  rfl

end Go.Rex
