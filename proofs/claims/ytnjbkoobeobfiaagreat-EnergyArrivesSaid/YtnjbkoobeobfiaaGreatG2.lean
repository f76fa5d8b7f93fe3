/- Proofs that the program's functions do what these plain functions say. -/
import Derived.Test.YtnjbkoobeobfiaaGreatGB
import Derived.Test.YtnjbkoobeobfiaaGreatS
import Derived.Test.YtnjbkoobeobfiaaGreatG1
import Derived.Test.YtnjbkoobeobfiaaGreatCZ
set_option linter.unusedSimpArgs false
set_option linter.unusedVariables false
set_option linter.defProp false
namespace Go.Rex
open Go.Proofs
open Go Go.Rex Go.RowKit
set_option maxRecDepth 100000
set_option maxHeartbeats 200000
theorem ref03_MicroErr_spec {v1 : Int} {v2 : Int} (hr : ref03_MicroErr v1 = some (v2)) : Spec (lim Tryz.prog) 16 [.v (.int .i64 v1)] ⟨[.v (.int .i64 v2)],[]⟩:=by
  unfold ref03_MicroErr at hr
  apply Spec.fn Tryz.func16 rfl
  focus (simp [Tryz.f16]<;>exact rfl)
  focus
    repeat (first|(with_reducible first|refine mv ?_|refine TO.nil ?_)|((with_reducible first|apply TO.asg|apply TO.mv);(repeat (focus (show _ = _;first|exact k2 rfl|(simp only [zz]<;>exact rfl))));(with_reducible apply TO.here))|((with_reducible apply TX.region);(focus (simp only []<;>exact rfl));(focus rfl);(try dsimp only)))
    obtain ⟨v3,h1,hr⟩:=Option.bind_eq_some_iff.1 hr
    try dsimp only at hr
    apply TO.cal (by first|rfl|(simp only [twant,z1,z7]<;>rfl)) rfl goFn31 (base_Within_spec h1) rfl rfl rfl
    (repeat (focus (show _ = _;(simp only [zz,shift]<;>exact rfl))))
    with_reducible apply TO.here
    apply TO.pop1 (by first|rfl|(simp only [twant,z1,z7]<;>rfl)) (pop_not rfl)
    (repeat (focus (show _ = _;(simp only [zz]<;>exact rfl))))
    with_reducible apply TO.here
    repeat (first|(with_reducible first|refine mv ?_|refine TO.nil ?_))
    rcases Bool.eq_false_or_eq_true (v3) with h2|h2
    · rw [if_pos h2] at hr
      repeat (first|(with_reducible first|refine mv ?_|refine TO.nil ?_)|((with_reducible apply TO.asg);(repeat (focus (show _ = _;first|exact k2 rfl|(simp only [zz,h2]<;>exact rfl))));(with_reducible apply TO.here))|((with_reducible apply TX.region);(focus (simp only []<;>exact rfl));(focus rfl);(try dsimp only))|((with_reducible apply TX.cond_false);(focus rfl);(focus ((simp only [z1,Bool.not_true,h2];done)))))
      cases hr
      refine ⟨.inr rfl,_,(by simp only [];exact rfl),?_⟩
      exact Wk.ren [] rfl .nil (by (repeat (first|exact RNs.nil|refine RNs.cons (.keep rfl rfl) ?_)))
    · rw [if_neg (by rw [h2];exact Bool.false_ne_true)] at hr
      repeat (first|(with_reducible first|refine mv ?_|refine TO.nil ?_)|((with_reducible apply TO.asg);(repeat (focus (show _ = _;first|exact k2 rfl|(simp only [zz,h2]<;>exact rfl))));(with_reducible apply TO.here))|((with_reducible apply TX.region);(focus (simp only []<;>exact rfl));(focus rfl);(try dsimp only))|((with_reducible apply TX.cond_true);(focus rfl);(focus ((simp only [z1,Bool.not_false,h2];done)))))
      cases hr
      refine ⟨.inr rfl,_,(by simp only [];exact rfl),?_⟩
      exact Wk.ren [] rfl .nil (by (repeat (first|exact RNs.nil|refine RNs.cons (.keep rfl rfl) ?_)))
  rfl

end Go.Rex

namespace Go.Rex
open Go.Proofs
open Go Go.Rex Go.RowKit
set_option maxRecDepth 100000
set_option maxHeartbeats 200000
def y20:=an @ag3 <| an @ag30 <| an @cs3 <| an @cs30 <| an @cs91 <| an @fd30_0 <| an @fd30_1 <| an @fd91_1 <| an @fd91_2 <| an @ok3 <| an @ok30 <| an @ok91 <| an @so22 <| an @zc30 <| @wi64_0a1
theorem ref03_UpTo_spec {v1 : (List ((List Int) × Int × Int × Int × Int))} {v2 : Int} {v3 : Int} {v4 : Int} (hr : ref03_UpTo v1 v2 = some (v3,v4)) : Spec (lim Tryz.prog) 17 [.list 5 (v1.map e_Li_iiii),.v (.int .i64 v2)] ⟨[.agg [.v (.int .i64 v3),.v (.int .i64 v4)]],[]⟩:=by
  unfold ref03_UpTo at hr
  apply Spec.fn Tryz.func17 rfl
  focus (simp [Tryz.f17]<;>exact rfl)
  focus
    repeat (first|(with_reducible first|refine mv ?_|refine TO.nil ?_)|((with_reducible first|apply TO.al|apply TO.asg);(repeat (focus (show _ = _;first|exact k2 rfl|(simp only [zz,y20,Nat.reduceAdd]<;>exact rfl))));(with_reducible apply TO.here))|((with_reducible apply TX.region);(focus (simp only []<;>exact rfl));(focus rfl);(try dsimp only)))
    obtain ⟨⟨v20,v21⟩,h11,hr⟩:=Option.bind_eq_some_iff.1 hr
    try dsimp only at hr
    refine TX.loopE (step:=ref03_UpTo_l1 v1 v2) (x:=(0,0,0)) h11 (fun (v5,v6,v7)=>⟨.list 5 (v1.map e_Li_iiii) :: .v (.int .i64 v2) :: .junk :: .junk :: .lptr 0 0 0 :: .lptr 1 0 0 :: .v (.int .i64 v7) :: .junk :: .junk :: .junk :: .junk :: .junk :: .junk :: .junk :: .junk :: .junk :: .junk :: .junk :: .junk :: .junk :: .junk :: .junk :: .junk :: .junk :: .junk :: .junk :: .junk :: .junk :: .junk :: .junk :: .junk :: .junk :: .junk :: .junk :: .junk :: .junk :: .junk :: .junk :: .junk :: .junk :: .junk :: .junk :: .junk :: .junk :: .junk :: .junk :: .junk :: .junk :: .junk :: .junk :: [],[.var [.v (.int .i64 0),.v (.int .i64 0)],.var [.v (.int .i64 v5),.v (.int .i64 v6)]]⟩) (fun (v13,v14)=>(.exit 0,⟨.junk :: .junk :: .junk :: .junk :: .lptr 0 0 0 :: .lptr 1 0 0 :: .junk :: .junk :: .junk :: .junk :: .junk :: .junk :: .junk :: .junk :: .junk :: .junk :: .junk :: .junk :: .junk :: .junk :: .junk :: .junk :: .junk :: .junk :: .junk :: .junk :: .junk :: .junk :: .junk :: .junk :: .junk :: .junk :: .junk :: .junk :: .junk :: .junk :: .junk :: .junk :: .junk :: .junk :: .junk :: .junk :: .junk :: .junk :: .junk :: .junk :: .junk :: .junk :: .junk :: .junk :: [],[.var [.v (.int .i64 0),.v (.int .i64 0)],.var [.v (.int .i64 v13),.v (.int .i64 v14)]]⟩)) ?_ ?_ ?_ ?_
    · rintro ⟨v5,v6,v7⟩ v0 hr
      dsimp only [ref03_UpTo_l1] at hr
      try dsimp only
      repeat (first|(with_reducible first|refine mv ?_|refine TO.nil ?_)|((with_reducible first|apply TO.mv|apply TO.len|apply TO.bin);(repeat (focus (show _ = _;first|exact k2 rfl|(simp only [zz,y20,tlen]<;>exact rfl))));(with_reducible apply TO.here))|((with_reducible apply TX.region);(focus (simp only []<;>exact rfl));(focus rfl);(try dsimp only)))
      rcases Bool.eq_false_or_eq_true ((decide (v7 < (v1.length : Int)))) with h6|h6
      · rw [if_pos h6] at hr
        repeat (first|with_reducible refine mv ?_|((with_reducible apply TO.mv);(repeat (focus (show _ = _;first|exact k2 rfl|(simp only [zz,h6]<;>exact rfl))));(with_reducible apply TO.here))|((with_reducible apply TX.region);(focus (simp only []<;>exact rfl));(focus rfl);(try dsimp only))|((with_reducible apply TX.cond_true);(focus rfl);(focus ((simp only [z1,h6];done)))))
        obtain ⟨⟨v15,v16,v17,v18,v19⟩,h7,hr⟩:=Option.bind_eq_some_iff.1 hr
        try dsimp only at hr
        have h7m:=tidx_map (f:=e_Li_iiii) h7
        have h7l:=getI_lt h7
        try simp only [List.length_set] at h7l
        have h7a:=getI_at h7
        repeat (first|(with_reducible first|refine mv ?_|refine TO.nil ?_)|((with_reducible first|apply TO.ia|apply TO.fa|apply TO.ld|apply TO.mv|apply TO.bin);(repeat (focus (show _ = _;first|exact k2 rfl|(simp only [zz,y20,e_Li_iiii,Nat.reduceAdd,tindexAddr,Nat.zero_add,tfieldAddr,tload,rowOf,partT,h7m]<;>exact rfl)|exact rfl)));(with_reducible apply TO.here)))
        rcases Bool.eq_false_or_eq_true ((decide (v17 ≤ v2))) with h8|h8
        · rw [if_pos h8] at hr
          repeat (first|(with_reducible first|refine mv ?_|refine TO.nil ?_)|((with_reducible first|apply TO.mv|apply TO.ia|apply TO.fa|apply TO.ld|apply TO.bin);(repeat (focus (show _ = _;first|exact k2 rfl|(simp only [zz,y20,e_Li_iiii,Nat.reduceAdd,tindexAddr,Nat.zero_add,tfieldAddr,tload,rowOf,partT,h7m]<;>exact rfl)|exact rfl)));(with_reducible apply TO.here))|((with_reducible apply TX.region);(focus (simp only []<;>exact rfl));(focus rfl);(try dsimp only))|with_reducible refine TD.nil ?_|((with_reducible first|apply TD.fa|apply TD.ld|apply TD.mv|apply TD.ia|apply TD.bin|apply TD.sv);(repeat (focus (show _ = _;first|exact k1 rfl|exact k2 rfl|(simp only [zz,y20,e_Li_iiii,Nat.reduceAdd,tfieldAddr,tload,rowOf,partT,tindexAddr,Nat.zero_add,h7m,h8]<;>exact rfl)|exact rfl)));(with_reducible refine TD.here ?_))|((with_reducible apply TX.drawn);(focus decide +kernel);(focus (simp only []<;>exact rfl));(focus exact rfl);(try dsimp only))|((with_reducible apply TX.cond_true);(focus rfl);(focus ((simp only [z1,h8];done)))))
          rcases Bool.eq_false_or_eq_true ((decide (v16 ≤ v2))) with h9|h9
          · rw [if_pos h9] at hr
            repeat (first|(with_reducible first|refine mv ?_|refine TO.nil ?_)|((with_reducible first|apply TO.mv|apply TO.bin|apply TO.asg);(repeat (focus (show _ = _;first|exact k2 rfl|(simp only [zz]<;>exact rfl))));(with_reducible apply TO.here))|((with_reducible apply TX.region);(focus (simp only []<;>exact rfl));(focus rfl);(try dsimp only))|with_reducible refine TD.nil ?_|((with_reducible first|apply TD.fa|apply TD.ld|apply TD.mv|apply TD.ia|apply TD.bin|apply TD.sv);(repeat (focus (show _ = _;first|exact k1 rfl|exact k2 rfl|(simp only [zz,y20,e_Li_iiii,Nat.reduceAdd,tfieldAddr,tload,rowOf,partT,tindexAddr,Nat.zero_add,h7m,h9]<;>exact rfl)|exact rfl)));(with_reducible refine TD.here ?_))|((with_reducible apply TX.drawn);(focus decide +kernel);(focus (simp only []<;>exact rfl));(focus exact rfl);(try dsimp only))|((with_reducible apply TX.cond_true);(focus rfl);(focus ((simp only [z1,h9];done)))))
            cases hr
            refine ⟨rfl,?_⟩
            exact Wk.ren [some 0,some 1] rfl (rv (rv .nil rfl) rfl) (by (repeat (first|exact RNs.nil|refine RNs.cons .junk ?_|refine RNs.cons (.keep rfl rfl) ?_|refine RNs.cons (.lptr rfl) ?_)))
          · rw [if_neg (by rw [h9];exact Bool.false_ne_true)] at hr
            repeat (first|(with_reducible first|refine mv ?_|refine TO.nil ?_)|((with_reducible first|apply TO.mv|apply TO.bin|apply TO.asg);(repeat (focus (show _ = _;first|exact k2 rfl|(simp only [zz,h9]<;>exact rfl))));(with_reducible apply TO.here))|((with_reducible apply TX.region);(focus (simp only []<;>exact rfl));(focus rfl);(try dsimp only))|((with_reducible apply TX.cond_false);(focus rfl);(focus ((simp only [z1,h9];done)))))
            cases hr
            refine ⟨rfl,?_⟩
            exact Wk.ren [some 0,some 1] rfl (rv (rv .nil rfl) rfl) (by (repeat (first|exact RNs.nil|refine RNs.cons .junk ?_|refine RNs.cons (.keep rfl rfl) ?_|refine RNs.cons (.lptr rfl) ?_)))
        · rw [if_neg (by rw [h8];exact Bool.false_ne_true)] at hr
          repeat (first|(with_reducible first|refine mv ?_|refine TO.nil ?_)|((with_reducible first|apply TO.mv|apply TO.ia|apply TO.fa|apply TO.ld|apply TO.bin);(repeat (focus (show _ = _;first|exact k2 rfl|(simp only [zz,y20,e_Li_iiii,Nat.reduceAdd,tindexAddr,Nat.zero_add,tfieldAddr,tload,rowOf,partT,h7m,h8]<;>exact rfl)|exact rfl)));(with_reducible apply TO.here))|((with_reducible apply TX.region);(focus (simp only []<;>exact rfl));(focus rfl);(try dsimp only))|((with_reducible apply TX.cond_false);(focus rfl);(focus ((simp only [z1,h8];done)))))
          rcases Bool.eq_false_or_eq_true ((decide (v16 ≤ v2))) with h10|h10
          · rw [if_pos h10] at hr
            repeat (first|(with_reducible first|refine mv ?_|refine TO.nil ?_)|((with_reducible first|apply TO.mv|apply TO.bin|apply TO.asg);(repeat (focus (show _ = _;first|exact k2 rfl|(simp only [zz]<;>exact rfl))));(with_reducible apply TO.here))|((with_reducible apply TX.region);(focus (simp only []<;>exact rfl));(focus rfl);(try dsimp only))|with_reducible refine TD.nil ?_|((with_reducible first|apply TD.fa|apply TD.ld|apply TD.mv|apply TD.ia|apply TD.bin|apply TD.sv);(repeat (focus (show _ = _;first|exact k1 rfl|exact k2 rfl|(simp only [zz,y20,e_Li_iiii,Nat.reduceAdd,tfieldAddr,tload,rowOf,partT,tindexAddr,Nat.zero_add,h7m,h10]<;>exact rfl)|exact rfl)));(with_reducible refine TD.here ?_))|((with_reducible apply TX.drawn);(focus decide +kernel);(focus (simp only []<;>exact rfl));(focus exact rfl);(try dsimp only))|((with_reducible apply TX.cond_true);(focus rfl);(focus ((simp only [z1,h10];done)))))
            cases hr
            refine ⟨rfl,?_⟩
            exact Wk.ren [some 0,some 1] rfl (rv (rv .nil rfl) rfl) (by (repeat (first|exact RNs.nil|refine RNs.cons .junk ?_|refine RNs.cons (.keep rfl rfl) ?_|refine RNs.cons (.lptr rfl) ?_)))
          · rw [if_neg (by rw [h10];exact Bool.false_ne_true)] at hr
            repeat (first|(with_reducible first|refine mv ?_|refine TO.nil ?_)|((with_reducible first|apply TO.mv|apply TO.bin|apply TO.asg);(repeat (focus (show _ = _;first|exact k2 rfl|(simp only [zz,h10]<;>exact rfl))));(with_reducible apply TO.here))|((with_reducible apply TX.region);(focus (simp only []<;>exact rfl));(focus rfl);(try dsimp only))|((with_reducible apply TX.cond_false);(focus rfl);(focus ((simp only [z1,h10];done)))))
            cases hr
            refine ⟨rfl,?_⟩
            exact Wk.ren [some 0,some 1] rfl (rv (rv .nil rfl) rfl) (by (repeat (first|exact RNs.nil|refine RNs.cons .junk ?_|refine RNs.cons (.keep rfl rfl) ?_|refine RNs.cons (.lptr rfl) ?_)))
      · rw [if_neg (by rw [h6];exact Bool.false_ne_true)] at hr
        repeat (first|with_reducible refine mv ?_|((with_reducible apply TX.cond_false);(focus rfl);(focus ((simp only [z1,h6];done)))))
        cases hr
        refine ⟨rfl,?_⟩
        exact Wk.ren [some 0,some 1] rfl (rv (rv .nil rfl) rfl) (by (repeat (first|exact RNs.nil|refine RNs.cons .junk ?_|refine RNs.cons (.lptr rfl) ?_)))
    · intro e h;cases h
    · try dsimp only
      repeat (first|(with_reducible first|refine mv ?_|refine TO.nil ?_)|((with_reducible first|apply TO.ld|apply TO.sv);(repeat (focus (show _ = _;first|exact k1 rfl|exact k2 rfl|(simp only [zz,y20,Nat.reduceAdd,Nat.reduceLeDiff,tload,rowOf,partT]<;>exact rfl)|exact rfl)));(with_reducible apply TO.here))|((with_reducible apply TX.region);(focus (simp only []<;>exact rfl));(focus rfl);(try dsimp only)))
      cases hr
      refine ⟨.inr rfl,_,(by simp only [];exact rfl),?_⟩
      exact wr [] rfl .nil
    · try dsimp only
      exact wr [some 0,some 1] rfl (rv (rv .nil rfl) rfl)
  rfl

end Go.Rex

namespace Go.Rex
open Go.Proofs
open Go Go.Rex Go.RowKit
set_option maxRecDepth 100000
set_option maxHeartbeats 1000000
def y21:=an @ag3 <| an @ag34 <| an @cs3 <| an @cs34 <| an @cs91 <| an @fd30_0 <| an @fd30_1 <| an @fd34_1 <| an @fd34_2 <| an @fd91_1 <| an @fd91_2 <| an @ok3 <| an @ok34 <| an @ok91 <| an @so22 <| an @st34 <| an @zc34 <| @wi64_0a1
theorem ref03_BurstOf_spec {v1 : (List ((List Int) × Int × Int × Int × Int))} {v2 : Int} {v3 : Int} {v4 : Int} {v5 : Int} (hr : ref03_BurstOf v1 v2 = some (v3,v4,v5)) : Spec (lim Tryz.prog) 18 [.list 5 (v1.map e_Li_iiii),.v (.int .i64 v2)] ⟨[.agg [.v (.int .i64 v3),.v (.int .i64 v4),.v (.int .i64 v5)]],[]⟩:=by
  unfold ref03_BurstOf at hr
  apply Spec.fn Tryz.func18 rfl
  focus (simp [Tryz.f18]<;>exact rfl)
  focus
    repeat (first|(with_reducible first|refine mv ?_|refine TO.nil ?_)|((with_reducible first|apply TO.al|apply TO.bld|apply TO.sv|apply TO.asg);(repeat (focus (show _ = _;first|exact k1 rfl|exact k2 rfl|(simp only [zz,y21,Nat.reduceAdd,Nat.reduceLeDiff,tbuild,tfill]<;>exact rfl))));(with_reducible apply TO.here))|((with_reducible apply TX.region);(focus (simp only []<;>exact rfl));(focus rfl);(try dsimp only)))
    obtain ⟨⟨v67,v68,v69⟩,h23,hr⟩:=Option.bind_eq_some_iff.1 hr
    try dsimp only at hr
    refine TX.loopE (step:=ref03_BurstOf_l1 v1 v2) (x:=(0,0,(-1),0)) h23 (fun (v6,v7,v8,v9)=>⟨.list 5 (v1.map e_Li_iiii) :: .v (.int .i64 v2) :: .junk :: .junk :: .lptr 0 0 0 :: .lptr 1 0 0 :: .v (.int .i64 v9) :: .junk :: .junk :: .junk :: .junk :: .junk :: .junk :: .junk :: .junk :: .junk :: .junk :: .junk :: .junk :: .junk :: .junk :: .junk :: .junk :: .junk :: .junk :: .junk :: .junk :: .junk :: .junk :: .junk :: .junk :: .junk :: .junk :: .junk :: .junk :: .junk :: .junk :: .junk :: .junk :: .junk :: .junk :: .junk :: .junk :: .junk :: .junk :: .junk :: .junk :: .junk :: .junk :: .junk :: .junk :: .junk :: .junk :: .junk :: .junk :: .junk :: .junk :: .junk :: .junk :: .junk :: .junk :: [],[.var [.v (.int .i64 0),.v (.int .i64 0),.v (.int .i64 0)],.var [.v (.int .i64 v6),.v (.int .i64 v7),.v (.int .i64 v8)]]⟩) (fun (v37,v38,v39)=>(.exit 0,⟨.junk :: .junk :: .junk :: .junk :: .lptr 0 0 0 :: .lptr 1 0 0 :: .junk :: .junk :: .junk :: .junk :: .junk :: .junk :: .junk :: .junk :: .junk :: .junk :: .junk :: .junk :: .junk :: .junk :: .junk :: .junk :: .junk :: .junk :: .junk :: .junk :: .junk :: .junk :: .junk :: .junk :: .junk :: .junk :: .junk :: .junk :: .junk :: .junk :: .junk :: .junk :: .junk :: .junk :: .junk :: .junk :: .junk :: .junk :: .junk :: .junk :: .junk :: .junk :: .junk :: .junk :: .junk :: .junk :: .junk :: .junk :: .junk :: .junk :: .junk :: .junk :: .junk :: .junk :: .junk :: [],[.var [.v (.int .i64 0),.v (.int .i64 0),.v (.int .i64 0)],.var [.v (.int .i64 v37),.v (.int .i64 v38),.v (.int .i64 v39)]]⟩)) ?_ ?_ ?_ ?_
    · rintro ⟨v6,v7,v8,v9⟩ v0 hr
      dsimp only [ref03_BurstOf_l1] at hr
      try dsimp only
      repeat (first|(with_reducible first|refine mv ?_|refine TO.nil ?_)|((with_reducible first|apply TO.mv|apply TO.len|apply TO.bin);(repeat (focus (show _ = _;first|exact k2 rfl|(simp only [zz,y21,tlen]<;>exact rfl))));(with_reducible apply TO.here))|((with_reducible apply TX.region);(focus (simp only []<;>exact rfl));(focus rfl);(try dsimp only)))
      rcases Bool.eq_false_or_eq_true ((decide (v9 < (v1.length : Int)))) with h12|h12
      · rw [if_pos h12] at hr
        repeat (first|(with_reducible first|refine mv ?_|refine TO.nil ?_)|((with_reducible first|apply TO.mv|apply TO.bld|apply TO.al|apply TO.sv|apply TO.asg);(repeat (focus (show _ = _;first|exact k1 rfl|exact k2 rfl|(simp only [zz,y21,Nat.reduceAdd,Nat.reduceLeDiff,tbuild,tfill,h12]<;>exact rfl))));(with_reducible apply TO.here))|((with_reducible apply TX.region);(focus (simp only []<;>exact rfl));(focus rfl);(try dsimp only))|((with_reducible apply TX.cond_true);(focus rfl);(focus ((simp only [z1,h12];done)))))
        obtain ⟨⟨v65,v66⟩,h21,hr⟩:=Option.bind_eq_some_iff.1 hr
        try dsimp only at hr
        refine TX.loopE (step:=ref03_BurstOf_l2 v1 v2 v9) (x:=(0,0,v9)) h21 (fun (v40,v41,v42)=>⟨.list 5 (v1.map e_Li_iiii) :: .v (.int .i64 v2) :: .junk :: .junk :: .lptr 0 0 0 :: .lptr 1 0 0 :: .v (.int .i64 v9) :: .lptr 2 0 0 :: .v (.int .i64 v42) :: .junk :: .junk :: .junk :: .junk :: .junk :: .junk :: .junk :: .junk :: .junk :: .junk :: .junk :: .junk :: .junk :: .junk :: .junk :: .junk :: .junk :: .junk :: .junk :: .junk :: .junk :: .junk :: .junk :: .junk :: .junk :: .junk :: .junk :: .junk :: .junk :: .junk :: .junk :: .junk :: .junk :: .junk :: .junk :: .junk :: .junk :: .junk :: .junk :: .junk :: .junk :: .junk :: .junk :: .junk :: .junk :: .junk :: .junk :: .junk :: .junk :: .junk :: .junk :: .junk :: [],[.var [.v (.int .i64 0),.v (.int .i64 0),.v (.int .i64 0)],.var [.v (.int .i64 v6),.v (.int .i64 v7),.v (.int .i64 v8)],.var [.v (.int .i64 v9),.v (.int .i64 v40),.v (.int .i64 v41)]]⟩) (fun (v53,v54)=>(.exit 2,⟨.list 5 (v1.map e_Li_iiii) :: .v (.int .i64 v2) :: .junk :: .junk :: .lptr 0 0 0 :: .lptr 1 0 0 :: .v (.int .i64 v9) :: .lptr 2 0 0 :: .junk :: .junk :: .junk :: .junk :: .junk :: .junk :: .junk :: .junk :: .junk :: .junk :: .junk :: .junk :: .junk :: .junk :: .junk :: .junk :: .junk :: .junk :: .junk :: .junk :: .junk :: .junk :: .junk :: .junk :: .junk :: .junk :: .junk :: .junk :: .junk :: .junk :: .junk :: .junk :: .junk :: .junk :: .junk :: .junk :: .junk :: .junk :: .junk :: .junk :: .junk :: .junk :: .junk :: .junk :: .junk :: .junk :: .junk :: .junk :: .junk :: .junk :: .junk :: .junk :: .junk :: [],[.var [.v (.int .i64 0),.v (.int .i64 0),.v (.int .i64 0)],.var [.v (.int .i64 v6),.v (.int .i64 v7),.v (.int .i64 v8)],.var [.v (.int .i64 v9),.v (.int .i64 v53),.v (.int .i64 v54)]]⟩)) ?_ ?_ ?_ ?_
        · rintro ⟨v40,v41,v42⟩ v0 hr
          dsimp only [ref03_BurstOf_l2] at hr
          try dsimp only
          repeat (first|(with_reducible first|refine mv ?_|refine TO.nil ?_)|((with_reducible first|apply TO.mv|apply TO.len|apply TO.bin);(repeat (focus (show _ = _;first|exact k2 rfl|(simp only [zz,y21,tlen]<;>exact rfl))));(with_reducible apply TO.here))|((with_reducible apply TX.region);(focus (simp only []<;>exact rfl));(focus rfl);(try dsimp only)))
          rcases Bool.eq_false_or_eq_true ((decide (v42 < (v1.length : Int)))) with h17|h17
          · rw [if_pos h17] at hr
            repeat (first|with_reducible refine mv ?_|((with_reducible apply TD.mv);(repeat (focus (show _ = _;first|exact k2 rfl|(simp only [zz,h17]<;>exact rfl))));(with_reducible refine TD.here ?_))|((with_reducible apply TX.drawn);(focus decide +kernel);(focus (simp only []<;>exact rfl));(focus exact rfl);(try dsimp only))|((with_reducible apply TX.cond_true);(focus rfl);(focus ((simp only [z1,h17];done)))))
            obtain ⟨⟨v55,v56,v57,v58,v59⟩,h18,hr⟩:=Option.bind_eq_some_iff.1 hr
            try dsimp only at hr
            have h18m:=tidx_map (f:=e_Li_iiii) h18
            have h18l:=getI_lt h18
            try simp only [List.length_set] at h18l
            have h18a:=getI_at h18
            repeat (first|((with_reducible first|apply TD.ia|apply TD.fa|apply TD.ld|apply TD.mv);(repeat (focus (show _ = _;first|exact k2 rfl|(simp only [zz,y21,e_Li_iiii,Nat.reduceAdd,tindexAddr,Nat.zero_add,tfieldAddr,tload,rowOf,partT,h18m]<;>exact rfl)|exact rfl)));(with_reducible refine TD.here ?_)))
            obtain ⟨⟨v60,v61,v62,v63,v64⟩,h19,hr⟩:=Option.bind_eq_some_iff.1 hr
            try dsimp only at hr
            have h19m:=tidx_map (f:=e_Li_iiii) h19
            have h19l:=getI_lt h19
            try simp only [List.length_set] at h19l
            have h19a:=getI_at h19
            repeat (first|(with_reducible first|refine mv ?_|refine TD.nil ?_)|((with_reducible first|apply TD.ia|apply TD.fa|apply TD.ld|apply TD.bin|apply TD.mv);(repeat (focus (show _ = _;first|exact k2 rfl|(simp only [zz,y21,e_Li_iiii,Nat.reduceAdd,tindexAddr,Nat.zero_add,tfieldAddr,tload,rowOf,partT,h19m]<;>exact rfl)|exact rfl)));(with_reducible refine TD.here ?_)))
            rcases Bool.eq_false_or_eq_true ((decide ((IntKind.i64.wrap (v57 - v61)) ≤ v2))) with h20|h20
            · rw [if_pos h20] at hr
              repeat (first|(with_reducible first|refine mv ?_|refine TO.nil ?_)|((with_reducible first|apply TO.mv|apply TO.bin|apply TO.asg);(repeat (focus (show _ = _;first|exact k2 rfl|(simp only [zz]<;>exact rfl))));(with_reducible apply TO.here))|((with_reducible apply TX.region);(focus (simp only []<;>exact rfl));(focus rfl);(try dsimp only))|with_reducible refine TD.nil ?_|((with_reducible first|apply TD.fa|apply TD.ld|apply TD.bin|apply TD.mv|apply TD.ia|apply TD.sv);(repeat (focus (show _ = _;first|exact k1 rfl|exact k2 rfl|(simp only [zz,y21,e_Li_iiii,Nat.reduceAdd,tfieldAddr,tload,rowOf,partT,tindexAddr,Nat.zero_add,h18m,h20]<;>exact rfl)|exact rfl)));(with_reducible refine TD.here ?_))|((with_reducible apply TX.drawn);(focus decide +kernel);(focus (simp only []<;>exact rfl));(focus exact rfl);(try dsimp only))|((with_reducible apply TX.cond_true);(focus rfl);(focus ((simp only [z1,h20];done)))))
              cases hr
              refine ⟨rfl,?_⟩
              exact Wk.ren [some 0,some 1,some 2] rfl (rv (rv (rv .nil rfl) rfl) rfl) (by (repeat (first|exact RNs.nil|refine RNs.cons .junk ?_|refine RNs.cons (.keep rfl rfl) ?_|refine RNs.cons (.lptr rfl) ?_)))
            · rw [if_neg (by rw [h20];exact Bool.false_ne_true)] at hr
              repeat (first|(with_reducible first|refine mv ?_|refine TO.nil ?_)|((with_reducible first|apply TO.mv|apply TO.bin|apply TO.asg);(repeat (focus (show _ = _;first|exact k2 rfl|(simp only [zz,h20]<;>exact rfl))));(with_reducible apply TO.here))|((with_reducible apply TX.region);(focus (simp only []<;>exact rfl));(focus rfl);(try dsimp only))|((with_reducible apply TX.cond_false);(focus rfl);(focus ((simp only [z1,h20];done)))))
              cases hr
              refine ⟨rfl,?_⟩
              exact Wk.ren [some 0,some 1,some 2] rfl (rv (rv (rv .nil rfl) rfl) rfl) (by (repeat (first|exact RNs.nil|refine RNs.cons .junk ?_|refine RNs.cons (.keep rfl rfl) ?_|refine RNs.cons (.lptr rfl) ?_)))
          · rw [if_neg (by rw [h17];exact Bool.false_ne_true)] at hr
            repeat (first|with_reducible refine mv ?_|((with_reducible apply TX.cond_false);(focus rfl);(focus ((simp only [z1,h17];done)))))
            cases hr
            refine ⟨rfl,?_⟩
            exact Wk.ren [some 0,some 1,some 2] rfl (rv (rv (rv .nil rfl) rfl) rfl) (by (repeat (first|exact RNs.nil|refine RNs.cons .junk ?_|refine RNs.cons (.keep rfl rfl) ?_|refine RNs.cons (.lptr rfl) ?_)))
        · intro e h;cases h
        · try dsimp only
          repeat (first|(with_reducible first|refine mv ?_|refine TO.nil ?_)|((with_reducible first|apply TO.fa|apply TO.ld|apply TO.bin);(repeat (focus (show _ = _;first|exact k2 rfl|(simp only [zz,y21,Nat.reduceAdd,tfieldAddr,tload,rowOf,partT]<;>exact rfl)|exact rfl)));(with_reducible apply TO.here))|((with_reducible apply TX.region);(focus (simp only []<;>exact rfl));(focus rfl);(try dsimp only)))
          rcases Bool.eq_false_or_eq_true ((decide (v66 > v8))) with h22|h22
          · rw [if_pos h22] at hr
            repeat (first|(with_reducible first|refine mv ?_|refine TO.nil ?_)|((with_reducible first|apply TO.ld|apply TO.sv|apply TO.mv|apply TO.bin|apply TO.asg);(repeat (focus (show _ = _;first|exact k1 rfl|exact k2 rfl|(simp only [zz,y21,Nat.reduceAdd,Nat.reduceLeDiff,tload,rowOf,partT,h22]<;>exact rfl)|exact rfl)));(with_reducible apply TO.here))|((with_reducible apply TX.region);(focus (simp only []<;>exact rfl));(focus rfl);(try dsimp only))|((with_reducible apply TX.cond_true);(focus rfl);(focus ((simp only [z1,h22];done)))))
            cases hr
            refine ⟨rfl,?_⟩
            exact Wk.ren [some 0,some 1] rfl (rv (rv .nil rfl) rfl) (by (repeat (first|exact RNs.nil|refine RNs.cons .junk ?_|refine RNs.cons (.keep rfl rfl) ?_|refine RNs.cons (.lptr rfl) ?_)))
          · rw [if_neg (by rw [h22];exact Bool.false_ne_true)] at hr
            repeat (first|(with_reducible first|refine mv ?_|refine TO.nil ?_)|((with_reducible first|apply TO.mv|apply TO.bin|apply TO.asg);(repeat (focus (show _ = _;first|exact k2 rfl|(simp only [zz,h22]<;>exact rfl))));(with_reducible apply TO.here))|((with_reducible apply TX.region);(focus (simp only []<;>exact rfl));(focus rfl);(try dsimp only))|((with_reducible apply TX.cond_false);(focus rfl);(focus ((simp only [z1,h22];done)))))
            cases hr
            refine ⟨rfl,?_⟩
            exact Wk.ren [some 0,some 1] rfl (rv (rv .nil rfl) rfl) (by (repeat (first|exact RNs.nil|refine RNs.cons .junk ?_|refine RNs.cons (.keep rfl rfl) ?_|refine RNs.cons (.lptr rfl) ?_)))
        · try dsimp only
          exact Wk.ren [some 0,some 1,some 2] rfl (rv (rv (rv .nil rfl) rfl) rfl) (by (repeat (first|exact RNs.nil|refine RNs.cons .junk ?_|refine RNs.cons (.keep rfl rfl) ?_|refine RNs.cons (.lptr rfl) ?_)))
      · rw [if_neg (by rw [h12];exact Bool.false_ne_true)] at hr
        repeat (first|with_reducible refine mv ?_|((with_reducible apply TX.cond_false);(focus rfl);(focus ((simp only [z1,h12];done)))))
        cases hr
        refine ⟨rfl,?_⟩
        exact Wk.ren [some 0,some 1] rfl (rv (rv .nil rfl) rfl) (by (repeat (first|exact RNs.nil|refine RNs.cons .junk ?_|refine RNs.cons (.lptr rfl) ?_)))
    · intro e h;cases h
    · try dsimp only
      repeat (first|(with_reducible first|refine mv ?_|refine TO.nil ?_)|((with_reducible first|apply TO.ld|apply TO.sv);(repeat (focus (show _ = _;first|exact k1 rfl|exact k2 rfl|(simp only [zz,y21,Nat.reduceAdd,Nat.reduceLeDiff,tload,rowOf,partT]<;>exact rfl)|exact rfl)));(with_reducible apply TO.here))|((with_reducible apply TX.region);(focus (simp only []<;>exact rfl));(focus rfl);(try dsimp only)))
      cases hr
      refine ⟨.inr rfl,_,(by simp only [];exact rfl),?_⟩
      exact wr [] rfl .nil
    · try dsimp only
      exact wr [some 0,some 1] rfl (rv (rv .nil rfl) rfl)
  rfl

end Go.Rex

namespace Go.Rex
open Go.Proofs
open Go Go.Rex Go.RowKit
set_option maxRecDepth 100000

end Go.Rex

namespace Go.Rex
open Go.Proofs
open Go Go.Rex Go.RowKit
set_option maxRecDepth 100000
set_option maxHeartbeats 4000000
def y22:=an @ag30 <| an @ag34 <| an @cs30 <| an @cs34 <| an @eqg30 <| an @eqg34 <| an @eqs30 <| an @eqs34 <| an @ok30 <| an @ok34 <| an @so22 <| an @st30 <| an @st34 <| an @zc30 <| @zc34
theorem law03_EnergyArrives_law {v1 : (List ((List Int) × Int × Int × Int × Int))} {v2 : Int} {v3 : Int} (hr : law03_EnergyArrives v1 v2 v3 = some true) {Fz : Nat → Prop} {h : List Blk} {vs : List Value} (hfz : ∀ n, Fz n → n < h.length) (hargs : VLs Fz h noL [.list 5 (v1.map e_Li_iiii), .v (.int .i64 v2), .v (.int .i64 v3)] vs)
    {B lo : Nat} {D : Nat → Prop} {m : NMap} {w : World} {args' : List Value} (hrel : Rel B lo D m h w) (hlo : lo ≤ h.length) (hargs' : VRs D m vs args') : Calls Tryz.prog 3 ⟨args'⟩ w (fun e w'=>e = .returned (.bool true) ∧ Below w.heap.size w w'):=by
  unfold law03_EnergyArrives at hr
  refine law_tex follows awake_true Tryz.func3 rfl (tm0:=.list 5 (v1.map e_Li_iiii) :: .v (.int .i64 v2) :: .v (.int .i64 v3) :: .junk :: .junk :: .junk :: .junk :: .junk :: .junk :: .junk :: .junk :: .junk :: .junk :: .junk :: .junk :: .junk :: .junk :: .junk :: .junk :: .junk :: .junk :: .junk :: .junk :: .junk :: .junk :: .junk :: .junk :: .junk :: .junk :: .junk :: .junk :: .junk :: .junk :: .junk :: .junk :: .junk :: .junk :: .junk :: .junk :: .junk :: .junk :: .junk :: .junk :: .junk :: .junk :: .junk :: .junk :: .junk :: .junk :: .junk :: .junk :: .junk :: .junk :: .junk :: .junk :: .junk :: .junk :: .junk :: .junk :: .junk :: .junk :: .junk :: .junk :: .junk :: .junk :: .junk :: .junk :: .junk :: .junk :: .junk :: .junk :: .junk :: .junk :: .junk :: .junk :: .junk :: .junk :: .junk :: .junk :: .junk :: .junk :: .junk :: .junk :: .junk :: .junk :: .junk :: .junk :: .junk :: .junk :: .junk :: .junk :: .junk :: .junk :: .junk :: .junk :: .junk :: .junk :: .junk :: .junk :: .junk :: .junk :: .junk :: .junk :: .junk :: .junk :: .junk :: .junk :: .junk :: .junk :: .junk :: .junk :: .junk :: .junk :: .junk :: .junk :: .junk :: .junk :: .junk :: .junk :: .junk :: .junk :: .junk :: .junk :: .junk :: .junk :: .junk :: .junk :: .junk :: .junk :: .junk :: .junk :: .junk :: []) (by simp [Tryz.f3]<;>exact rfl) ?_ hfz hargs hrel hlo hargs'
  repeat (first|(with_reducible first|refine mv ?_|refine TO.nil ?_)|((with_reducible apply TO.asg);(repeat (focus (show _ = _;first|exact k2 rfl|(simp only [zz]<;>exact rfl))));(with_reducible apply TO.here))|((with_reducible apply TX.region);(focus (simp only []<;>exact rfl));(focus rfl);(try dsimp only)))
  apply TO.cal (by first|rfl|(simp only [twant,z1,z7]<;>rfl)) rfl goFn9 Spec.awake rfl rfl rfl
  (repeat (focus (show _ = _;(simp only [zz,shift]<;>exact rfl))))
  with_reducible apply TO.here
  apply TO.pop1 (by first|rfl|(simp only [twant,z1,z7]<;>rfl)) (pop_not rfl)
  (repeat (focus (show _ = _;(simp only [zz]<;>exact rfl))))
  with_reducible apply TO.here
  repeat (first|(with_reducible first|refine mv ?_|refine TO.nil ?_)|((with_reducible apply TO.mv);(repeat (focus (show _ = _;first|exact k2 rfl|(simp only [zz]<;>exact rfl))));(with_reducible apply TO.here))|((with_reducible apply TX.region);(focus (simp only []<;>exact rfl));(focus rfl);(try dsimp only))|((with_reducible apply TX.cond_false);(focus rfl);(focus (rfl))))
  obtain ⟨v5,h1,hr⟩:=Option.bind_eq_some_iff.1 hr
  try dsimp only at hr
  apply TO.cal (by first|rfl|(simp only [twant,z1,z7]<;>rfl)) rfl goFn10 (Spec.ov (law03_echoes_spec h1) (by decide)) rfl rfl rfl
  (repeat (focus (show _ = _;(simp only [zz,shift]<;>exact rfl))))
  with_reducible apply TO.here
  apply TO.pop1 (by first|rfl|(simp only [twant,z1,z7]<;>rfl)) (pop_not rfl)
  (repeat (focus (show _ = _;(simp only [zz]<;>exact rfl))))
  with_reducible apply TO.here
  repeat (first|(with_reducible first|refine mv ?_|refine TO.nil ?_))
  rcases Bool.eq_false_or_eq_true (v5) with h2|h2
  · rw [if_pos h2] at hr
    repeat (first|with_reducible refine mv ?_|((with_reducible apply TO.mv);(repeat (focus (show _ = _;first|exact k2 rfl|(simp only [zz,h2]<;>exact rfl))));(with_reducible apply TO.here))|((with_reducible apply TX.region);(focus (simp only []<;>exact rfl));(focus rfl);(try dsimp only))|((with_reducible apply TX.cond_false);(focus rfl);(focus ((simp only [z1,Bool.not_true,h2];done)))))
    obtain ⟨v6,h3,hr⟩:=Option.bind_eq_some_iff.1 hr
    try dsimp only at hr
    apply TO.cal (by first|rfl|(simp only [twant,z1,z7,h2]<;>rfl)) rfl goFn12 (Spec.ov (ref03_CopyEchoes_spec h3) (by decide)) rfl rfl rfl
    (repeat (focus (show _ = _;(simp only [zz,Nat.reduceAdd,shift]<;>exact rfl))))
    with_reducible apply TO.here
    obtain ⟨⟨v7,v8⟩,h4,hr⟩:=Option.bind_eq_some_iff.1 hr
    try dsimp only at hr
    apply TO.lok (by first|rfl|(simp only [twant,z1,z7,h2]<;>rfl)) rfl goFn11 (Spec.ov (energy_CheckEchoes_spec h4) (by decide)) (by simp only [view,z1,z3,tmlc]<;>rfl) rfl rfl (by simp [])
    (repeat (focus (show _ = _;(simp only [zz,Nat.reduceAdd,shift]<;>exact rfl))))
    with_reducible apply TO.here
    repeat (first|(with_reducible first|refine mv ?_|refine TO.nil ?_)|((with_reducible first|apply TO.mv|apply TO.ext|apply TO.asg);(repeat (focus (show _ = _;first|exact k2 rfl|(simp only [zz]<;>exact rfl))));(with_reducible apply TO.here))|((with_reducible apply TX.region);(focus (simp only []<;>exact rfl));(focus rfl);(try dsimp only)))
    obtain ⟨v9,h5,hr⟩:=Option.bind_eq_some_iff.1 hr
    try dsimp only at hr
    apply TO.cal (by first|rfl|(simp only [twant,z1,z7,h2]<;>rfl)) rfl goFn12 (Spec.ov (ref03_CopyEchoes_spec h5) (by decide)) rfl rfl rfl
    (repeat (focus (show _ = _;(simp only [zz,Nat.reduceAdd,shift]<;>exact rfl))))
    with_reducible apply TO.here
    repeat (first|((with_reducible apply TO.mv);(repeat (focus (show _ = _;first|exact k2 rfl|(simp only [zz]<;>exact rfl))));(with_reducible apply TO.here)))
    obtain ⟨⟨v10,v11,v12⟩,h6,hr⟩:=Option.bind_eq_some_iff.1 hr
    try dsimp only at hr
    apply TO.lok (by first|rfl|(simp only [twant,z1,z7,h2]<;>rfl)) rfl goFn13 (Spec.ov (energy_UpTo_spec h6) (by decide)) (by simp only [view,z1,z3,tmlc]<;>rfl) rfl rfl (by simp [])
    (repeat (focus (show _ = _;(simp only [zz,Nat.reduceAdd,shift]<;>exact rfl))))
    with_reducible apply TO.here
    repeat (first|(with_reducible first|refine mv ?_|refine TO.nil ?_)|((with_reducible first|apply TO.mv|apply TO.ext|apply TO.al|apply TO.sv|apply TO.asg);(repeat (focus (show _ = _;first|exact k1 rfl|exact k2 rfl|(simp only [zz,y22,Nat.reduceAdd]<;>exact rfl))));(with_reducible apply TO.here))|((with_reducible apply TX.region);(focus (simp only []<;>exact rfl));(focus rfl);(try dsimp only)))
    obtain ⟨v13,h7,hr⟩:=Option.bind_eq_some_iff.1 hr
    try dsimp only at hr
    apply TO.cal (by first|rfl|(simp only [twant,z1,z7,h2]<;>rfl)) rfl goFn12 (Spec.ov (ref03_CopyEchoes_spec h7) (by decide)) rfl rfl rfl
    (repeat (focus (show _ = _;(simp only [zz,Nat.reduceAdd,shift]<;>exact rfl))))
    with_reducible apply TO.here
    repeat (first|((with_reducible apply TO.mv);(repeat (focus (show _ = _;first|exact k2 rfl|(simp only [zz]<;>exact rfl))));(with_reducible apply TO.here)))
    obtain ⟨⟨v14,v15,v16,v17⟩,h8,hr⟩:=Option.bind_eq_some_iff.1 hr
    try dsimp only at hr
    apply TO.lok (by first|rfl|(simp only [twant,z1,z7,h2]<;>rfl)) rfl goFn14 (Spec.ov (energy_BurstOf_spec h8) (by decide)) (by simp only [view,z1,z3,tmlc]<;>rfl) rfl rfl (by simp [])
    (repeat (focus (show _ = _;(simp only [zz,Nat.reduceAdd,shift]<;>exact rfl))))
    with_reducible apply TO.here
    repeat (first|(with_reducible first|refine mv ?_|refine TO.nil ?_)|((with_reducible first|apply TO.mv|apply TO.ext|apply TO.al|apply TO.sv|apply TO.asg);(repeat (focus (show _ = _;first|exact k1 rfl|exact k2 rfl|(simp only [zz,y22,Nat.reduceAdd]<;>exact rfl))));(with_reducible apply TO.here))|((with_reducible apply TX.region);(focus (simp only []<;>exact rfl));(focus rfl);(try dsimp only)))
    obtain ⟨⟨v18,v19⟩,h9,hr⟩:=Option.bind_eq_some_iff.1 hr
    try dsimp only at hr
    apply TO.cal (by first|rfl|(simp only [twant,z1,z7,h2]<;>rfl)) rfl goFn15 (Spec.ov (ref03_CheckEchoes_spec h9) (by decide)) rfl rfl rfl
    (repeat (focus (show _ = _;(simp only [zz,Nat.reduceAdd,shift]<;>exact rfl))))
    with_reducible apply TO.here
    repeat (first|(with_reducible first|refine mv ?_|refine TO.nil ?_)|((with_reducible first|apply TO.mv|apply TO.ext|apply TO.asg|apply TO.bin);(repeat (focus (show _ = _;first|exact k2 rfl|(simp only [zz]<;>exact rfl))));(with_reducible apply TO.here))|((with_reducible apply TX.region);(focus (simp only []<;>exact rfl));(focus rfl);(try dsimp only)))
    rcases Bool.eq_false_or_eq_true ((decide (v8 ≠ v19))) with h10|h10
    · rw [if_pos h10] at hr
      repeat (first|(with_reducible first|refine mv ?_|refine TO.nil ?_)|((with_reducible first|apply TO.pk|apply TO.asg);(repeat (focus (show _ = _;first|exact k2 rfl|(simp only [zz]<;>exact rfl))));(with_reducible apply TO.here))|((with_reducible apply TO.skip1);(repeat (focus (show _ = _;(simp only [zz,twant,zp,zs,h10]<;>exact rfl))));(with_reducible apply TO.here))|((with_reducible apply TX.region);(focus (simp only []<;>exact rfl));(focus rfl);(try dsimp only))|((with_reducible apply TX.cond_true);(focus rfl);(focus (rfl))))
      have hb:=Option.some.inj hr
      first|(cases hb;done)|(refine ⟨.inr rfl,?_⟩;first|(simp only [tresAll,tres,z1,hb,Option.map_some]<;>exact rfl)|(simp only [h2,h10] at hb;simp only [tresAll,tres,z1,hb,Option.map_some]<;>exact rfl))
    · rw [if_neg (by rw [h10];exact Bool.false_ne_true)] at hr
      repeat (first|(with_reducible first|refine mv ?_|refine TO.nil ?_)|((with_reducible first|apply TO.mv|apply TO.bin|apply TO.pk);(repeat (focus (show _ = _;first|exact k2 rfl|(simp only [zz,h10]<;>exact rfl))));(with_reducible apply TO.here)))
      rcases Bool.eq_false_or_eq_true ((decide (v7 ≠ v18))) with h11|h11
      · rw [if_pos h11] at hr
        repeat (first|(with_reducible first|refine mv ?_|refine TO.nil ?_)|((with_reducible apply TO.asg);(repeat (focus (show _ = _;first|exact k2 rfl|(simp only [zz,h11]<;>exact rfl))));(with_reducible apply TO.here))|((with_reducible apply TX.region);(focus (simp only []<;>exact rfl));(focus rfl);(try dsimp only))|((with_reducible apply TX.cond_true);(focus rfl);(focus ((simp only [z1,Bool.not_true,h11];done)))))
        have hb:=Option.some.inj hr
        first|(cases hb;done)|(refine ⟨.inr rfl,?_⟩;first|(simp only [tresAll,tres,z1,hb,Option.map_some]<;>exact rfl)|(simp only [h2,h10,h11] at hb;simp only [tresAll,tres,z1,hb,Option.map_some]<;>exact rfl))
      · rw [if_neg (by rw [h11];exact Bool.false_ne_true)] at hr
        repeat (first|(with_reducible first|refine mv ?_|refine TO.nil ?_)|((with_reducible first|apply TO.mv|apply TO.bin);(repeat (focus (show _ = _;first|exact k2 rfl|(simp only [zz,h11]<;>exact rfl))));(with_reducible apply TO.here))|((with_reducible apply TX.region);(focus (simp only []<;>exact rfl));(focus rfl);(try dsimp only))|((with_reducible apply TX.cond_false);(focus rfl);(focus ((simp only [z1,Bool.not_true,h11];done)))))
        rcases Bool.eq_false_or_eq_true ((decide (v19 ≠ 0))) with h12|h12
        · rw [if_pos h12] at hr
          repeat (first|with_reducible refine mv ?_|((with_reducible first|apply TO.mv|apply TO.bin);(repeat (focus (show _ = _;first|exact k2 rfl|(simp only [zz,h12]<;>exact rfl))));(with_reducible apply TO.here))|((with_reducible apply TX.region);(focus (simp only []<;>exact rfl));(focus rfl);(try dsimp only))|((with_reducible apply TX.cond_true);(focus rfl);(focus ((simp only [z1,Bool.not_true,h12];done)))))
          rcases Bool.eq_false_or_eq_true ((decide (v12 = v19))) with h13|h13
          · rw [if_pos h13] at hr
            repeat (first|((with_reducible first|apply TO.mv|apply TO.bin|apply TO.pk);(repeat (focus (show _ = _;first|exact k2 rfl|(simp only [zz,h13]<;>exact rfl))));(with_reducible apply TO.here)))
            rcases Bool.eq_false_or_eq_true ((decide (v17 = v19))) with h14|h14
            · rw [if_pos h14] at hr
              repeat (first|((with_reducible first|apply TO.ld|apply TO.bld);(repeat (focus (show _ = _;first|exact k2 rfl|(simp only [zz,y22,Nat.reduceAdd,Nat.reduceLeDiff,tload,rowOf,partT,tbuild,tfill,h14]<;>exact rfl)|exact rfl)));(with_reducible apply TO.here)))
              apply TO.pop1 (by first|rfl|(simp only [twant,z1,z7,h2,h10,h11,h12,h13,h14]<;>rfl)) (pop_eqs1 (X:=⟨[.int .i64 (v10),.int .i64 (v11)]⟩) (Y:=⟨[.int .i64 (0),.int .i64 (0)]⟩) rfl rfl rfl rfl rfl rfl rfl eqg30 eqs30 rfl)
              (repeat (focus (show _ = _;(simp only [zz]<;>exact rfl))))
              with_reducible apply TO.here
              repeat (first|((with_reducible first|apply TO.pk|apply TO.mv);(repeat (focus (show _ = _;first|exact k2 rfl|(simp only [zz]<;>exact rfl))));(with_reducible apply TO.here)))
              rcases Bool.eq_false_or_eq_true (([v10 == 0,v11 == 0].all id)) with h15|h15
              · rw [if_pos h15] at hr
                repeat (first|((with_reducible first|apply TO.ld|apply TO.bld);(repeat (focus (show _ = _;first|exact k2 rfl|(simp only [zz,y22,Nat.reduceAdd,Nat.reduceLeDiff,tload,rowOf,partT,tbuild,tfill,h15]<;>exact rfl)|exact rfl)));(with_reducible apply TO.here)))
                apply TO.pop1 (by first|rfl|(simp only [twant,z1,z7,h2,h10,h11,h12,h13,h14,h15]<;>rfl)) (pop_eqs1 (X:=⟨[.int .i64 (v14),.int .i64 (v15),.int .i64 (v16)]⟩) (Y:=⟨[.int .i64 (0),.int .i64 (0),.int .i64 (0)]⟩) rfl rfl rfl rfl rfl rfl rfl eqg34 eqs34 rfl)
                (repeat (focus (show _ = _;(simp only [zz]<;>exact rfl))))
                with_reducible apply TO.here
                repeat (first|(with_reducible first|refine mv ?_|refine TO.nil ?_)|((with_reducible first|apply TO.pk|apply TO.asg);(repeat (focus (show _ = _;first|exact k2 rfl|(simp only [zz]<;>exact rfl))));(with_reducible apply TO.here)))
                have hb:=Option.some.inj hr
                first|(cases hb;done)|(refine ⟨.inr rfl,?_⟩;first|(simp only [hb]<;>exact rfl)|(simp only [h2,h10,h11,h12,h13,h14,h15] at hb;simp only [tresAll,tres,z1,hb,Option.map_some]<;>exact rfl))
              · rw [if_neg (by rw [h15];exact Bool.false_ne_true)] at hr
                repeat (first|(with_reducible first|refine mv ?_|refine TO.nil ?_)|((with_reducible first|apply TO.pk|apply TO.asg);(repeat (focus (show _ = _;first|exact k2 rfl|(simp only [zz]<;>exact rfl))));(with_reducible apply TO.here))|((with_reducible apply TO.skip1);(repeat (focus (show _ = _;(simp only [zz,twant,zp,zs,h15]<;>exact rfl))));(with_reducible apply TO.here)))
                have hb:=Option.some.inj hr
                first|(cases hb;done)|(refine ⟨.inr rfl,?_⟩;first|(simp only [tresAll,tres,z1,hb,Option.map_some]<;>exact rfl)|(simp only [h2,h10,h11,h12,h13,h14,h15] at hb;simp only [tresAll,tres,z1,hb,Option.map_some]<;>exact rfl))
            · rw [if_neg (by rw [h14];exact Bool.false_ne_true)] at hr
              repeat (first|(with_reducible first|refine mv ?_|refine TO.nil ?_)|((with_reducible first|apply TO.pk|apply TO.mv|apply TO.asg);(repeat (focus (show _ = _;first|exact k2 rfl|(simp only [zz]<;>exact rfl))));(with_reducible apply TO.here))|((with_reducible apply TO.skip1);(repeat (focus (show _ = _;(simp only [zz,twant,zp,zs,h14]<;>exact rfl))));(with_reducible apply TO.here)))
              have hb:=Option.some.inj hr
              first|(cases hb;done)|(refine ⟨.inr rfl,?_⟩;first|(simp only [tresAll,tres,z1,hb,Option.map_some]<;>exact rfl)|(simp only [h2,h10,h11,h12,h13,h14] at hb;simp only [tresAll,tres,z1,hb,Option.map_some]<;>exact rfl))
          · rw [if_neg (by rw [h13];exact Bool.false_ne_true)] at hr
            repeat (first|(with_reducible first|refine mv ?_|refine TO.nil ?_)|((with_reducible first|apply TO.pk|apply TO.mv|apply TO.asg);(repeat (focus (show _ = _;first|exact k2 rfl|(simp only [zz,h13]<;>exact rfl))));(with_reducible apply TO.here))|((with_reducible apply TO.skip1);(repeat (focus (show _ = _;(simp only [zz,twant,zp,zs,h13]<;>exact rfl))));(with_reducible apply TO.here)))
            have hb:=Option.some.inj hr
            first|(cases hb;done)|(refine ⟨.inr rfl,?_⟩;first|(simp only [tresAll,tres,z1,hb,Option.map_some]<;>exact rfl)|(simp only [h2,h10,h11,h12,h13] at hb;simp only [tresAll,tres,z1,hb,Option.map_some]<;>exact rfl))
        · rw [if_neg (by rw [h12];exact Bool.false_ne_true)] at hr
          repeat (first|with_reducible refine mv ?_|((with_reducible apply TO.mv);(repeat (focus (show _ = _;first|exact k2 rfl|(simp only [zz,h12]<;>exact rfl))));(with_reducible apply TO.here))|((with_reducible apply TX.region);(focus (simp only []<;>exact rfl));(focus rfl);(try dsimp only))|((with_reducible apply TX.cond_false);(focus rfl);(focus ((simp only [z1,Bool.not_true,h12];done)))))
          obtain ⟨v20,h16,hr⟩:=Option.bind_eq_some_iff.1 hr
          try dsimp only at hr
          apply TO.cal (by first|rfl|(simp only [twant,z1,z7,h2,h10,h11,h12]<;>rfl)) rfl goFn16 (Spec.ov (ref03_MicroErr_spec h16) (by decide)) rfl rfl rfl
          (repeat (focus (show _ = _;(simp only [zz,shift]<;>exact rfl))))
          with_reducible apply TO.here
          repeat (first|(with_reducible first|refine mv ?_|refine TO.nil ?_)|((with_reducible apply TO.asg);(repeat (focus (show _ = _;first|exact k2 rfl|(simp only [zz]<;>exact rfl))));(with_reducible apply TO.here))|((with_reducible first|apply TD.mv|apply TD.bin);(repeat (focus (show _ = _;first|exact k2 rfl|(simp only [zz]<;>exact rfl))));(with_reducible refine TD.here ?_))|((with_reducible apply TX.drawn);(focus decide +kernel);(focus (simp only []<;>exact rfl));(focus exact rfl);(try dsimp only)))
          rcases Bool.eq_false_or_eq_true ((decide (v20 ≠ 0))) with h17|h17
          · rw [if_pos h17] at hr
            repeat (first|((with_reducible first|apply TD.mv|apply TD.bin);(repeat (focus (show _ = _;first|exact k2 rfl|(simp only [zz,h17]<;>exact rfl))));(with_reducible refine TD.here ?_)))
            rcases Bool.eq_false_or_eq_true ((decide (v12 ≠ v20))) with h18|h18
            · rw [if_pos h18] at hr
              repeat (first|(with_reducible first|refine mv ?_|refine TO.nil ?_)|((with_reducible apply TO.asg);(repeat (focus (show _ = _;first|exact k2 rfl|(simp only [zz]<;>exact rfl))));(with_reducible apply TO.here))|((with_reducible apply TX.region);(focus (simp only []<;>exact rfl));(focus rfl);(try dsimp only))|with_reducible refine TD.nil ?_|((with_reducible first|apply TD.pk|apply TD.mv);(repeat (focus (show _ = _;first|exact k2 rfl|(simp only [zz]<;>exact rfl))));(with_reducible refine TD.here ?_))|((with_reducible apply TD.skip1);(repeat (focus (show _ = _;(simp only [zz,twant,zp,zs,h18]<;>exact rfl))));(with_reducible refine TD.here ?_))|((with_reducible apply TX.cond_true);(focus rfl);(focus (rfl))))
              have hb:=Option.some.inj hr
              first|(cases hb;done)|(refine ⟨.inr rfl,?_⟩;first|(simp only [tresAll,tres,z1,hb,Option.map_some]<;>exact rfl)|(simp only [h2,h10,h11,h12,h17,h18] at hb;simp only [tresAll,tres,z1,hb,Option.map_some]<;>exact rfl))
            · rw [if_neg (by rw [h18];exact Bool.false_ne_true)] at hr
              repeat (first|((with_reducible first|apply TD.ld|apply TD.bld);(repeat (focus (show _ = _;first|exact k2 rfl|(simp only [zz,y22,Nat.reduceAdd,Nat.reduceLeDiff,tload,rowOf,partT,tbuild,tfill,h18]<;>exact rfl)|exact rfl)));(with_reducible refine TD.here ?_)))
              apply TD.pop1 (by first|rfl|(simp only [twant,z1,z7,h2,h10,h11,h12,h17,h18]<;>rfl)) (pop_eqs2 (X:=⟨[.int .i64 (v10),.int .i64 (v11)]⟩) (Y:=⟨[.int .i64 (0),.int .i64 (0)]⟩) rfl rfl rfl rfl rfl rfl rfl eqg30 eqs30 rfl)
              (repeat (focus (show _ = _;(simp only [zz]<;>exact rfl))))
              with_reducible apply TD.here
              repeat (first|((with_reducible first|apply TD.pk|apply TD.mv);(repeat (focus (show _ = _;first|exact k2 rfl|(simp only [zz]<;>exact rfl))));(with_reducible refine TD.here ?_)))
              rcases Bool.eq_false_or_eq_true (([v10 == 0,v11 == 0].all id)) with h19|h19
              · rw [if_pos h19] at hr
                repeat (first|((with_reducible first|apply TD.mv|apply TD.bin);(repeat (focus (show _ = _;first|exact k2 rfl|(simp only [zz,h19]<;>exact rfl))));(with_reducible refine TD.here ?_)))
                rcases Bool.eq_false_or_eq_true ((decide (v20 = 0))) with h20|h20
                · rw [if_pos h20] at hr
                  repeat (first|((with_reducible first|apply TD.mv|apply TD.bin);(repeat (focus (show _ = _;first|exact k2 rfl|(simp only [zz,h20]<;>exact rfl))));(with_reducible refine TD.here ?_)))
                  rcases Bool.eq_false_or_eq_true ((decide (v12 ≠ 0))) with h21|h21
                  · rw [if_pos h21] at hr
                    repeat (first|(with_reducible first|refine mv ?_|refine TO.nil ?_)|((with_reducible apply TO.asg);(repeat (focus (show _ = _;first|exact k2 rfl|(simp only [zz]<;>exact rfl))));(with_reducible apply TO.here))|((with_reducible apply TX.region);(focus (simp only []<;>exact rfl));(focus rfl);(try dsimp only))|with_reducible refine TD.nil ?_|((with_reducible apply TD.pk);(repeat (focus (show _ = _;first|exact k2 rfl|(simp only [zz]<;>exact rfl))));(with_reducible refine TD.here ?_))|((with_reducible apply TD.skip1);(repeat (focus (show _ = _;(simp only [zz,twant,zp,zs,h21]<;>exact rfl))));(with_reducible refine TD.here ?_))|((with_reducible apply TX.cond_true);(focus rfl);(focus (rfl))))
                    have hb:=Option.some.inj hr
                    first|(cases hb;done)|(refine ⟨.inr rfl,?_⟩;first|(simp only [tresAll,tres,z1,hb,Option.map_some]<;>exact rfl)|(simp only [h2,h10,h11,h12,h17,h18,h19,h20,h21] at hb;simp only [tresAll,tres,z1,hb,Option.map_some]<;>exact rfl))
                  · rw [if_neg (by rw [h21];exact Bool.false_ne_true)] at hr
                    repeat (first|((with_reducible first|apply TD.ld|apply TD.mv);(repeat (focus (show _ = _;first|exact k2 rfl|(simp only [zz,y22,Nat.reduceAdd,Nat.reduceLeDiff,tload,rowOf,partT,h21]<;>exact rfl)|exact rfl)));(with_reducible refine TD.here ?_)))
                    obtain ⟨⟨v21,v22⟩,h22,hr⟩:=Option.bind_eq_some_iff.1 hr
                    try dsimp only at hr
                    first|apply TD.cal (by first|rfl|(simp only [twant,z1,z7,h2,h10,h11,h12,h17,h18,h19,h20,h21]<;>rfl)) rfl goFn17 (Spec.ov (ref03_UpTo_spec h22) (by decide)) rfl rfl rfl|apply TD.calw (by first|rfl|(simp only [twant,z1,z7,h2,h10,h11,h12,h17,h18,h19,h20,h21]<;>rfl)) rfl goFn17 (Spec.ov (ref03_UpTo_spec h22) (by decide)) rfl rfl rfl rfl
                    (repeat (focus (show _ = _;(simp only [zz,Nat.reduceAdd,shift]<;>exact rfl))))
                    with_reducible apply TD.here
                    apply TD.pop1 (by first|rfl|(simp only [twant,z1,z7,h2,h10,h11,h12,h17,h18,h19,h20,h21]<;>rfl)) (pop_eqs2 (X:=⟨[.int .i64 (v10),.int .i64 (v11)]⟩) (Y:=⟨[.int .i64 (v21),.int .i64 (v22)]⟩) rfl rfl rfl rfl rfl rfl rfl eqg30 eqs30 rfl)
                    (repeat (focus (show _ = _;(simp only [zz]<;>exact rfl))))
                    with_reducible apply TD.here
                    repeat (first|(with_reducible first|refine mv ?_|refine TD.nil ?_)|((with_reducible apply TD.pk);(repeat (focus (show _ = _;first|exact k2 rfl|(simp only [zz]<;>exact rfl))));(with_reducible refine TD.here ?_)))
                    rcases Bool.eq_false_or_eq_true (([v10 == v21,v11 == v22].all id)) with h23|h23
                    · rw [if_pos h23] at hr
                      repeat (first|with_reducible refine mv ?_|((with_reducible apply TO.mv);(repeat (focus (show _ = _;first|exact k2 rfl|(simp only [zz,h23]<;>exact rfl))));(with_reducible apply TO.here))|((with_reducible apply TX.region);(focus (simp only []<;>exact rfl));(focus rfl);(try dsimp only))|((with_reducible apply TX.cond_false);(focus rfl);(focus ((simp only [z1,Bool.not_true,h23];done)))))
                      obtain ⟨v23,h24,hr⟩:=Option.bind_eq_some_iff.1 hr
                      try dsimp only at hr
                      apply TO.cal (by first|rfl|(simp only [twant,z1,z7,h2,h10,h11,h12,h17,h18,h19,h20,h21,h23]<;>rfl)) rfl goFn16 (Spec.ov (ref03_MicroErr_spec h24) (by decide)) rfl rfl rfl
                      (repeat (focus (show _ = _;(simp only [zz,shift]<;>exact rfl))))
                      with_reducible apply TO.here
                      repeat (first|(with_reducible first|refine mv ?_|refine TO.nil ?_)|((with_reducible first|apply TO.asg|apply TO.mv|apply TO.bin);(repeat (focus (show _ = _;first|exact k2 rfl|(simp only [zz]<;>exact rfl))));(with_reducible apply TO.here))|((with_reducible apply TX.region);(focus (simp only []<;>exact rfl));(focus rfl);(try dsimp only)))
                      rcases Bool.eq_false_or_eq_true ((decide (v23 = 0))) with h25|h25
                      · rw [if_pos h25] at hr
                        repeat (first|(with_reducible first|refine mv ?_|refine TO.nil ?_)|((with_reducible first|apply TO.mv|apply TO.len|apply TO.bin|apply TO.pk);(repeat (focus (show _ = _;first|exact k2 rfl|(simp only [zz,y22,tlen,h25]<;>exact rfl))));(with_reducible apply TO.here)))
                        rcases Bool.eq_false_or_eq_true ((decide ((v1.length : Int) = 0))) with h26|h26
                        · rw [if_pos h26] at hr
                          repeat (first|(with_reducible first|refine mv ?_|refine TO.nil ?_)|((with_reducible first|apply TO.asg|apply TO.mv|apply TO.bin);(repeat (focus (show _ = _;first|exact k2 rfl|(simp only [zz,h26]<;>exact rfl))));(with_reducible apply TO.here))|((with_reducible apply TX.region);(focus (simp only []<;>exact rfl));(focus rfl);(try dsimp only))|((with_reducible apply TX.cond_true);(focus rfl);(focus (first|rfl|(simp only [z1,Bool.not_true,h26];done)))))
                          rcases Bool.eq_false_or_eq_true ((decide (v17 = 12))) with h27|h27
                          · rw [if_pos h27] at hr
                            repeat (first|((with_reducible first|apply TO.ld|apply TO.bld);(repeat (focus (show _ = _;first|exact k2 rfl|(simp only [zz,y22,Nat.reduceAdd,Nat.reduceLeDiff,tload,rowOf,partT,tbuild,tfill,h27]<;>exact rfl)|exact rfl)));(with_reducible apply TO.here)))
                            apply TO.pop1 (by first|rfl|(simp only [twant,z1,z7,h2,h10,h11,h12,h17,h18,h19,h20,h21,h23,h25,h26,h27]<;>rfl)) (pop_eqs1 (X:=⟨[.int .i64 (v14),.int .i64 (v15),.int .i64 (v16)]⟩) (Y:=⟨[.int .i64 (0),.int .i64 (0),.int .i64 (0)]⟩) rfl rfl rfl rfl rfl rfl rfl eqg34 eqs34 rfl)
                            (repeat (focus (show _ = _;(simp only [zz]<;>exact rfl))))
                            with_reducible apply TO.here
                            repeat (first|(with_reducible first|refine mv ?_|refine TO.nil ?_)|((with_reducible first|apply TO.pk|apply TO.asg);(repeat (focus (show _ = _;first|exact k2 rfl|(simp only [zz]<;>exact rfl))));(with_reducible apply TO.here)))
                            have hb:=Option.some.inj hr
                            first|(cases hb;done)|(refine ⟨.inr rfl,?_⟩;first|(simp only [hb]<;>exact rfl)|(simp only [h2,h10,h11,h12,h17,h18,h19,h20,h21,h23,h25,h26,h27] at hb;simp only [tresAll,tres,z1,hb,Option.map_some]<;>exact rfl))
                          · rw [if_neg (by rw [h27];exact Bool.false_ne_true)] at hr
                            repeat (first|(with_reducible first|refine mv ?_|refine TO.nil ?_)|((with_reducible first|apply TO.pk|apply TO.asg);(repeat (focus (show _ = _;first|exact k2 rfl|(simp only [zz]<;>exact rfl))));(with_reducible apply TO.here))|((with_reducible apply TO.skip1);(repeat (focus (show _ = _;(simp only [zz,twant,zp,zs,h27]<;>exact rfl))));(with_reducible apply TO.here)))
                            have hb:=Option.some.inj hr
                            first|(cases hb;done)|(refine ⟨.inr rfl,?_⟩;first|(simp only [tresAll,tres,z1,hb,Option.map_some]<;>exact rfl)|(simp only [h2,h10,h11,h12,h17,h18,h19,h20,h21,h23,h25,h26,h27] at hb;simp only [tresAll,tres,z1,hb,Option.map_some]<;>exact rfl))
                        · rw [if_neg (by rw [h26];exact Bool.false_ne_true)] at hr
                          repeat (first|(with_reducible first|refine mv ?_|refine TO.nil ?_)|((with_reducible first|apply TO.mv|apply TO.bin);(repeat (focus (show _ = _;first|exact k2 rfl|(simp only [zz,h26]<;>exact rfl))));(with_reducible apply TO.here))|((with_reducible apply TX.region);(focus (simp only []<;>exact rfl));(focus rfl);(try dsimp only))|((with_reducible apply TX.cond_false);(focus rfl);(focus ((simp only [z1,Bool.not_true,h26];done)))))
                          rcases Bool.eq_false_or_eq_true ((decide (v23 ≠ 0))) with h28|h28
                          · rw [if_pos h28] at hr
                            repeat (first|with_reducible refine mv ?_|((with_reducible first|apply TO.mv|apply TO.bin);(repeat (focus (show _ = _;first|exact k2 rfl|(simp only [zz,h28]<;>exact rfl))));(with_reducible apply TO.here))|((with_reducible apply TX.region);(focus (simp only []<;>exact rfl));(focus rfl);(try dsimp only))|((with_reducible apply TX.cond_true);(focus rfl);(focus ((simp only [z1,Bool.not_true,h28];done)))))
                            rcases Bool.eq_false_or_eq_true ((decide (v17 = v23))) with h29|h29
                            · rw [if_pos h29] at hr
                              repeat (first|((with_reducible first|apply TO.ld|apply TO.bld);(repeat (focus (show _ = _;first|exact k2 rfl|(simp only [zz,y22,Nat.reduceAdd,Nat.reduceLeDiff,tload,rowOf,partT,tbuild,tfill,h29]<;>exact rfl)|exact rfl)));(with_reducible apply TO.here)))
                              apply TO.pop1 (by first|rfl|(simp only [twant,z1,z7,h2,h10,h11,h12,h17,h18,h19,h20,h21,h23,h25,h26,h28,h29]<;>rfl)) (pop_eqs1 (X:=⟨[.int .i64 (v14),.int .i64 (v15),.int .i64 (v16)]⟩) (Y:=⟨[.int .i64 (0),.int .i64 (0),.int .i64 (0)]⟩) rfl rfl rfl rfl rfl rfl rfl eqg34 eqs34 rfl)
                              (repeat (focus (show _ = _;(simp only [zz]<;>exact rfl))))
                              with_reducible apply TO.here
                              repeat (first|(with_reducible first|refine mv ?_|refine TO.nil ?_)|((with_reducible first|apply TO.pk|apply TO.asg);(repeat (focus (show _ = _;first|exact k2 rfl|(simp only [zz]<;>exact rfl))));(with_reducible apply TO.here)))
                              have hb:=Option.some.inj hr
                              first|(cases hb;done)|(refine ⟨.inr rfl,?_⟩;first|(simp only [hb]<;>exact rfl)|(simp only [h2,h10,h11,h12,h17,h18,h19,h20,h21,h23,h25,h26,h28,h29] at hb;simp only [tresAll,tres,z1,hb,Option.map_some]<;>exact rfl))
                            · rw [if_neg (by rw [h29];exact Bool.false_ne_true)] at hr
                              repeat (first|(with_reducible first|refine mv ?_|refine TO.nil ?_)|((with_reducible first|apply TO.pk|apply TO.asg);(repeat (focus (show _ = _;first|exact k2 rfl|(simp only [zz]<;>exact rfl))));(with_reducible apply TO.here))|((with_reducible apply TO.skip1);(repeat (focus (show _ = _;(simp only [zz,twant,zp,zs,h29]<;>exact rfl))));(with_reducible apply TO.here)))
                              have hb:=Option.some.inj hr
                              first|(cases hb;done)|(refine ⟨.inr rfl,?_⟩;first|(simp only [tresAll,tres,z1,hb,Option.map_some]<;>exact rfl)|(simp only [h2,h10,h11,h12,h17,h18,h19,h20,h21,h23,h25,h26,h28,h29] at hb;simp only [tresAll,tres,z1,hb,Option.map_some]<;>exact rfl))
                          · rw [if_neg (by rw [h28];exact Bool.false_ne_true)] at hr
                            repeat (first|with_reducible refine mv ?_|((with_reducible first|apply TD.mv|apply TD.bin);(repeat (focus (show _ = _;first|exact k2 rfl|(simp only [zz,h28]<;>exact rfl))));(with_reducible refine TD.here ?_))|((with_reducible apply TX.drawn);(focus decide +kernel);(focus (simp only []<;>exact rfl));(focus exact rfl);(try dsimp only))|((with_reducible apply TX.cond_false);(focus rfl);(focus ((simp only [z1,Bool.not_true,h28];done)))))
                            rcases Bool.eq_false_or_eq_true ((decide (v17 = 0))) with h30|h30
                            · rw [if_pos h30] at hr
                              repeat (first|((with_reducible first|apply TD.ld|apply TD.mv);(repeat (focus (show _ = _;first|exact k2 rfl|(simp only [zz,y22,Nat.reduceAdd,Nat.reduceLeDiff,tload,rowOf,partT,h30]<;>exact rfl)|exact rfl)));(with_reducible refine TD.here ?_)))
                              obtain ⟨⟨v24,v25,v26⟩,h31,hr⟩:=Option.bind_eq_some_iff.1 hr
                              try dsimp only at hr
                              first|apply TD.cal (by first|rfl|(simp only [twant,z1,z7,h2,h10,h11,h12,h17,h18,h19,h20,h21,h23,h25,h26,h28,h30]<;>rfl)) rfl goFn18 (Spec.ov (ref03_BurstOf_spec h31) (by decide)) rfl rfl rfl|apply TD.calw (by first|rfl|(simp only [twant,z1,z7,h2,h10,h11,h12,h17,h18,h19,h20,h21,h23,h25,h26,h28,h30]<;>rfl)) rfl goFn18 (Spec.ov (ref03_BurstOf_spec h31) (by decide)) rfl rfl rfl rfl
                              (repeat (focus (show _ = _;(simp only [zz,Nat.reduceAdd,shift]<;>exact rfl))))
                              with_reducible apply TD.here
                              apply TD.pop1 (by first|rfl|(simp only [twant,z1,z7,h2,h10,h11,h12,h17,h18,h19,h20,h21,h23,h25,h26,h28,h30]<;>rfl)) (pop_eqs1 (X:=⟨[.int .i64 (v14),.int .i64 (v15),.int .i64 (v16)]⟩) (Y:=⟨[.int .i64 (v24),.int .i64 (v25),.int .i64 (v26)]⟩) rfl rfl rfl rfl rfl rfl rfl eqg34 eqs34 rfl)
                              (repeat (focus (show _ = _;(simp only [zz]<;>exact rfl))))
                              with_reducible apply TD.here
                              repeat (first|(with_reducible first|refine mv ?_|refine TD.nil ?_)|((with_reducible first|apply TD.pk|apply TD.asg);(repeat (focus (show _ = _;first|exact k2 rfl|(simp only [zz]<;>exact rfl))));(with_reducible refine TD.here ?_)))
                              have hb:=Option.some.inj hr
                              first|(cases hb;done)|(refine ⟨.inr rfl,?_⟩;first|(simp only [hb]<;>exact rfl)|(simp only [h2,h10,h11,h12,h17,h18,h19,h20,h21,h23,h25,h26,h28,h30] at hb;simp only [tresAll,tres,z1,hb,Option.map_some]<;>exact rfl))
                            · rw [if_neg (by rw [h30];exact Bool.false_ne_true)] at hr
                              repeat (first|(with_reducible first|refine mv ?_|refine TD.nil ?_)|((with_reducible first|apply TD.pk|apply TD.asg);(repeat (focus (show _ = _;first|exact k2 rfl|(simp only [zz]<;>exact rfl))));(with_reducible refine TD.here ?_))|((with_reducible apply TD.skip1);(repeat (focus (show _ = _;(simp only [zz,twant,zp,zs,h30]<;>exact rfl))));(with_reducible refine TD.here ?_)))
                              have hb:=Option.some.inj hr
                              first|(cases hb;done)|(refine ⟨.inr rfl,?_⟩;first|(simp only [tresAll,tres,z1,hb,Option.map_some]<;>exact rfl)|(simp only [h2,h10,h11,h12,h17,h18,h19,h20,h21,h23,h25,h26,h28,h30] at hb;simp only [tresAll,tres,z1,hb,Option.map_some]<;>exact rfl))
                      · rw [if_neg (by rw [h25];exact Bool.false_ne_true)] at hr
                        repeat (first|(with_reducible first|refine mv ?_|refine TO.nil ?_)|((with_reducible first|apply TO.pk|apply TO.mv|apply TO.bin);(repeat (focus (show _ = _;first|exact k2 rfl|(simp only [zz,h25]<;>exact rfl))));(with_reducible apply TO.here))|((with_reducible apply TO.skip1);(repeat (focus (show _ = _;(simp only [zz,twant,zp,zs,h25]<;>exact rfl))));(with_reducible apply TO.here))|((with_reducible apply TX.region);(focus (simp only []<;>exact rfl));(focus rfl);(try dsimp only))|((with_reducible apply TX.cond_false);(focus rfl);(focus (rfl))))
                        rcases Bool.eq_false_or_eq_true ((decide (v23 ≠ 0))) with h32|h32
                        · rw [if_pos h32] at hr
                          repeat (first|with_reducible refine mv ?_|((with_reducible first|apply TO.mv|apply TO.bin);(repeat (focus (show _ = _;first|exact k2 rfl|(simp only [zz,h32]<;>exact rfl))));(with_reducible apply TO.here))|((with_reducible apply TX.region);(focus (simp only []<;>exact rfl));(focus rfl);(try dsimp only))|((with_reducible apply TX.cond_true);(focus rfl);(focus ((simp only [z1,Bool.not_true,h32];done)))))
                          rcases Bool.eq_false_or_eq_true ((decide (v17 = v23))) with h33|h33
                          · rw [if_pos h33] at hr
                            repeat (first|((with_reducible first|apply TO.ld|apply TO.bld);(repeat (focus (show _ = _;first|exact k2 rfl|(simp only [zz,y22,Nat.reduceAdd,Nat.reduceLeDiff,tload,rowOf,partT,tbuild,tfill,h33]<;>exact rfl)|exact rfl)));(with_reducible apply TO.here)))
                            apply TO.pop1 (by first|rfl|(simp only [twant,z1,z7,h2,h10,h11,h12,h17,h18,h19,h20,h21,h23,h25,h32,h33]<;>rfl)) (pop_eqs1 (X:=⟨[.int .i64 (v14),.int .i64 (v15),.int .i64 (v16)]⟩) (Y:=⟨[.int .i64 (0),.int .i64 (0),.int .i64 (0)]⟩) rfl rfl rfl rfl rfl rfl rfl eqg34 eqs34 rfl)
                            (repeat (focus (show _ = _;(simp only [zz]<;>exact rfl))))
                            with_reducible apply TO.here
                            repeat (first|(with_reducible first|refine mv ?_|refine TO.nil ?_)|((with_reducible first|apply TO.pk|apply TO.asg);(repeat (focus (show _ = _;first|exact k2 rfl|(simp only [zz]<;>exact rfl))));(with_reducible apply TO.here)))
                            have hb:=Option.some.inj hr
                            first|(cases hb;done)|(refine ⟨.inr rfl,?_⟩;first|(simp only [hb]<;>exact rfl)|(simp only [h2,h10,h11,h12,h17,h18,h19,h20,h21,h23,h25,h32,h33] at hb;simp only [tresAll,tres,z1,hb,Option.map_some]<;>exact rfl))
                          · rw [if_neg (by rw [h33];exact Bool.false_ne_true)] at hr
                            repeat (first|(with_reducible first|refine mv ?_|refine TO.nil ?_)|((with_reducible first|apply TO.pk|apply TO.asg);(repeat (focus (show _ = _;first|exact k2 rfl|(simp only [zz]<;>exact rfl))));(with_reducible apply TO.here))|((with_reducible apply TO.skip1);(repeat (focus (show _ = _;(simp only [zz,twant,zp,zs,h33]<;>exact rfl))));(with_reducible apply TO.here)))
                            have hb:=Option.some.inj hr
                            first|(cases hb;done)|(refine ⟨.inr rfl,?_⟩;first|(simp only [tresAll,tres,z1,hb,Option.map_some]<;>exact rfl)|(simp only [h2,h10,h11,h12,h17,h18,h19,h20,h21,h23,h25,h32,h33] at hb;simp only [tresAll,tres,z1,hb,Option.map_some]<;>exact rfl))
                        · rw [if_neg (by rw [h32];exact Bool.false_ne_true)] at hr
                          repeat (first|with_reducible refine mv ?_|((with_reducible first|apply TD.mv|apply TD.bin);(repeat (focus (show _ = _;first|exact k2 rfl|(simp only [zz,h32]<;>exact rfl))));(with_reducible refine TD.here ?_))|((with_reducible apply TX.drawn);(focus decide +kernel);(focus (simp only []<;>exact rfl));(focus exact rfl);(try dsimp only))|((with_reducible apply TX.cond_false);(focus rfl);(focus ((simp only [z1,Bool.not_true,h32];done)))))
                          rcases Bool.eq_false_or_eq_true ((decide (v17 = 0))) with h34|h34
                          · rw [if_pos h34] at hr
                            repeat (first|((with_reducible first|apply TD.ld|apply TD.mv);(repeat (focus (show _ = _;first|exact k2 rfl|(simp only [zz,y22,Nat.reduceAdd,Nat.reduceLeDiff,tload,rowOf,partT,h34]<;>exact rfl)|exact rfl)));(with_reducible refine TD.here ?_)))
                            obtain ⟨⟨v27,v28,v29⟩,h35,hr⟩:=Option.bind_eq_some_iff.1 hr
                            try dsimp only at hr
                            first|apply TD.cal (by first|rfl|(simp only [twant,z1,z7,h2,h10,h11,h12,h17,h18,h19,h20,h21,h23,h25,h32,h34]<;>rfl)) rfl goFn18 (Spec.ov (ref03_BurstOf_spec h35) (by decide)) rfl rfl rfl|apply TD.calw (by first|rfl|(simp only [twant,z1,z7,h2,h10,h11,h12,h17,h18,h19,h20,h21,h23,h25,h32,h34]<;>rfl)) rfl goFn18 (Spec.ov (ref03_BurstOf_spec h35) (by decide)) rfl rfl rfl rfl
                            (repeat (focus (show _ = _;(simp only [zz,Nat.reduceAdd,shift]<;>exact rfl))))
                            with_reducible apply TD.here
                            apply TD.pop1 (by first|rfl|(simp only [twant,z1,z7,h2,h10,h11,h12,h17,h18,h19,h20,h21,h23,h25,h32,h34]<;>rfl)) (pop_eqs1 (X:=⟨[.int .i64 (v14),.int .i64 (v15),.int .i64 (v16)]⟩) (Y:=⟨[.int .i64 (v27),.int .i64 (v28),.int .i64 (v29)]⟩) rfl rfl rfl rfl rfl rfl rfl eqg34 eqs34 rfl)
                            (repeat (focus (show _ = _;(simp only [zz]<;>exact rfl))))
                            with_reducible apply TD.here
                            repeat (first|(with_reducible first|refine mv ?_|refine TD.nil ?_)|((with_reducible first|apply TD.pk|apply TD.asg);(repeat (focus (show _ = _;first|exact k2 rfl|(simp only [zz]<;>exact rfl))));(with_reducible refine TD.here ?_)))
                            have hb:=Option.some.inj hr
                            first|(cases hb;done)|(refine ⟨.inr rfl,?_⟩;first|(simp only [hb]<;>exact rfl)|(simp only [h2,h10,h11,h12,h17,h18,h19,h20,h21,h23,h25,h32,h34] at hb;simp only [tresAll,tres,z1,hb,Option.map_some]<;>exact rfl))
                          · rw [if_neg (by rw [h34];exact Bool.false_ne_true)] at hr
                            repeat (first|(with_reducible first|refine mv ?_|refine TD.nil ?_)|((with_reducible first|apply TD.pk|apply TD.asg);(repeat (focus (show _ = _;first|exact k2 rfl|(simp only [zz]<;>exact rfl))));(with_reducible refine TD.here ?_))|((with_reducible apply TD.skip1);(repeat (focus (show _ = _;(simp only [zz,twant,zp,zs,h34]<;>exact rfl))));(with_reducible refine TD.here ?_)))
                            have hb:=Option.some.inj hr
                            first|(cases hb;done)|(refine ⟨.inr rfl,?_⟩;first|(simp only [tresAll,tres,z1,hb,Option.map_some]<;>exact rfl)|(simp only [h2,h10,h11,h12,h17,h18,h19,h20,h21,h23,h25,h32,h34] at hb;simp only [tresAll,tres,z1,hb,Option.map_some]<;>exact rfl))
                    · rw [if_neg (by rw [h23];exact Bool.false_ne_true)] at hr
                      repeat (first|(with_reducible first|refine mv ?_|refine TO.nil ?_)|((with_reducible apply TO.asg);(repeat (focus (show _ = _;first|exact k2 rfl|(simp only [zz,h23]<;>exact rfl))));(with_reducible apply TO.here))|((with_reducible apply TX.region);(focus (simp only []<;>exact rfl));(focus rfl);(try dsimp only))|((with_reducible apply TX.cond_true);(focus rfl);(focus ((simp only [z1,zn,h23];done)))))
                      have hb:=Option.some.inj hr
                      first|(cases hb;done)|(refine ⟨.inr rfl,?_⟩;first|(simp only [tresAll,tres,z1,hb,Option.map_some]<;>exact rfl)|(simp only [h2,h10,h11,h12,h17,h18,h19,h20,h21,h23] at hb;simp only [tresAll,tres,z1,hb,Option.map_some]<;>exact rfl))
                · rw [if_neg (by rw [h20];exact Bool.false_ne_true)] at hr
                  repeat (first|with_reducible refine mv ?_|((with_reducible apply TO.mv);(repeat (focus (show _ = _;first|exact k2 rfl|(simp only [zz]<;>exact rfl))));(with_reducible apply TO.here))|((with_reducible apply TX.region);(focus (simp only []<;>exact rfl));(focus rfl);(try dsimp only))|with_reducible refine TD.nil ?_|((with_reducible apply TD.pk);(repeat (focus (show _ = _;first|exact k2 rfl|(simp only [zz]<;>exact rfl))));(with_reducible refine TD.here ?_))|((with_reducible apply TD.skip1);(repeat (focus (show _ = _;(simp only [zz,twant,zp,zs,h20]<;>exact rfl))));(with_reducible refine TD.here ?_))|((with_reducible apply TX.cond_false);(focus rfl);(focus (rfl))))
                  obtain ⟨v30,h36,hr⟩:=Option.bind_eq_some_iff.1 hr
                  try dsimp only at hr
                  apply TO.cal (by first|rfl|(simp only [twant,z1,z7,h2,h10,h11,h12,h17,h18,h19,h20]<;>rfl)) rfl goFn16 (Spec.ov (ref03_MicroErr_spec h36) (by decide)) rfl rfl rfl
                  (repeat (focus (show _ = _;(simp only [zz,shift]<;>exact rfl))))
                  with_reducible apply TO.here
                  repeat (first|(with_reducible first|refine mv ?_|refine TO.nil ?_)|((with_reducible first|apply TO.asg|apply TO.mv|apply TO.bin);(repeat (focus (show _ = _;first|exact k2 rfl|(simp only [zz]<;>exact rfl))));(with_reducible apply TO.here))|((with_reducible apply TX.region);(focus (simp only []<;>exact rfl));(focus rfl);(try dsimp only)))
                  rcases Bool.eq_false_or_eq_true ((decide (v30 = 0))) with h37|h37
                  · rw [if_pos h37] at hr
                    repeat (first|(with_reducible first|refine mv ?_|refine TO.nil ?_)|((with_reducible first|apply TO.mv|apply TO.len|apply TO.bin|apply TO.pk);(repeat (focus (show _ = _;first|exact k2 rfl|(simp only [zz,y22,tlen,h37]<;>exact rfl))));(with_reducible apply TO.here)))
                    rcases Bool.eq_false_or_eq_true ((decide ((v1.length : Int) = 0))) with h38|h38
                    · rw [if_pos h38] at hr
                      repeat (first|(with_reducible first|refine mv ?_|refine TO.nil ?_)|((with_reducible first|apply TO.asg|apply TO.mv|apply TO.bin);(repeat (focus (show _ = _;first|exact k2 rfl|(simp only [zz,h38]<;>exact rfl))));(with_reducible apply TO.here))|((with_reducible apply TX.region);(focus (simp only []<;>exact rfl));(focus rfl);(try dsimp only))|((with_reducible apply TX.cond_true);(focus rfl);(focus (first|rfl|(simp only [z1,Bool.not_true,h38];done)))))
                      rcases Bool.eq_false_or_eq_true ((decide (v17 = 12))) with h39|h39
                      · rw [if_pos h39] at hr
                        repeat (first|((with_reducible first|apply TO.ld|apply TO.bld);(repeat (focus (show _ = _;first|exact k2 rfl|(simp only [zz,y22,Nat.reduceAdd,Nat.reduceLeDiff,tload,rowOf,partT,tbuild,tfill,h39]<;>exact rfl)|exact rfl)));(with_reducible apply TO.here)))
                        apply TO.pop1 (by first|rfl|(simp only [twant,z1,z7,h2,h10,h11,h12,h17,h18,h19,h20,h37,h38,h39]<;>rfl)) (pop_eqs1 (X:=⟨[.int .i64 (v14),.int .i64 (v15),.int .i64 (v16)]⟩) (Y:=⟨[.int .i64 (0),.int .i64 (0),.int .i64 (0)]⟩) rfl rfl rfl rfl rfl rfl rfl eqg34 eqs34 rfl)
                        (repeat (focus (show _ = _;(simp only [zz]<;>exact rfl))))
                        with_reducible apply TO.here
                        repeat (first|(with_reducible first|refine mv ?_|refine TO.nil ?_)|((with_reducible first|apply TO.pk|apply TO.asg);(repeat (focus (show _ = _;first|exact k2 rfl|(simp only [zz]<;>exact rfl))));(with_reducible apply TO.here)))
                        have hb:=Option.some.inj hr
                        first|(cases hb;done)|(refine ⟨.inr rfl,?_⟩;first|(simp only [hb]<;>exact rfl)|(simp only [h2,h10,h11,h12,h17,h18,h19,h20,h37,h38,h39] at hb;simp only [tresAll,tres,z1,hb,Option.map_some]<;>exact rfl))
                      · rw [if_neg (by rw [h39];exact Bool.false_ne_true)] at hr
                        repeat (first|(with_reducible first|refine mv ?_|refine TO.nil ?_)|((with_reducible first|apply TO.pk|apply TO.asg);(repeat (focus (show _ = _;first|exact k2 rfl|(simp only [zz]<;>exact rfl))));(with_reducible apply TO.here))|((with_reducible apply TO.skip1);(repeat (focus (show _ = _;(simp only [zz,twant,zp,zs,h39]<;>exact rfl))));(with_reducible apply TO.here)))
                        have hb:=Option.some.inj hr
                        first|(cases hb;done)|(refine ⟨.inr rfl,?_⟩;first|(simp only [tresAll,tres,z1,hb,Option.map_some]<;>exact rfl)|(simp only [h2,h10,h11,h12,h17,h18,h19,h20,h37,h38,h39] at hb;simp only [tresAll,tres,z1,hb,Option.map_some]<;>exact rfl))
                    · rw [if_neg (by rw [h38];exact Bool.false_ne_true)] at hr
                      repeat (first|(with_reducible first|refine mv ?_|refine TO.nil ?_)|((with_reducible first|apply TO.mv|apply TO.bin);(repeat (focus (show _ = _;first|exact k2 rfl|(simp only [zz,h38]<;>exact rfl))));(with_reducible apply TO.here))|((with_reducible apply TX.region);(focus (simp only []<;>exact rfl));(focus rfl);(try dsimp only))|((with_reducible apply TX.cond_false);(focus rfl);(focus ((simp only [z1,Bool.not_true,h38];done)))))
                      rcases Bool.eq_false_or_eq_true ((decide (v30 ≠ 0))) with h40|h40
                      · rw [if_pos h40] at hr
                        repeat (first|with_reducible refine mv ?_|((with_reducible first|apply TO.mv|apply TO.bin);(repeat (focus (show _ = _;first|exact k2 rfl|(simp only [zz,h40]<;>exact rfl))));(with_reducible apply TO.here))|((with_reducible apply TX.region);(focus (simp only []<;>exact rfl));(focus rfl);(try dsimp only))|((with_reducible apply TX.cond_true);(focus rfl);(focus ((simp only [z1,Bool.not_true,h40];done)))))
                        rcases Bool.eq_false_or_eq_true ((decide (v17 = v30))) with h41|h41
                        · rw [if_pos h41] at hr
                          repeat (first|((with_reducible first|apply TO.ld|apply TO.bld);(repeat (focus (show _ = _;first|exact k2 rfl|(simp only [zz,y22,Nat.reduceAdd,Nat.reduceLeDiff,tload,rowOf,partT,tbuild,tfill,h41]<;>exact rfl)|exact rfl)));(with_reducible apply TO.here)))
                          apply TO.pop1 (by first|rfl|(simp only [twant,z1,z7,h2,h10,h11,h12,h17,h18,h19,h20,h37,h38,h40,h41]<;>rfl)) (pop_eqs1 (X:=⟨[.int .i64 (v14),.int .i64 (v15),.int .i64 (v16)]⟩) (Y:=⟨[.int .i64 (0),.int .i64 (0),.int .i64 (0)]⟩) rfl rfl rfl rfl rfl rfl rfl eqg34 eqs34 rfl)
                          (repeat (focus (show _ = _;(simp only [zz]<;>exact rfl))))
                          with_reducible apply TO.here
                          repeat (first|(with_reducible first|refine mv ?_|refine TO.nil ?_)|((with_reducible first|apply TO.pk|apply TO.asg);(repeat (focus (show _ = _;first|exact k2 rfl|(simp only [zz]<;>exact rfl))));(with_reducible apply TO.here)))
                          have hb:=Option.some.inj hr
                          first|(cases hb;done)|(refine ⟨.inr rfl,?_⟩;first|(simp only [hb]<;>exact rfl)|(simp only [h2,h10,h11,h12,h17,h18,h19,h20,h37,h38,h40,h41] at hb;simp only [tresAll,tres,z1,hb,Option.map_some]<;>exact rfl))
                        · rw [if_neg (by rw [h41];exact Bool.false_ne_true)] at hr
                          repeat (first|(with_reducible first|refine mv ?_|refine TO.nil ?_)|((with_reducible first|apply TO.pk|apply TO.asg);(repeat (focus (show _ = _;first|exact k2 rfl|(simp only [zz]<;>exact rfl))));(with_reducible apply TO.here))|((with_reducible apply TO.skip1);(repeat (focus (show _ = _;(simp only [zz,twant,zp,zs,h41]<;>exact rfl))));(with_reducible apply TO.here)))
                          have hb:=Option.some.inj hr
                          first|(cases hb;done)|(refine ⟨.inr rfl,?_⟩;first|(simp only [tresAll,tres,z1,hb,Option.map_some]<;>exact rfl)|(simp only [h2,h10,h11,h12,h17,h18,h19,h20,h37,h38,h40,h41] at hb;simp only [tresAll,tres,z1,hb,Option.map_some]<;>exact rfl))
                      · rw [if_neg (by rw [h40];exact Bool.false_ne_true)] at hr
                        repeat (first|with_reducible refine mv ?_|((with_reducible first|apply TD.mv|apply TD.bin);(repeat (focus (show _ = _;first|exact k2 rfl|(simp only [zz,h40]<;>exact rfl))));(with_reducible refine TD.here ?_))|((with_reducible apply TX.drawn);(focus decide +kernel);(focus (simp only []<;>exact rfl));(focus exact rfl);(try dsimp only))|((with_reducible apply TX.cond_false);(focus rfl);(focus ((simp only [z1,Bool.not_true,h40];done)))))
                        rcases Bool.eq_false_or_eq_true ((decide (v17 = 0))) with h42|h42
                        · rw [if_pos h42] at hr
                          repeat (first|((with_reducible first|apply TD.ld|apply TD.mv);(repeat (focus (show _ = _;first|exact k2 rfl|(simp only [zz,y22,Nat.reduceAdd,Nat.reduceLeDiff,tload,rowOf,partT,h42]<;>exact rfl)|exact rfl)));(with_reducible refine TD.here ?_)))
                          obtain ⟨⟨v31,v32,v33⟩,h43,hr⟩:=Option.bind_eq_some_iff.1 hr
                          try dsimp only at hr
                          first|apply TD.cal (by first|rfl|(simp only [twant,z1,z7,h2,h10,h11,h12,h17,h18,h19,h20,h37,h38,h40,h42]<;>rfl)) rfl goFn18 (Spec.ov (ref03_BurstOf_spec h43) (by decide)) rfl rfl rfl|apply TD.calw (by first|rfl|(simp only [twant,z1,z7,h2,h10,h11,h12,h17,h18,h19,h20,h37,h38,h40,h42]<;>rfl)) rfl goFn18 (Spec.ov (ref03_BurstOf_spec h43) (by decide)) rfl rfl rfl rfl
                          (repeat (focus (show _ = _;(simp only [zz,Nat.reduceAdd,shift]<;>exact rfl))))
                          with_reducible apply TD.here
                          apply TD.pop1 (by first|rfl|(simp only [twant,z1,z7,h2,h10,h11,h12,h17,h18,h19,h20,h37,h38,h40,h42]<;>rfl)) (pop_eqs1 (X:=⟨[.int .i64 (v14),.int .i64 (v15),.int .i64 (v16)]⟩) (Y:=⟨[.int .i64 (v31),.int .i64 (v32),.int .i64 (v33)]⟩) rfl rfl rfl rfl rfl rfl rfl eqg34 eqs34 rfl)
                          (repeat (focus (show _ = _;(simp only [zz]<;>exact rfl))))
                          with_reducible apply TD.here
                          repeat (first|(with_reducible first|refine mv ?_|refine TD.nil ?_)|((with_reducible first|apply TD.pk|apply TD.asg);(repeat (focus (show _ = _;first|exact k2 rfl|(simp only [zz]<;>exact rfl))));(with_reducible refine TD.here ?_)))
                          have hb:=Option.some.inj hr
                          first|(cases hb;done)|(refine ⟨.inr rfl,?_⟩;first|(simp only [hb]<;>exact rfl)|(simp only [h2,h10,h11,h12,h17,h18,h19,h20,h37,h38,h40,h42] at hb;simp only [tresAll,tres,z1,hb,Option.map_some]<;>exact rfl))
                        · rw [if_neg (by rw [h42];exact Bool.false_ne_true)] at hr
                          repeat (first|(with_reducible first|refine mv ?_|refine TD.nil ?_)|((with_reducible first|apply TD.pk|apply TD.asg);(repeat (focus (show _ = _;first|exact k2 rfl|(simp only [zz]<;>exact rfl))));(with_reducible refine TD.here ?_))|((with_reducible apply TD.skip1);(repeat (focus (show _ = _;(simp only [zz,twant,zp,zs,h42]<;>exact rfl))));(with_reducible refine TD.here ?_)))
                          have hb:=Option.some.inj hr
                          first|(cases hb;done)|(refine ⟨.inr rfl,?_⟩;first|(simp only [tresAll,tres,z1,hb,Option.map_some]<;>exact rfl)|(simp only [h2,h10,h11,h12,h17,h18,h19,h20,h37,h38,h40,h42] at hb;simp only [tresAll,tres,z1,hb,Option.map_some]<;>exact rfl))
                  · rw [if_neg (by rw [h37];exact Bool.false_ne_true)] at hr
                    repeat (first|(with_reducible first|refine mv ?_|refine TO.nil ?_)|((with_reducible first|apply TO.pk|apply TO.mv|apply TO.bin);(repeat (focus (show _ = _;first|exact k2 rfl|(simp only [zz,h37]<;>exact rfl))));(with_reducible apply TO.here))|((with_reducible apply TO.skip1);(repeat (focus (show _ = _;(simp only [zz,twant,zp,zs,h37]<;>exact rfl))));(with_reducible apply TO.here))|((with_reducible apply TX.region);(focus (simp only []<;>exact rfl));(focus rfl);(try dsimp only))|((with_reducible apply TX.cond_false);(focus rfl);(focus (rfl))))
                    rcases Bool.eq_false_or_eq_true ((decide (v30 ≠ 0))) with h44|h44
                    · rw [if_pos h44] at hr
                      repeat (first|with_reducible refine mv ?_|((with_reducible first|apply TO.mv|apply TO.bin);(repeat (focus (show _ = _;first|exact k2 rfl|(simp only [zz,h44]<;>exact rfl))));(with_reducible apply TO.here))|((with_reducible apply TX.region);(focus (simp only []<;>exact rfl));(focus rfl);(try dsimp only))|((with_reducible apply TX.cond_true);(focus rfl);(focus ((simp only [z1,Bool.not_true,h44];done)))))
                      rcases Bool.eq_false_or_eq_true ((decide (v17 = v30))) with h45|h45
                      · rw [if_pos h45] at hr
                        repeat (first|((with_reducible first|apply TO.ld|apply TO.bld);(repeat (focus (show _ = _;first|exact k2 rfl|(simp only [zz,y22,Nat.reduceAdd,Nat.reduceLeDiff,tload,rowOf,partT,tbuild,tfill,h45]<;>exact rfl)|exact rfl)));(with_reducible apply TO.here)))
                        apply TO.pop1 (by first|rfl|(simp only [twant,z1,z7,h2,h10,h11,h12,h17,h18,h19,h20,h37,h44,h45]<;>rfl)) (pop_eqs1 (X:=⟨[.int .i64 (v14),.int .i64 (v15),.int .i64 (v16)]⟩) (Y:=⟨[.int .i64 (0),.int .i64 (0),.int .i64 (0)]⟩) rfl rfl rfl rfl rfl rfl rfl eqg34 eqs34 rfl)
                        (repeat (focus (show _ = _;(simp only [zz]<;>exact rfl))))
                        with_reducible apply TO.here
                        repeat (first|(with_reducible first|refine mv ?_|refine TO.nil ?_)|((with_reducible first|apply TO.pk|apply TO.asg);(repeat (focus (show _ = _;first|exact k2 rfl|(simp only [zz]<;>exact rfl))));(with_reducible apply TO.here)))
                        have hb:=Option.some.inj hr
                        first|(cases hb;done)|(refine ⟨.inr rfl,?_⟩;first|(simp only [hb]<;>exact rfl)|(simp only [h2,h10,h11,h12,h17,h18,h19,h20,h37,h44,h45] at hb;simp only [tresAll,tres,z1,hb,Option.map_some]<;>exact rfl))
                      · rw [if_neg (by rw [h45];exact Bool.false_ne_true)] at hr
                        repeat (first|(with_reducible first|refine mv ?_|refine TO.nil ?_)|((with_reducible first|apply TO.pk|apply TO.asg);(repeat (focus (show _ = _;first|exact k2 rfl|(simp only [zz]<;>exact rfl))));(with_reducible apply TO.here))|((with_reducible apply TO.skip1);(repeat (focus (show _ = _;(simp only [zz,twant,zp,zs,h45]<;>exact rfl))));(with_reducible apply TO.here)))
                        have hb:=Option.some.inj hr
                        first|(cases hb;done)|(refine ⟨.inr rfl,?_⟩;first|(simp only [tresAll,tres,z1,hb,Option.map_some]<;>exact rfl)|(simp only [h2,h10,h11,h12,h17,h18,h19,h20,h37,h44,h45] at hb;simp only [tresAll,tres,z1,hb,Option.map_some]<;>exact rfl))
                    · rw [if_neg (by rw [h44];exact Bool.false_ne_true)] at hr
                      repeat (first|with_reducible refine mv ?_|((with_reducible first|apply TD.mv|apply TD.bin);(repeat (focus (show _ = _;first|exact k2 rfl|(simp only [zz,h44]<;>exact rfl))));(with_reducible refine TD.here ?_))|((with_reducible apply TX.drawn);(focus decide +kernel);(focus (simp only []<;>exact rfl));(focus exact rfl);(try dsimp only))|((with_reducible apply TX.cond_false);(focus rfl);(focus ((simp only [z1,Bool.not_true,h44];done)))))
                      rcases Bool.eq_false_or_eq_true ((decide (v17 = 0))) with h46|h46
                      · rw [if_pos h46] at hr
                        repeat (first|((with_reducible first|apply TD.ld|apply TD.mv);(repeat (focus (show _ = _;first|exact k2 rfl|(simp only [zz,y22,Nat.reduceAdd,Nat.reduceLeDiff,tload,rowOf,partT,h46]<;>exact rfl)|exact rfl)));(with_reducible refine TD.here ?_)))
                        obtain ⟨⟨v34,v35,v36⟩,h47,hr⟩:=Option.bind_eq_some_iff.1 hr
                        try dsimp only at hr
                        first|apply TD.cal (by first|rfl|(simp only [twant,z1,z7,h2,h10,h11,h12,h17,h18,h19,h20,h37,h44,h46]<;>rfl)) rfl goFn18 (Spec.ov (ref03_BurstOf_spec h47) (by decide)) rfl rfl rfl|apply TD.calw (by first|rfl|(simp only [twant,z1,z7,h2,h10,h11,h12,h17,h18,h19,h20,h37,h44,h46]<;>rfl)) rfl goFn18 (Spec.ov (ref03_BurstOf_spec h47) (by decide)) rfl rfl rfl rfl
                        (repeat (focus (show _ = _;(simp only [zz,Nat.reduceAdd,shift]<;>exact rfl))))
                        with_reducible apply TD.here
                        apply TD.pop1 (by first|rfl|(simp only [twant,z1,z7,h2,h10,h11,h12,h17,h18,h19,h20,h37,h44,h46]<;>rfl)) (pop_eqs1 (X:=⟨[.int .i64 (v14),.int .i64 (v15),.int .i64 (v16)]⟩) (Y:=⟨[.int .i64 (v34),.int .i64 (v35),.int .i64 (v36)]⟩) rfl rfl rfl rfl rfl rfl rfl eqg34 eqs34 rfl)
                        (repeat (focus (show _ = _;(simp only [zz]<;>exact rfl))))
                        with_reducible apply TD.here
                        repeat (first|(with_reducible first|refine mv ?_|refine TD.nil ?_)|((with_reducible first|apply TD.pk|apply TD.asg);(repeat (focus (show _ = _;first|exact k2 rfl|(simp only [zz]<;>exact rfl))));(with_reducible refine TD.here ?_)))
                        have hb:=Option.some.inj hr
                        first|(cases hb;done)|(refine ⟨.inr rfl,?_⟩;first|(simp only [hb]<;>exact rfl)|(simp only [h2,h10,h11,h12,h17,h18,h19,h20,h37,h44,h46] at hb;simp only [tresAll,tres,z1,hb,Option.map_some]<;>exact rfl))
                      · rw [if_neg (by rw [h46];exact Bool.false_ne_true)] at hr
                        repeat (first|(with_reducible first|refine mv ?_|refine TD.nil ?_)|((with_reducible first|apply TD.pk|apply TD.asg);(repeat (focus (show _ = _;first|exact k2 rfl|(simp only [zz]<;>exact rfl))));(with_reducible refine TD.here ?_))|((with_reducible apply TD.skip1);(repeat (focus (show _ = _;(simp only [zz,twant,zp,zs,h46]<;>exact rfl))));(with_reducible refine TD.here ?_)))
                        have hb:=Option.some.inj hr
                        first|(cases hb;done)|(refine ⟨.inr rfl,?_⟩;first|(simp only [tresAll,tres,z1,hb,Option.map_some]<;>exact rfl)|(simp only [h2,h10,h11,h12,h17,h18,h19,h20,h37,h44,h46] at hb;simp only [tresAll,tres,z1,hb,Option.map_some]<;>exact rfl))
              · rw [if_neg (by rw [h19];exact Bool.false_ne_true)] at hr
                repeat (first|(with_reducible first|refine mv ?_|refine TO.nil ?_)|((with_reducible apply TO.asg);(repeat (focus (show _ = _;first|exact k2 rfl|(simp only [zz]<;>exact rfl))));(with_reducible apply TO.here))|((with_reducible apply TX.region);(focus (simp only []<;>exact rfl));(focus rfl);(try dsimp only))|with_reducible refine TD.nil ?_|((with_reducible apply TD.pk);(repeat (focus (show _ = _;first|exact k2 rfl|(simp only [zz]<;>exact rfl))));(with_reducible refine TD.here ?_))|((with_reducible apply TD.skip1);(repeat (focus (show _ = _;(simp only [zz,twant,zp,zs,h19]<;>exact rfl))));(with_reducible refine TD.here ?_))|((with_reducible apply TX.cond_true);(focus rfl);(focus (rfl))))
                have hb:=Option.some.inj hr
                first|(cases hb;done)|(refine ⟨.inr rfl,?_⟩;first|(simp only [tresAll,tres,z1,hb,Option.map_some]<;>exact rfl)|(simp only [h2,h10,h11,h12,h17,h18,h19] at hb;simp only [tresAll,tres,z1,hb,Option.map_some]<;>exact rfl))
          · rw [if_neg (by rw [h17];exact Bool.false_ne_true)] at hr
            repeat (first|((with_reducible first|apply TD.pk|apply TD.mv|apply TD.bin);(repeat (focus (show _ = _;first|exact k2 rfl|(simp only [zz,h17]<;>exact rfl))));(with_reducible refine TD.here ?_))|((with_reducible apply TD.skip1);(repeat (focus (show _ = _;(simp only [zz,twant,zp,zs,h17]<;>exact rfl))));(with_reducible refine TD.here ?_)))
            rcases Bool.eq_false_or_eq_true ((decide (v20 = 0))) with h48|h48
            · rw [if_pos h48] at hr
              repeat (first|((with_reducible first|apply TD.mv|apply TD.bin);(repeat (focus (show _ = _;first|exact k2 rfl|(simp only [zz,h48]<;>exact rfl))));(with_reducible refine TD.here ?_)))
              rcases Bool.eq_false_or_eq_true ((decide (v12 ≠ 0))) with h49|h49
              · rw [if_pos h49] at hr
                repeat (first|(with_reducible first|refine mv ?_|refine TO.nil ?_)|((with_reducible apply TO.asg);(repeat (focus (show _ = _;first|exact k2 rfl|(simp only [zz]<;>exact rfl))));(with_reducible apply TO.here))|((with_reducible apply TX.region);(focus (simp only []<;>exact rfl));(focus rfl);(try dsimp only))|with_reducible refine TD.nil ?_|((with_reducible apply TD.pk);(repeat (focus (show _ = _;first|exact k2 rfl|(simp only [zz]<;>exact rfl))));(with_reducible refine TD.here ?_))|((with_reducible apply TD.skip1);(repeat (focus (show _ = _;(simp only [zz,twant,zp,zs,h49]<;>exact rfl))));(with_reducible refine TD.here ?_))|((with_reducible apply TX.cond_true);(focus rfl);(focus (rfl))))
                have hb:=Option.some.inj hr
                first|(cases hb;done)|(refine ⟨.inr rfl,?_⟩;first|(simp only [tresAll,tres,z1,hb,Option.map_some]<;>exact rfl)|(simp only [h2,h10,h11,h12,h17,h48,h49] at hb;simp only [tresAll,tres,z1,hb,Option.map_some]<;>exact rfl))
              · rw [if_neg (by rw [h49];exact Bool.false_ne_true)] at hr
                repeat (first|((with_reducible first|apply TD.ld|apply TD.mv);(repeat (focus (show _ = _;first|exact k2 rfl|(simp only [zz,y22,Nat.reduceAdd,Nat.reduceLeDiff,tload,rowOf,partT,h49]<;>exact rfl)|exact rfl)));(with_reducible refine TD.here ?_)))
                obtain ⟨⟨v37,v38⟩,h50,hr⟩:=Option.bind_eq_some_iff.1 hr
                try dsimp only at hr
                first|apply TD.cal (by first|rfl|(simp only [twant,z1,z7,h2,h10,h11,h12,h17,h48,h49]<;>rfl)) rfl goFn17 (Spec.ov (ref03_UpTo_spec h50) (by decide)) rfl rfl rfl|apply TD.calw (by first|rfl|(simp only [twant,z1,z7,h2,h10,h11,h12,h17,h48,h49]<;>rfl)) rfl goFn17 (Spec.ov (ref03_UpTo_spec h50) (by decide)) rfl rfl rfl rfl
                (repeat (focus (show _ = _;(simp only [zz,Nat.reduceAdd,shift]<;>exact rfl))))
                with_reducible apply TD.here
                apply TD.pop1 (by first|rfl|(simp only [twant,z1,z7,h2,h10,h11,h12,h17,h48,h49]<;>rfl)) (pop_eqs2 (X:=⟨[.int .i64 (v10),.int .i64 (v11)]⟩) (Y:=⟨[.int .i64 (v37),.int .i64 (v38)]⟩) rfl rfl rfl rfl rfl rfl rfl eqg30 eqs30 rfl)
                (repeat (focus (show _ = _;(simp only [zz]<;>exact rfl))))
                with_reducible apply TD.here
                repeat (first|(with_reducible first|refine mv ?_|refine TD.nil ?_)|((with_reducible apply TD.pk);(repeat (focus (show _ = _;first|exact k2 rfl|(simp only [zz]<;>exact rfl))));(with_reducible refine TD.here ?_)))
                rcases Bool.eq_false_or_eq_true (([v10 == v37,v11 == v38].all id)) with h51|h51
                · rw [if_pos h51] at hr
                  repeat (first|with_reducible refine mv ?_|((with_reducible apply TO.mv);(repeat (focus (show _ = _;first|exact k2 rfl|(simp only [zz,h51]<;>exact rfl))));(with_reducible apply TO.here))|((with_reducible apply TX.region);(focus (simp only []<;>exact rfl));(focus rfl);(try dsimp only))|((with_reducible apply TX.cond_false);(focus rfl);(focus ((simp only [z1,Bool.not_true,h51];done)))))
                  obtain ⟨v39,h52,hr⟩:=Option.bind_eq_some_iff.1 hr
                  try dsimp only at hr
                  apply TO.cal (by first|rfl|(simp only [twant,z1,z7,h2,h10,h11,h12,h17,h48,h49,h51]<;>rfl)) rfl goFn16 (Spec.ov (ref03_MicroErr_spec h52) (by decide)) rfl rfl rfl
                  (repeat (focus (show _ = _;(simp only [zz,shift]<;>exact rfl))))
                  with_reducible apply TO.here
                  repeat (first|(with_reducible first|refine mv ?_|refine TO.nil ?_)|((with_reducible first|apply TO.asg|apply TO.mv|apply TO.bin);(repeat (focus (show _ = _;first|exact k2 rfl|(simp only [zz]<;>exact rfl))));(with_reducible apply TO.here))|((with_reducible apply TX.region);(focus (simp only []<;>exact rfl));(focus rfl);(try dsimp only)))
                  rcases Bool.eq_false_or_eq_true ((decide (v39 = 0))) with h53|h53
                  · rw [if_pos h53] at hr
                    repeat (first|(with_reducible first|refine mv ?_|refine TO.nil ?_)|((with_reducible first|apply TO.mv|apply TO.len|apply TO.bin|apply TO.pk);(repeat (focus (show _ = _;first|exact k2 rfl|(simp only [zz,y22,tlen,h53]<;>exact rfl))));(with_reducible apply TO.here)))
                    rcases Bool.eq_false_or_eq_true ((decide ((v1.length : Int) = 0))) with h54|h54
                    · rw [if_pos h54] at hr
                      repeat (first|(with_reducible first|refine mv ?_|refine TO.nil ?_)|((with_reducible first|apply TO.asg|apply TO.mv|apply TO.bin);(repeat (focus (show _ = _;first|exact k2 rfl|(simp only [zz,h54]<;>exact rfl))));(with_reducible apply TO.here))|((with_reducible apply TX.region);(focus (simp only []<;>exact rfl));(focus rfl);(try dsimp only))|((with_reducible apply TX.cond_true);(focus rfl);(focus (first|rfl|(simp only [z1,Bool.not_true,h54];done)))))
                      rcases Bool.eq_false_or_eq_true ((decide (v17 = 12))) with h55|h55
                      · rw [if_pos h55] at hr
                        repeat (first|((with_reducible first|apply TO.ld|apply TO.bld);(repeat (focus (show _ = _;first|exact k2 rfl|(simp only [zz,y22,Nat.reduceAdd,Nat.reduceLeDiff,tload,rowOf,partT,tbuild,tfill,h55]<;>exact rfl)|exact rfl)));(with_reducible apply TO.here)))
                        apply TO.pop1 (by first|rfl|(simp only [twant,z1,z7,h2,h10,h11,h12,h17,h48,h49,h51,h53,h54,h55]<;>rfl)) (pop_eqs1 (X:=⟨[.int .i64 (v14),.int .i64 (v15),.int .i64 (v16)]⟩) (Y:=⟨[.int .i64 (0),.int .i64 (0),.int .i64 (0)]⟩) rfl rfl rfl rfl rfl rfl rfl eqg34 eqs34 rfl)
                        (repeat (focus (show _ = _;(simp only [zz]<;>exact rfl))))
                        with_reducible apply TO.here
                        repeat (first|(with_reducible first|refine mv ?_|refine TO.nil ?_)|((with_reducible first|apply TO.pk|apply TO.asg);(repeat (focus (show _ = _;first|exact k2 rfl|(simp only [zz]<;>exact rfl))));(with_reducible apply TO.here)))
                        have hb:=Option.some.inj hr
                        first|(cases hb;done)|(refine ⟨.inr rfl,?_⟩;first|(simp only [hb]<;>exact rfl)|(simp only [h2,h10,h11,h12,h17,h48,h49,h51,h53,h54,h55] at hb;simp only [tresAll,tres,z1,hb,Option.map_some]<;>exact rfl))
                      · rw [if_neg (by rw [h55];exact Bool.false_ne_true)] at hr
                        repeat (first|(with_reducible first|refine mv ?_|refine TO.nil ?_)|((with_reducible first|apply TO.pk|apply TO.asg);(repeat (focus (show _ = _;first|exact k2 rfl|(simp only [zz]<;>exact rfl))));(with_reducible apply TO.here))|((with_reducible apply TO.skip1);(repeat (focus (show _ = _;(simp only [zz,twant,zp,zs,h55]<;>exact rfl))));(with_reducible apply TO.here)))
                        have hb:=Option.some.inj hr
                        first|(cases hb;done)|(refine ⟨.inr rfl,?_⟩;first|(simp only [tresAll,tres,z1,hb,Option.map_some]<;>exact rfl)|(simp only [h2,h10,h11,h12,h17,h48,h49,h51,h53,h54,h55] at hb;simp only [tresAll,tres,z1,hb,Option.map_some]<;>exact rfl))
                    · rw [if_neg (by rw [h54];exact Bool.false_ne_true)] at hr
                      repeat (first|(with_reducible first|refine mv ?_|refine TO.nil ?_)|((with_reducible first|apply TO.mv|apply TO.bin);(repeat (focus (show _ = _;first|exact k2 rfl|(simp only [zz,h54]<;>exact rfl))));(with_reducible apply TO.here))|((with_reducible apply TX.region);(focus (simp only []<;>exact rfl));(focus rfl);(try dsimp only))|((with_reducible apply TX.cond_false);(focus rfl);(focus ((simp only [z1,Bool.not_true,h54];done)))))
                      rcases Bool.eq_false_or_eq_true ((decide (v39 ≠ 0))) with h56|h56
                      · rw [if_pos h56] at hr
                        repeat (first|with_reducible refine mv ?_|((with_reducible first|apply TO.mv|apply TO.bin);(repeat (focus (show _ = _;first|exact k2 rfl|(simp only [zz,h56]<;>exact rfl))));(with_reducible apply TO.here))|((with_reducible apply TX.region);(focus (simp only []<;>exact rfl));(focus rfl);(try dsimp only))|((with_reducible apply TX.cond_true);(focus rfl);(focus ((simp only [z1,Bool.not_true,h56];done)))))
                        rcases Bool.eq_false_or_eq_true ((decide (v17 = v39))) with h57|h57
                        · rw [if_pos h57] at hr
                          repeat (first|((with_reducible first|apply TO.ld|apply TO.bld);(repeat (focus (show _ = _;first|exact k2 rfl|(simp only [zz,y22,Nat.reduceAdd,Nat.reduceLeDiff,tload,rowOf,partT,tbuild,tfill,h57]<;>exact rfl)|exact rfl)));(with_reducible apply TO.here)))
                          apply TO.pop1 (by first|rfl|(simp only [twant,z1,z7,h2,h10,h11,h12,h17,h48,h49,h51,h53,h54,h56,h57]<;>rfl)) (pop_eqs1 (X:=⟨[.int .i64 (v14),.int .i64 (v15),.int .i64 (v16)]⟩) (Y:=⟨[.int .i64 (0),.int .i64 (0),.int .i64 (0)]⟩) rfl rfl rfl rfl rfl rfl rfl eqg34 eqs34 rfl)
                          (repeat (focus (show _ = _;(simp only [zz]<;>exact rfl))))
                          with_reducible apply TO.here
                          repeat (first|(with_reducible first|refine mv ?_|refine TO.nil ?_)|((with_reducible first|apply TO.pk|apply TO.asg);(repeat (focus (show _ = _;first|exact k2 rfl|(simp only [zz]<;>exact rfl))));(with_reducible apply TO.here)))
                          have hb:=Option.some.inj hr
                          first|(cases hb;done)|(refine ⟨.inr rfl,?_⟩;first|(simp only [hb]<;>exact rfl)|(simp only [h2,h10,h11,h12,h17,h48,h49,h51,h53,h54,h56,h57] at hb;simp only [tresAll,tres,z1,hb,Option.map_some]<;>exact rfl))
                        · rw [if_neg (by rw [h57];exact Bool.false_ne_true)] at hr
                          repeat (first|(with_reducible first|refine mv ?_|refine TO.nil ?_)|((with_reducible first|apply TO.pk|apply TO.asg);(repeat (focus (show _ = _;first|exact k2 rfl|(simp only [zz]<;>exact rfl))));(with_reducible apply TO.here))|((with_reducible apply TO.skip1);(repeat (focus (show _ = _;(simp only [zz,twant,zp,zs,h57]<;>exact rfl))));(with_reducible apply TO.here)))
                          have hb:=Option.some.inj hr
                          first|(cases hb;done)|(refine ⟨.inr rfl,?_⟩;first|(simp only [tresAll,tres,z1,hb,Option.map_some]<;>exact rfl)|(simp only [h2,h10,h11,h12,h17,h48,h49,h51,h53,h54,h56,h57] at hb;simp only [tresAll,tres,z1,hb,Option.map_some]<;>exact rfl))
                      · rw [if_neg (by rw [h56];exact Bool.false_ne_true)] at hr
                        repeat (first|with_reducible refine mv ?_|((with_reducible first|apply TD.mv|apply TD.bin);(repeat (focus (show _ = _;first|exact k2 rfl|(simp only [zz,h56]<;>exact rfl))));(with_reducible refine TD.here ?_))|((with_reducible apply TX.drawn);(focus decide +kernel);(focus (simp only []<;>exact rfl));(focus exact rfl);(try dsimp only))|((with_reducible apply TX.cond_false);(focus rfl);(focus ((simp only [z1,Bool.not_true,h56];done)))))
                        rcases Bool.eq_false_or_eq_true ((decide (v17 = 0))) with h58|h58
                        · rw [if_pos h58] at hr
                          repeat (first|((with_reducible first|apply TD.ld|apply TD.mv);(repeat (focus (show _ = _;first|exact k2 rfl|(simp only [zz,y22,Nat.reduceAdd,Nat.reduceLeDiff,tload,rowOf,partT,h58]<;>exact rfl)|exact rfl)));(with_reducible refine TD.here ?_)))
                          obtain ⟨⟨v40,v41,v42⟩,h59,hr⟩:=Option.bind_eq_some_iff.1 hr
                          try dsimp only at hr
                          first|apply TD.cal (by first|rfl|(simp only [twant,z1,z7,h2,h10,h11,h12,h17,h48,h49,h51,h53,h54,h56,h58]<;>rfl)) rfl goFn18 (Spec.ov (ref03_BurstOf_spec h59) (by decide)) rfl rfl rfl|apply TD.calw (by first|rfl|(simp only [twant,z1,z7,h2,h10,h11,h12,h17,h48,h49,h51,h53,h54,h56,h58]<;>rfl)) rfl goFn18 (Spec.ov (ref03_BurstOf_spec h59) (by decide)) rfl rfl rfl rfl
                          (repeat (focus (show _ = _;(simp only [zz,Nat.reduceAdd,shift]<;>exact rfl))))
                          with_reducible apply TD.here
                          apply TD.pop1 (by first|rfl|(simp only [twant,z1,z7,h2,h10,h11,h12,h17,h48,h49,h51,h53,h54,h56,h58]<;>rfl)) (pop_eqs1 (X:=⟨[.int .i64 (v14),.int .i64 (v15),.int .i64 (v16)]⟩) (Y:=⟨[.int .i64 (v40),.int .i64 (v41),.int .i64 (v42)]⟩) rfl rfl rfl rfl rfl rfl rfl eqg34 eqs34 rfl)
                          (repeat (focus (show _ = _;(simp only [zz]<;>exact rfl))))
                          with_reducible apply TD.here
                          repeat (first|(with_reducible first|refine mv ?_|refine TD.nil ?_)|((with_reducible first|apply TD.pk|apply TD.asg);(repeat (focus (show _ = _;first|exact k2 rfl|(simp only [zz]<;>exact rfl))));(with_reducible refine TD.here ?_)))
                          have hb:=Option.some.inj hr
                          first|(cases hb;done)|(refine ⟨.inr rfl,?_⟩;first|(simp only [hb]<;>exact rfl)|(simp only [h2,h10,h11,h12,h17,h48,h49,h51,h53,h54,h56,h58] at hb;simp only [tresAll,tres,z1,hb,Option.map_some]<;>exact rfl))
                        · rw [if_neg (by rw [h58];exact Bool.false_ne_true)] at hr
                          repeat (first|(with_reducible first|refine mv ?_|refine TD.nil ?_)|((with_reducible first|apply TD.pk|apply TD.asg);(repeat (focus (show _ = _;first|exact k2 rfl|(simp only [zz]<;>exact rfl))));(with_reducible refine TD.here ?_))|((with_reducible apply TD.skip1);(repeat (focus (show _ = _;(simp only [zz,twant,zp,zs,h58]<;>exact rfl))));(with_reducible refine TD.here ?_)))
                          have hb:=Option.some.inj hr
                          first|(cases hb;done)|(refine ⟨.inr rfl,?_⟩;first|(simp only [tresAll,tres,z1,hb,Option.map_some]<;>exact rfl)|(simp only [h2,h10,h11,h12,h17,h48,h49,h51,h53,h54,h56,h58] at hb;simp only [tresAll,tres,z1,hb,Option.map_some]<;>exact rfl))
                  · rw [if_neg (by rw [h53];exact Bool.false_ne_true)] at hr
                    repeat (first|(with_reducible first|refine mv ?_|refine TO.nil ?_)|((with_reducible first|apply TO.pk|apply TO.mv|apply TO.bin);(repeat (focus (show _ = _;first|exact k2 rfl|(simp only [zz,h53]<;>exact rfl))));(with_reducible apply TO.here))|((with_reducible apply TO.skip1);(repeat (focus (show _ = _;(simp only [zz,twant,zp,zs,h53]<;>exact rfl))));(with_reducible apply TO.here))|((with_reducible apply TX.region);(focus (simp only []<;>exact rfl));(focus rfl);(try dsimp only))|((with_reducible apply TX.cond_false);(focus rfl);(focus (rfl))))
                    rcases Bool.eq_false_or_eq_true ((decide (v39 ≠ 0))) with h60|h60
                    · rw [if_pos h60] at hr
                      repeat (first|with_reducible refine mv ?_|((with_reducible first|apply TO.mv|apply TO.bin);(repeat (focus (show _ = _;first|exact k2 rfl|(simp only [zz,h60]<;>exact rfl))));(with_reducible apply TO.here))|((with_reducible apply TX.region);(focus (simp only []<;>exact rfl));(focus rfl);(try dsimp only))|((with_reducible apply TX.cond_true);(focus rfl);(focus ((simp only [z1,Bool.not_true,h60];done)))))
                      rcases Bool.eq_false_or_eq_true ((decide (v17 = v39))) with h61|h61
                      · rw [if_pos h61] at hr
                        repeat (first|((with_reducible first|apply TO.ld|apply TO.bld);(repeat (focus (show _ = _;first|exact k2 rfl|(simp only [zz,y22,Nat.reduceAdd,Nat.reduceLeDiff,tload,rowOf,partT,tbuild,tfill,h61]<;>exact rfl)|exact rfl)));(with_reducible apply TO.here)))
                        apply TO.pop1 (by first|rfl|(simp only [twant,z1,z7,h2,h10,h11,h12,h17,h48,h49,h51,h53,h60,h61]<;>rfl)) (pop_eqs1 (X:=⟨[.int .i64 (v14),.int .i64 (v15),.int .i64 (v16)]⟩) (Y:=⟨[.int .i64 (0),.int .i64 (0),.int .i64 (0)]⟩) rfl rfl rfl rfl rfl rfl rfl eqg34 eqs34 rfl)
                        (repeat (focus (show _ = _;(simp only [zz]<;>exact rfl))))
                        with_reducible apply TO.here
                        repeat (first|(with_reducible first|refine mv ?_|refine TO.nil ?_)|((with_reducible first|apply TO.pk|apply TO.asg);(repeat (focus (show _ = _;first|exact k2 rfl|(simp only [zz]<;>exact rfl))));(with_reducible apply TO.here)))
                        have hb:=Option.some.inj hr
                        first|(cases hb;done)|(refine ⟨.inr rfl,?_⟩;first|(simp only [hb]<;>exact rfl)|(simp only [h2,h10,h11,h12,h17,h48,h49,h51,h53,h60,h61] at hb;simp only [tresAll,tres,z1,hb,Option.map_some]<;>exact rfl))
                      · rw [if_neg (by rw [h61];exact Bool.false_ne_true)] at hr
                        repeat (first|(with_reducible first|refine mv ?_|refine TO.nil ?_)|((with_reducible first|apply TO.pk|apply TO.asg);(repeat (focus (show _ = _;first|exact k2 rfl|(simp only [zz]<;>exact rfl))));(with_reducible apply TO.here))|((with_reducible apply TO.skip1);(repeat (focus (show _ = _;(simp only [zz,twant,zp,zs,h61]<;>exact rfl))));(with_reducible apply TO.here)))
                        have hb:=Option.some.inj hr
                        first|(cases hb;done)|(refine ⟨.inr rfl,?_⟩;first|(simp only [tresAll,tres,z1,hb,Option.map_some]<;>exact rfl)|(simp only [h2,h10,h11,h12,h17,h48,h49,h51,h53,h60,h61] at hb;simp only [tresAll,tres,z1,hb,Option.map_some]<;>exact rfl))
                    · rw [if_neg (by rw [h60];exact Bool.false_ne_true)] at hr
                      repeat (first|with_reducible refine mv ?_|((with_reducible first|apply TD.mv|apply TD.bin);(repeat (focus (show _ = _;first|exact k2 rfl|(simp only [zz,h60]<;>exact rfl))));(with_reducible refine TD.here ?_))|((with_reducible apply TX.drawn);(focus decide +kernel);(focus (simp only []<;>exact rfl));(focus exact rfl);(try dsimp only))|((with_reducible apply TX.cond_false);(focus rfl);(focus ((simp only [z1,Bool.not_true,h60];done)))))
                      rcases Bool.eq_false_or_eq_true ((decide (v17 = 0))) with h62|h62
                      · rw [if_pos h62] at hr
                        repeat (first|((with_reducible first|apply TD.ld|apply TD.mv);(repeat (focus (show _ = _;first|exact k2 rfl|(simp only [zz,y22,Nat.reduceAdd,Nat.reduceLeDiff,tload,rowOf,partT,h62]<;>exact rfl)|exact rfl)));(with_reducible refine TD.here ?_)))
                        obtain ⟨⟨v43,v44,v45⟩,h63,hr⟩:=Option.bind_eq_some_iff.1 hr
                        try dsimp only at hr
                        first|apply TD.cal (by first|rfl|(simp only [twant,z1,z7,h2,h10,h11,h12,h17,h48,h49,h51,h53,h60,h62]<;>rfl)) rfl goFn18 (Spec.ov (ref03_BurstOf_spec h63) (by decide)) rfl rfl rfl|apply TD.calw (by first|rfl|(simp only [twant,z1,z7,h2,h10,h11,h12,h17,h48,h49,h51,h53,h60,h62]<;>rfl)) rfl goFn18 (Spec.ov (ref03_BurstOf_spec h63) (by decide)) rfl rfl rfl rfl
                        (repeat (focus (show _ = _;(simp only [zz,Nat.reduceAdd,shift]<;>exact rfl))))
                        with_reducible apply TD.here
                        apply TD.pop1 (by first|rfl|(simp only [twant,z1,z7,h2,h10,h11,h12,h17,h48,h49,h51,h53,h60,h62]<;>rfl)) (pop_eqs1 (X:=⟨[.int .i64 (v14),.int .i64 (v15),.int .i64 (v16)]⟩) (Y:=⟨[.int .i64 (v43),.int .i64 (v44),.int .i64 (v45)]⟩) rfl rfl rfl rfl rfl rfl rfl eqg34 eqs34 rfl)
                        (repeat (focus (show _ = _;(simp only [zz]<;>exact rfl))))
                        with_reducible apply TD.here
                        repeat (first|(with_reducible first|refine mv ?_|refine TD.nil ?_)|((with_reducible first|apply TD.pk|apply TD.asg);(repeat (focus (show _ = _;first|exact k2 rfl|(simp only [zz]<;>exact rfl))));(with_reducible refine TD.here ?_)))
                        have hb:=Option.some.inj hr
                        first|(cases hb;done)|(refine ⟨.inr rfl,?_⟩;first|(simp only [hb]<;>exact rfl)|(simp only [h2,h10,h11,h12,h17,h48,h49,h51,h53,h60,h62] at hb;simp only [tresAll,tres,z1,hb,Option.map_some]<;>exact rfl))
                      · rw [if_neg (by rw [h62];exact Bool.false_ne_true)] at hr
                        repeat (first|(with_reducible first|refine mv ?_|refine TD.nil ?_)|((with_reducible first|apply TD.pk|apply TD.asg);(repeat (focus (show _ = _;first|exact k2 rfl|(simp only [zz]<;>exact rfl))));(with_reducible refine TD.here ?_))|((with_reducible apply TD.skip1);(repeat (focus (show _ = _;(simp only [zz,twant,zp,zs,h62]<;>exact rfl))));(with_reducible refine TD.here ?_)))
                        have hb:=Option.some.inj hr
                        first|(cases hb;done)|(refine ⟨.inr rfl,?_⟩;first|(simp only [tresAll,tres,z1,hb,Option.map_some]<;>exact rfl)|(simp only [h2,h10,h11,h12,h17,h48,h49,h51,h53,h60,h62] at hb;simp only [tresAll,tres,z1,hb,Option.map_some]<;>exact rfl))
                · rw [if_neg (by rw [h51];exact Bool.false_ne_true)] at hr
                  repeat (first|(with_reducible first|refine mv ?_|refine TO.nil ?_)|((with_reducible apply TO.asg);(repeat (focus (show _ = _;first|exact k2 rfl|(simp only [zz,h51]<;>exact rfl))));(with_reducible apply TO.here))|((with_reducible apply TX.region);(focus (simp only []<;>exact rfl));(focus rfl);(try dsimp only))|((with_reducible apply TX.cond_true);(focus rfl);(focus ((simp only [z1,zn,h51];done)))))
                  have hb:=Option.some.inj hr
                  first|(cases hb;done)|(refine ⟨.inr rfl,?_⟩;first|(simp only [tresAll,tres,z1,hb,Option.map_some]<;>exact rfl)|(simp only [h2,h10,h11,h12,h17,h48,h49,h51] at hb;simp only [tresAll,tres,z1,hb,Option.map_some]<;>exact rfl))
            · rw [if_neg (by rw [h48];exact Bool.false_ne_true)] at hr
              repeat (first|with_reducible refine mv ?_|((with_reducible apply TO.mv);(repeat (focus (show _ = _;first|exact k2 rfl|(simp only [zz]<;>exact rfl))));(with_reducible apply TO.here))|((with_reducible apply TX.region);(focus (simp only []<;>exact rfl));(focus rfl);(try dsimp only))|with_reducible refine TD.nil ?_|((with_reducible apply TD.pk);(repeat (focus (show _ = _;first|exact k2 rfl|(simp only [zz]<;>exact rfl))));(with_reducible refine TD.here ?_))|((with_reducible apply TD.skip1);(repeat (focus (show _ = _;(simp only [zz,twant,zp,zs,h48]<;>exact rfl))));(with_reducible refine TD.here ?_))|((with_reducible apply TX.cond_false);(focus rfl);(focus (rfl))))
              obtain ⟨v46,h64,hr⟩:=Option.bind_eq_some_iff.1 hr
              try dsimp only at hr
              apply TO.cal (by first|rfl|(simp only [twant,z1,z7,h2,h10,h11,h12,h17,h48]<;>rfl)) rfl goFn16 (Spec.ov (ref03_MicroErr_spec h64) (by decide)) rfl rfl rfl
              (repeat (focus (show _ = _;(simp only [zz,shift]<;>exact rfl))))
              with_reducible apply TO.here
              repeat (first|(with_reducible first|refine mv ?_|refine TO.nil ?_)|((with_reducible first|apply TO.asg|apply TO.mv|apply TO.bin);(repeat (focus (show _ = _;first|exact k2 rfl|(simp only [zz]<;>exact rfl))));(with_reducible apply TO.here))|((with_reducible apply TX.region);(focus (simp only []<;>exact rfl));(focus rfl);(try dsimp only)))
              rcases Bool.eq_false_or_eq_true ((decide (v46 = 0))) with h65|h65
              · rw [if_pos h65] at hr
                repeat (first|(with_reducible first|refine mv ?_|refine TO.nil ?_)|((with_reducible first|apply TO.mv|apply TO.len|apply TO.bin|apply TO.pk);(repeat (focus (show _ = _;first|exact k2 rfl|(simp only [zz,y22,tlen,h65]<;>exact rfl))));(with_reducible apply TO.here)))
                rcases Bool.eq_false_or_eq_true ((decide ((v1.length : Int) = 0))) with h66|h66
                · rw [if_pos h66] at hr
                  repeat (first|(with_reducible first|refine mv ?_|refine TO.nil ?_)|((with_reducible first|apply TO.asg|apply TO.mv|apply TO.bin);(repeat (focus (show _ = _;first|exact k2 rfl|(simp only [zz,h66]<;>exact rfl))));(with_reducible apply TO.here))|((with_reducible apply TX.region);(focus (simp only []<;>exact rfl));(focus rfl);(try dsimp only))|((with_reducible apply TX.cond_true);(focus rfl);(focus (first|rfl|(simp only [z1,Bool.not_true,h66];done)))))
                  rcases Bool.eq_false_or_eq_true ((decide (v17 = 12))) with h67|h67
                  · rw [if_pos h67] at hr
                    repeat (first|((with_reducible first|apply TO.ld|apply TO.bld);(repeat (focus (show _ = _;first|exact k2 rfl|(simp only [zz,y22,Nat.reduceAdd,Nat.reduceLeDiff,tload,rowOf,partT,tbuild,tfill,h67]<;>exact rfl)|exact rfl)));(with_reducible apply TO.here)))
                    apply TO.pop1 (by first|rfl|(simp only [twant,z1,z7,h2,h10,h11,h12,h17,h48,h65,h66,h67]<;>rfl)) (pop_eqs1 (X:=⟨[.int .i64 (v14),.int .i64 (v15),.int .i64 (v16)]⟩) (Y:=⟨[.int .i64 (0),.int .i64 (0),.int .i64 (0)]⟩) rfl rfl rfl rfl rfl rfl rfl eqg34 eqs34 rfl)
                    (repeat (focus (show _ = _;(simp only [zz]<;>exact rfl))))
                    with_reducible apply TO.here
                    repeat (first|(with_reducible first|refine mv ?_|refine TO.nil ?_)|((with_reducible first|apply TO.pk|apply TO.asg);(repeat (focus (show _ = _;first|exact k2 rfl|(simp only [zz]<;>exact rfl))));(with_reducible apply TO.here)))
                    have hb:=Option.some.inj hr
                    first|(cases hb;done)|(refine ⟨.inr rfl,?_⟩;first|(simp only [hb]<;>exact rfl)|(simp only [h2,h10,h11,h12,h17,h48,h65,h66,h67] at hb;simp only [tresAll,tres,z1,hb,Option.map_some]<;>exact rfl))
                  · rw [if_neg (by rw [h67];exact Bool.false_ne_true)] at hr
                    repeat (first|(with_reducible first|refine mv ?_|refine TO.nil ?_)|((with_reducible first|apply TO.pk|apply TO.asg);(repeat (focus (show _ = _;first|exact k2 rfl|(simp only [zz]<;>exact rfl))));(with_reducible apply TO.here))|((with_reducible apply TO.skip1);(repeat (focus (show _ = _;(simp only [zz,twant,zp,zs,h67]<;>exact rfl))));(with_reducible apply TO.here)))
                    have hb:=Option.some.inj hr
                    first|(cases hb;done)|(refine ⟨.inr rfl,?_⟩;first|(simp only [tresAll,tres,z1,hb,Option.map_some]<;>exact rfl)|(simp only [h2,h10,h11,h12,h17,h48,h65,h66,h67] at hb;simp only [tresAll,tres,z1,hb,Option.map_some]<;>exact rfl))
                · rw [if_neg (by rw [h66];exact Bool.false_ne_true)] at hr
                  repeat (first|(with_reducible first|refine mv ?_|refine TO.nil ?_)|((with_reducible first|apply TO.mv|apply TO.bin);(repeat (focus (show _ = _;first|exact k2 rfl|(simp only [zz,h66]<;>exact rfl))));(with_reducible apply TO.here))|((with_reducible apply TX.region);(focus (simp only []<;>exact rfl));(focus rfl);(try dsimp only))|((with_reducible apply TX.cond_false);(focus rfl);(focus ((simp only [z1,Bool.not_true,h66];done)))))
                  rcases Bool.eq_false_or_eq_true ((decide (v46 ≠ 0))) with h68|h68
                  · rw [if_pos h68] at hr
                    repeat (first|with_reducible refine mv ?_|((with_reducible first|apply TO.mv|apply TO.bin);(repeat (focus (show _ = _;first|exact k2 rfl|(simp only [zz,h68]<;>exact rfl))));(with_reducible apply TO.here))|((with_reducible apply TX.region);(focus (simp only []<;>exact rfl));(focus rfl);(try dsimp only))|((with_reducible apply TX.cond_true);(focus rfl);(focus ((simp only [z1,Bool.not_true,h68];done)))))
                    rcases Bool.eq_false_or_eq_true ((decide (v17 = v46))) with h69|h69
                    · rw [if_pos h69] at hr
                      repeat (first|((with_reducible first|apply TO.ld|apply TO.bld);(repeat (focus (show _ = _;first|exact k2 rfl|(simp only [zz,y22,Nat.reduceAdd,Nat.reduceLeDiff,tload,rowOf,partT,tbuild,tfill,h69]<;>exact rfl)|exact rfl)));(with_reducible apply TO.here)))
                      apply TO.pop1 (by first|rfl|(simp only [twant,z1,z7,h2,h10,h11,h12,h17,h48,h65,h66,h68,h69]<;>rfl)) (pop_eqs1 (X:=⟨[.int .i64 (v14),.int .i64 (v15),.int .i64 (v16)]⟩) (Y:=⟨[.int .i64 (0),.int .i64 (0),.int .i64 (0)]⟩) rfl rfl rfl rfl rfl rfl rfl eqg34 eqs34 rfl)
                      (repeat (focus (show _ = _;(simp only [zz]<;>exact rfl))))
                      with_reducible apply TO.here
                      repeat (first|(with_reducible first|refine mv ?_|refine TO.nil ?_)|((with_reducible first|apply TO.pk|apply TO.asg);(repeat (focus (show _ = _;first|exact k2 rfl|(simp only [zz]<;>exact rfl))));(with_reducible apply TO.here)))
                      have hb:=Option.some.inj hr
                      first|(cases hb;done)|(refine ⟨.inr rfl,?_⟩;first|(simp only [hb]<;>exact rfl)|(simp only [h2,h10,h11,h12,h17,h48,h65,h66,h68,h69] at hb;simp only [tresAll,tres,z1,hb,Option.map_some]<;>exact rfl))
                    · rw [if_neg (by rw [h69];exact Bool.false_ne_true)] at hr
                      repeat (first|(with_reducible first|refine mv ?_|refine TO.nil ?_)|((with_reducible first|apply TO.pk|apply TO.asg);(repeat (focus (show _ = _;first|exact k2 rfl|(simp only [zz]<;>exact rfl))));(with_reducible apply TO.here))|((with_reducible apply TO.skip1);(repeat (focus (show _ = _;(simp only [zz,twant,zp,zs,h69]<;>exact rfl))));(with_reducible apply TO.here)))
                      have hb:=Option.some.inj hr
                      first|(cases hb;done)|(refine ⟨.inr rfl,?_⟩;first|(simp only [tresAll,tres,z1,hb,Option.map_some]<;>exact rfl)|(simp only [h2,h10,h11,h12,h17,h48,h65,h66,h68,h69] at hb;simp only [tresAll,tres,z1,hb,Option.map_some]<;>exact rfl))
                  · rw [if_neg (by rw [h68];exact Bool.false_ne_true)] at hr
                    repeat (first|with_reducible refine mv ?_|((with_reducible first|apply TD.mv|apply TD.bin);(repeat (focus (show _ = _;first|exact k2 rfl|(simp only [zz,h68]<;>exact rfl))));(with_reducible refine TD.here ?_))|((with_reducible apply TX.drawn);(focus decide +kernel);(focus (simp only []<;>exact rfl));(focus exact rfl);(try dsimp only))|((with_reducible apply TX.cond_false);(focus rfl);(focus ((simp only [z1,Bool.not_true,h68];done)))))
                    rcases Bool.eq_false_or_eq_true ((decide (v17 = 0))) with h70|h70
                    · rw [if_pos h70] at hr
                      repeat (first|((with_reducible first|apply TD.ld|apply TD.mv);(repeat (focus (show _ = _;first|exact k2 rfl|(simp only [zz,y22,Nat.reduceAdd,Nat.reduceLeDiff,tload,rowOf,partT,h70]<;>exact rfl)|exact rfl)));(with_reducible refine TD.here ?_)))
                      obtain ⟨⟨v47,v48,v49⟩,h71,hr⟩:=Option.bind_eq_some_iff.1 hr
                      try dsimp only at hr
                      first|apply TD.cal (by first|rfl|(simp only [twant,z1,z7,h2,h10,h11,h12,h17,h48,h65,h66,h68,h70]<;>rfl)) rfl goFn18 (Spec.ov (ref03_BurstOf_spec h71) (by decide)) rfl rfl rfl|apply TD.calw (by first|rfl|(simp only [twant,z1,z7,h2,h10,h11,h12,h17,h48,h65,h66,h68,h70]<;>rfl)) rfl goFn18 (Spec.ov (ref03_BurstOf_spec h71) (by decide)) rfl rfl rfl rfl
                      (repeat (focus (show _ = _;(simp only [zz,Nat.reduceAdd,shift]<;>exact rfl))))
                      with_reducible apply TD.here
                      apply TD.pop1 (by first|rfl|(simp only [twant,z1,z7,h2,h10,h11,h12,h17,h48,h65,h66,h68,h70]<;>rfl)) (pop_eqs1 (X:=⟨[.int .i64 (v14),.int .i64 (v15),.int .i64 (v16)]⟩) (Y:=⟨[.int .i64 (v47),.int .i64 (v48),.int .i64 (v49)]⟩) rfl rfl rfl rfl rfl rfl rfl eqg34 eqs34 rfl)
                      (repeat (focus (show _ = _;(simp only [zz]<;>exact rfl))))
                      with_reducible apply TD.here
                      repeat (first|(with_reducible first|refine mv ?_|refine TD.nil ?_)|((with_reducible first|apply TD.pk|apply TD.asg);(repeat (focus (show _ = _;first|exact k2 rfl|(simp only [zz]<;>exact rfl))));(with_reducible refine TD.here ?_)))
                      have hb:=Option.some.inj hr
                      first|(cases hb;done)|(refine ⟨.inr rfl,?_⟩;first|(simp only [hb]<;>exact rfl)|(simp only [h2,h10,h11,h12,h17,h48,h65,h66,h68,h70] at hb;simp only [tresAll,tres,z1,hb,Option.map_some]<;>exact rfl))
                    · rw [if_neg (by rw [h70];exact Bool.false_ne_true)] at hr
                      repeat (first|(with_reducible first|refine mv ?_|refine TD.nil ?_)|((with_reducible first|apply TD.pk|apply TD.asg);(repeat (focus (show _ = _;first|exact k2 rfl|(simp only [zz]<;>exact rfl))));(with_reducible refine TD.here ?_))|((with_reducible apply TD.skip1);(repeat (focus (show _ = _;(simp only [zz,twant,zp,zs,h70]<;>exact rfl))));(with_reducible refine TD.here ?_)))
                      have hb:=Option.some.inj hr
                      first|(cases hb;done)|(refine ⟨.inr rfl,?_⟩;first|(simp only [tresAll,tres,z1,hb,Option.map_some]<;>exact rfl)|(simp only [h2,h10,h11,h12,h17,h48,h65,h66,h68,h70] at hb;simp only [tresAll,tres,z1,hb,Option.map_some]<;>exact rfl))
              · rw [if_neg (by rw [h65];exact Bool.false_ne_true)] at hr
                repeat (first|(with_reducible first|refine mv ?_|refine TO.nil ?_)|((with_reducible first|apply TO.pk|apply TO.mv|apply TO.bin);(repeat (focus (show _ = _;first|exact k2 rfl|(simp only [zz,h65]<;>exact rfl))));(with_reducible apply TO.here))|((with_reducible apply TO.skip1);(repeat (focus (show _ = _;(simp only [zz,twant,zp,zs,h65]<;>exact rfl))));(with_reducible apply TO.here))|((with_reducible apply TX.region);(focus (simp only []<;>exact rfl));(focus rfl);(try dsimp only))|((with_reducible apply TX.cond_false);(focus rfl);(focus (rfl))))
                rcases Bool.eq_false_or_eq_true ((decide (v46 ≠ 0))) with h72|h72
                · rw [if_pos h72] at hr
                  repeat (first|with_reducible refine mv ?_|((with_reducible first|apply TO.mv|apply TO.bin);(repeat (focus (show _ = _;first|exact k2 rfl|(simp only [zz,h72]<;>exact rfl))));(with_reducible apply TO.here))|((with_reducible apply TX.region);(focus (simp only []<;>exact rfl));(focus rfl);(try dsimp only))|((with_reducible apply TX.cond_true);(focus rfl);(focus ((simp only [z1,Bool.not_true,h72];done)))))
                  rcases Bool.eq_false_or_eq_true ((decide (v17 = v46))) with h73|h73
                  · rw [if_pos h73] at hr
                    repeat (first|((with_reducible first|apply TO.ld|apply TO.bld);(repeat (focus (show _ = _;first|exact k2 rfl|(simp only [zz,y22,Nat.reduceAdd,Nat.reduceLeDiff,tload,rowOf,partT,tbuild,tfill,h73]<;>exact rfl)|exact rfl)));(with_reducible apply TO.here)))
                    apply TO.pop1 (by first|rfl|(simp only [twant,z1,z7,h2,h10,h11,h12,h17,h48,h65,h72,h73]<;>rfl)) (pop_eqs1 (X:=⟨[.int .i64 (v14),.int .i64 (v15),.int .i64 (v16)]⟩) (Y:=⟨[.int .i64 (0),.int .i64 (0),.int .i64 (0)]⟩) rfl rfl rfl rfl rfl rfl rfl eqg34 eqs34 rfl)
                    (repeat (focus (show _ = _;(simp only [zz]<;>exact rfl))))
                    with_reducible apply TO.here
                    repeat (first|(with_reducible first|refine mv ?_|refine TO.nil ?_)|((with_reducible first|apply TO.pk|apply TO.asg);(repeat (focus (show _ = _;first|exact k2 rfl|(simp only [zz]<;>exact rfl))));(with_reducible apply TO.here)))
                    have hb:=Option.some.inj hr
                    first|(cases hb;done)|(refine ⟨.inr rfl,?_⟩;first|(simp only [hb]<;>exact rfl)|(simp only [h2,h10,h11,h12,h17,h48,h65,h72,h73] at hb;simp only [tresAll,tres,z1,hb,Option.map_some]<;>exact rfl))
                  · rw [if_neg (by rw [h73];exact Bool.false_ne_true)] at hr
                    repeat (first|(with_reducible first|refine mv ?_|refine TO.nil ?_)|((with_reducible first|apply TO.pk|apply TO.asg);(repeat (focus (show _ = _;first|exact k2 rfl|(simp only [zz]<;>exact rfl))));(with_reducible apply TO.here))|((with_reducible apply TO.skip1);(repeat (focus (show _ = _;(simp only [zz,twant,zp,zs,h73]<;>exact rfl))));(with_reducible apply TO.here)))
                    have hb:=Option.some.inj hr
                    first|(cases hb;done)|(refine ⟨.inr rfl,?_⟩;first|(simp only [tresAll,tres,z1,hb,Option.map_some]<;>exact rfl)|(simp only [h2,h10,h11,h12,h17,h48,h65,h72,h73] at hb;simp only [tresAll,tres,z1,hb,Option.map_some]<;>exact rfl))
                · rw [if_neg (by rw [h72];exact Bool.false_ne_true)] at hr
                  repeat (first|with_reducible refine mv ?_|((with_reducible first|apply TD.mv|apply TD.bin);(repeat (focus (show _ = _;first|exact k2 rfl|(simp only [zz,h72]<;>exact rfl))));(with_reducible refine TD.here ?_))|((with_reducible apply TX.drawn);(focus decide +kernel);(focus (simp only []<;>exact rfl));(focus exact rfl);(try dsimp only))|((with_reducible apply TX.cond_false);(focus rfl);(focus ((simp only [z1,Bool.not_true,h72];done)))))
                  rcases Bool.eq_false_or_eq_true ((decide (v17 = 0))) with h74|h74
                  · rw [if_pos h74] at hr
                    repeat (first|((with_reducible first|apply TD.ld|apply TD.mv);(repeat (focus (show _ = _;first|exact k2 rfl|(simp only [zz,y22,Nat.reduceAdd,Nat.reduceLeDiff,tload,rowOf,partT,h74]<;>exact rfl)|exact rfl)));(with_reducible refine TD.here ?_)))
                    obtain ⟨⟨v50,v51,v52⟩,h75,hr⟩:=Option.bind_eq_some_iff.1 hr
                    try dsimp only at hr
                    first|apply TD.cal (by first|rfl|(simp only [twant,z1,z7,h2,h10,h11,h12,h17,h48,h65,h72,h74]<;>rfl)) rfl goFn18 (Spec.ov (ref03_BurstOf_spec h75) (by decide)) rfl rfl rfl|apply TD.calw (by first|rfl|(simp only [twant,z1,z7,h2,h10,h11,h12,h17,h48,h65,h72,h74]<;>rfl)) rfl goFn18 (Spec.ov (ref03_BurstOf_spec h75) (by decide)) rfl rfl rfl rfl
                    (repeat (focus (show _ = _;(simp only [zz,Nat.reduceAdd,shift]<;>exact rfl))))
                    with_reducible apply TD.here
                    apply TD.pop1 (by first|rfl|(simp only [twant,z1,z7,h2,h10,h11,h12,h17,h48,h65,h72,h74]<;>rfl)) (pop_eqs1 (X:=⟨[.int .i64 (v14),.int .i64 (v15),.int .i64 (v16)]⟩) (Y:=⟨[.int .i64 (v50),.int .i64 (v51),.int .i64 (v52)]⟩) rfl rfl rfl rfl rfl rfl rfl eqg34 eqs34 rfl)
                    (repeat (focus (show _ = _;(simp only [zz]<;>exact rfl))))
                    with_reducible apply TD.here
                    repeat (first|(with_reducible first|refine mv ?_|refine TD.nil ?_)|((with_reducible first|apply TD.pk|apply TD.asg);(repeat (focus (show _ = _;first|exact k2 rfl|(simp only [zz]<;>exact rfl))));(with_reducible refine TD.here ?_)))
                    have hb:=Option.some.inj hr
                    first|(cases hb;done)|(refine ⟨.inr rfl,?_⟩;first|(simp only [hb]<;>exact rfl)|(simp only [h2,h10,h11,h12,h17,h48,h65,h72,h74] at hb;simp only [tresAll,tres,z1,hb,Option.map_some]<;>exact rfl))
                  · rw [if_neg (by rw [h74];exact Bool.false_ne_true)] at hr
                    repeat (first|(with_reducible first|refine mv ?_|refine TD.nil ?_)|((with_reducible first|apply TD.pk|apply TD.asg);(repeat (focus (show _ = _;first|exact k2 rfl|(simp only [zz]<;>exact rfl))));(with_reducible refine TD.here ?_))|((with_reducible apply TD.skip1);(repeat (focus (show _ = _;(simp only [zz,twant,zp,zs,h74]<;>exact rfl))));(with_reducible refine TD.here ?_)))
                    have hb:=Option.some.inj hr
                    first|(cases hb;done)|(refine ⟨.inr rfl,?_⟩;first|(simp only [tresAll,tres,z1,hb,Option.map_some]<;>exact rfl)|(simp only [h2,h10,h11,h12,h17,h48,h65,h72,h74] at hb;simp only [tresAll,tres,z1,hb,Option.map_some]<;>exact rfl))
  · rw [if_neg (by rw [h2];exact Bool.false_ne_true)] at hr
    repeat (first|(with_reducible first|refine mv ?_|refine TO.nil ?_)|((with_reducible apply TO.asg);(repeat (focus (show _ = _;first|exact k2 rfl|(simp only [zz,h2]<;>exact rfl))));(with_reducible apply TO.here))|((with_reducible apply TX.region);(focus (simp only []<;>exact rfl));(focus rfl);(try dsimp only))|((with_reducible apply TX.cond_true);(focus rfl);(focus ((simp only [z1,zn,h2];done)))))
    have hb:=Option.some.inj hr
    first|(cases hb;done)|(refine ⟨.inr rfl,?_⟩;first|(simp only []<;>exact rfl)|(simp only [h2] at hb;simp only [tresAll,tres,z1,hb,Option.map_some]<;>exact rfl))

end Go.Rex
