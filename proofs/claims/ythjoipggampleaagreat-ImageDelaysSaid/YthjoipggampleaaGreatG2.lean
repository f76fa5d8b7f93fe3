/- Proofs that the program's functions do what these plain functions say. -/
import Derived.Test.YthjoipggampleaaGreatGB
import Derived.Test.YthjoipggampleaaGreatS
import Derived.Test.YthjoipggampleaaGreatG1
import Derived.Test.YthjoipggampleaaGreatCZ
set_option linter.unusedSimpArgs false
set_option linter.unusedVariables false
set_option linter.defProp false
namespace Go.Rex
open Go.Proofs
open Go Go.Rex Go.RowKit
set_option maxRecDepth 100000
set_option maxHeartbeats 200000
def y27:=an @ag22 <| an @ag23 <| an @ag25 <| an @ag3 <| an @ag93 <| an @by3 <| an @by93 <| an @cs22 <| an @cs23 <| an @cs25 <| an @cs3 <| an @cs93 <| an @fd25_0 <| an @fd25_1 <| an @fd25_2 <| an @ni22 <| an @ni23 <| an @ok22 <| an @ok23 <| an @ok25 <| an @ok3 <| an @ok93 <| an @so22 <| an @so23 <| an @st25 <| an @zc25 <| an @zc3 <| @zc93
theorem ref02_Turned_spec {v1 : (List Int)} {v2 : (List (Int × Int × Int × Int))} {v3 : Int} {v4 : (List Int)} {v5 : (List (Int × Int × Int × Int))} {v6 : Int} (hr : ref02_Turned v1 v2 v3 = some (v4,v5,v6)) : Spec (lim Tryz.prog) 15 [.agg [.list 1 (v1.map e_i),.list 4 (v2.map e_iiii),.v (.int .i64 v3)]] ⟨[.agg [.lsl 0 0 v4.length,.lsl 1 0 v5.length,.v (.int .i64 v6)]],[.rows 1 (v4.map e_i),.rows 4 (v5.map e_iiii)]⟩:=by
  unfold ref02_Turned at hr
  apply Spec.fn Tryz.func15 rfl
  focus (simp [Tryz.f15]<;>exact rfl)
  focus
    repeat (first|(with_reducible first|refine mv ?_|refine TO.nil ?_)|((with_reducible first|apply TO.bf|apply TO.al|apply TO.fa|apply TO.ld|apply TO.bld|apply TO.sv|apply TO.len|apply TO.bin|apply TO.asg);(repeat (focus (show _ = _;first|exact k1 rfl|exact k2 rfl|(simp only [zz,y27,Nat.reduceAdd,Nat.reduceLeDiff,tfieldAddr,tload,rowOf,partT,tbuild,tfill,tlen]<;>exact rfl)|exact rfl)));(with_reducible apply TO.here))|((with_reducible apply TX.region);(focus (simp only []<;>exact rfl));(focus rfl);(try dsimp only)))
    obtain ⟨⟨v26,v27⟩,h11,hr⟩:=Option.bind_eq_some_iff.1 hr
    try dsimp only at hr
    refine TX.loopE (step:=ref02_Turned_l1 v1 v2) (x:=(([] : List Int),([] : List (Int × Int × Int × Int)),(IntKind.i64.wrap ((v1.length : Int) - 1)))) h11 (fun (v7,v8,v9)=>⟨.junk :: .fptr true [.list 1 (v1.map e_i),.list 4 (v2.map e_iiii),.v (.int .i64 v3)] 0 :: .lptr 0 0 0 :: .lptr 1 0 0 :: .v (.int .i64 v9) :: .junk :: .junk :: .junk :: .junk :: .junk :: .junk :: .junk :: .junk :: .junk :: .junk :: .junk :: .junk :: .junk :: .junk :: .junk :: .junk :: .junk :: .junk :: .junk :: .junk :: .junk :: .junk :: .junk :: .junk :: .junk :: .junk :: .junk :: .junk :: .junk :: .junk :: .junk :: .junk :: [],[.var [.v (.slice none 0 0),.v (.slice none 0 0),.v (.int .i64 0)],.var [.lsl 2 0 v7.length,.lsl 3 0 v8.length,.v (.int .i64 v3)],.rows 1 (v7.map e_i),.rows 4 (v8.map e_iiii)]⟩) (fun (v17,v18)=>(.exit 0,⟨.junk :: .junk :: .lptr 0 0 0 :: .lptr 1 0 0 :: .junk :: .junk :: .junk :: .junk :: .junk :: .junk :: .junk :: .junk :: .junk :: .junk :: .junk :: .junk :: .junk :: .junk :: .junk :: .junk :: .junk :: .junk :: .junk :: .junk :: .junk :: .junk :: .junk :: .junk :: .junk :: .junk :: .junk :: .junk :: .junk :: .junk :: .junk :: .junk :: .junk :: [],[.var [.v (.slice none 0 0),.v (.slice none 0 0),.v (.int .i64 0)],.var [.lsl 2 0 v17.length,.lsl 3 0 v18.length,.v (.int .i64 v3)],.rows 1 (v17.map e_i),.rows 4 (v18.map e_iiii)]⟩)) ?_ ?_ ?_ ?_
    · rintro ⟨v7,v8,v9⟩ v0 hr
      dsimp only [ref02_Turned_l1] at hr
      try dsimp only
      repeat (first|(with_reducible first|refine mv ?_|refine TO.nil ?_)|((with_reducible first|apply TO.mv|apply TO.bin);(repeat (focus (show _ = _;first|exact k2 rfl|(simp only [zz]<;>exact rfl))));(with_reducible apply TO.here))|((with_reducible apply TX.region);(focus (simp only []<;>exact rfl));(focus rfl);(try dsimp only)))
      rcases Bool.eq_false_or_eq_true ((decide (v9 ≥ 0))) with h6|h6
      · rw [if_pos h6] at hr
        repeat (first|with_reducible refine mv ?_|((with_reducible first|apply TD.fa|apply TD.ld|apply TD.mv);(repeat (focus (show _ = _;first|exact k2 rfl|(simp only [zz,y27,Nat.reduceAdd,tfieldAddr,tload,rowOf,partT,h6]<;>exact rfl)|exact rfl)));(with_reducible refine TD.here ?_))|((with_reducible apply TX.drawn);(focus decide +kernel);(focus (simp only []<;>exact rfl));(focus exact rfl);(try dsimp only))|((with_reducible apply TX.cond_true);(focus rfl);(focus ((simp only [z1,h6];done)))))
        obtain ⟨v19,h7,hr⟩:=Option.bind_eq_some_iff.1 hr
        try dsimp only at hr
        have h7m:=tidx_map (f:=e_i) h7
        have h7l:=getI_lt h7
        try simp only [List.length_set] at h7l
        have h7a:=getI_at h7
        repeat (first|((with_reducible first|apply TD.ia|apply TD.ld);(repeat (focus (show _ = _;first|exact k2 rfl|(simp only [zz,y27,e_i,tindexAddr,tload,rowOf,partT,h7m]<;>exact rfl)|exact rfl)));(with_reducible refine TD.here ?_)))
        first|apply TD.bm e_i ([v19] : List Int) (by first|rfl|(simp only [twant,z1,z7,h6,h7m,h7l,h7a]<;>rfl)) rfl (by simp only [zz,y27,e_i,Nat.reduceAdd,Nat.reduceMul,tslice,tparts];exact rfl) rfl|apply TD.bmw e_i ([v19] : List Int) (by first|rfl|(simp only [twant,z1,z7,h6,h7m,h7l,h7a]<;>rfl)) rfl (by simp only [zz,y27,e_i,e_iiii,Nat.reduceAdd,Nat.reduceMul,Nat.reduceLeDiff,Nat.reduceEqDiff,tslice,tparts,h6,h7m,h7l,h7a];exact rfl) rfl rfl|apply TD.bmF (by decide +kernel) e_i ([v19] : List Int) (by first|rfl|(simp only [twant,z1,z7,h6,h7m,h7l,h7a]<;>rfl)) rfl (by simp only [zz,y27,e_i,e_iiii,Nat.reduceAdd,Nat.reduceMul,Nat.reduceLeDiff,Nat.reduceEqDiff,tslice,tparts,h6,h7m,h7l,h7a];exact rfl) rfl
        (repeat (focus (show _ = _;(simp only [zz,e_i]<;>exact rfl))))
        with_reducible apply TD.here
        obtain ⟨v20,h8,hr⟩:=Option.bind_eq_some_iff.1 hr
        try dsimp only at hr
        apply TD.apf (f:=e_i) (xs:=v7) (ys:=([v19] : List Int)) (by first|rfl|(simp only [twant,z1,z7,h6,h7m,h7l,h7a]<;>rfl)) rfl rfl (by first|rfl|simp only [List.length_set]) rfl rfl so22 ni22 zc3 rfl (by rw [by3];exact h8) (fun _=>⟨rfl,rfl,rfl⟩) rfl
        (repeat (focus (show _ = _;(simp only [zz,Nat.reduceAdd,Nat.reduceEqDiff,kill,killB]<;>exact rfl))))
        with_reducible apply TD.here
        repeat (first|((with_reducible first|apply TD.fa|apply TD.ldw|apply TD.mv);(repeat (focus (show _ = _;first|exact k2 rfl|(simp only [zz,y27,Nat.reduceAdd,tfieldAddr,tload,rowOf,partT]<;>exact rfl))));(with_reducible refine TD.here ?_))|((with_reducible apply TD.ldF);(focus decide +kernel);(repeat (focus (show _ = _;first|exact k1 rfl|exact k2 rfl|(simp only [zz,y27,tload,rowOf,partT]<;>exact rfl)|exact rfl)));(with_reducible refine TD.here ?_)))
        obtain ⟨⟨v21,v22,v23,v24⟩,h9,hr⟩:=Option.bind_eq_some_iff.1 hr
        try dsimp only at hr
        have h9m:=tidx_map (f:=e_iiii) h9
        have h9l:=getI_lt h9
        try simp only [List.length_set] at h9l
        have h9a:=getI_at h9
        repeat (first|((with_reducible first|apply TD.ia|apply TD.ldw);(repeat (focus (show _ = _;first|exact k2 rfl|(simp only [zz,y27,e_iiii,Nat.reduceAdd,Nat.reduceLeDiff,tindexAddr,Nat.zero_add,tload,rowOf,partT,h9m]<;>exact rfl))));(with_reducible refine TD.here ?_))|((with_reducible apply TD.ldF);(focus decide +kernel);(repeat (focus (show _ = _;first|exact k1 rfl|exact k2 rfl|(simp only [zz,y27,Nat.reduceAdd,Nat.reduceLeDiff,Nat.zero_add,tload,rowOf,partT]<;>exact rfl)|exact rfl)));(with_reducible refine TD.here ?_)))
        first|apply TD.bm e_iiii ([(v21,v22,v23,v24)] : List (Int × Int × Int × Int)) (by first|rfl|(simp only [twant,z1,z7,h6,h7m,h7l,h7a,h9m,h9l,h9a]<;>rfl)) rfl (by simp only [zz,y27,e_i,e_iiii,Nat.reduceAdd,Nat.reduceMul,Nat.reduceLeDiff,Nat.reduceEqDiff,tslice,tparts,h6,h7m,h7l,h7a,h9m,h9l,h9a];exact rfl) rfl|apply TD.bmw e_iiii ([(v21,v22,v23,v24)] : List (Int × Int × Int × Int)) (by first|rfl|(simp only [twant,z1,z7,h6,h7m,h7l,h7a,h9m,h9l,h9a]<;>rfl)) rfl (by simp only [zz,y27,e_iiii,Nat.reduceAdd,Nat.reduceMul,tslice,tparts];exact rfl) rfl rfl|apply TD.bmF (by decide +kernel) e_iiii ([(v21,v22,v23,v24)] : List (Int × Int × Int × Int)) (by first|rfl|(simp only [twant,z1,z7,h6,h7m,h7l,h7a,h9m,h9l,h9a]<;>rfl)) rfl (by simp only [zz,y27,e_iiii,Nat.reduceAdd,Nat.reduceMul,tslice,tparts];exact rfl) rfl
        (repeat (focus (show _ = _;(simp only [zz,e_iiii]<;>exact rfl))))
        with_reducible apply TD.here
        obtain ⟨v25,h10,hr⟩:=Option.bind_eq_some_iff.1 hr
        try dsimp only at hr
        apply TD.ap (f:=e_iiii) (xs:=v8) (ys:=([(v21,v22,v23,v24)] : List (Int × Int × Int × Int))) (by first|rfl|(simp only [twant,z1,z7,h6,h7m,h7l,h7a,h9m,h9l,h9a]<;>rfl)) rfl rfl (by first|rfl|simp only [List.length_set]) rfl rfl so23 ni23 zc93 rfl (by rw [by93];exact h10) (fun _=>⟨rfl,rfl,rfl⟩) rfl
        (repeat (focus (show _ = _;(simp only [zz,Nat.reduceAdd,Nat.reduceEqDiff,kill,killB]<;>exact rfl))))
        with_reducible apply TD.here
        repeat (first|(with_reducible first|refine mv ?_|refine TO.nil ?_)|((with_reducible first|apply TO.mv|apply TO.bin|apply TO.asg);(repeat (focus (show _ = _;first|exact k2 rfl|(simp only [zz]<;>exact rfl))));(with_reducible apply TO.here))|((with_reducible apply TX.region);(focus (simp only []<;>exact rfl));(focus rfl);(try dsimp only))|with_reducible refine TD.nil ?_|((with_reducible first|apply TD.fa|apply TD.sv);(repeat (focus (show _ = _;first|exact k1 rfl|exact k2 rfl|(simp only [zz,y27,Nat.reduceAdd,tfieldAddr]<;>exact rfl))));(with_reducible refine TD.here ?_)))
        cases hr
        refine ⟨rfl,?_⟩
        exact Wk.ren [some 0,some 1,some 2,some 3] rfl (rv (rv (.rows (.rows .nil rfl rfl) rfl rfl) rfl) rfl) (by (repeat (first|exact RNs.nil|refine RNs.cons .junk ?_|refine RNs.cons (.keep rfl rfl) ?_|refine RNs.cons (.lptr rfl) ?_)))
      · rw [if_neg (by rw [h6];exact Bool.false_ne_true)] at hr
        repeat (first|with_reducible refine mv ?_|((with_reducible apply TX.cond_false);(focus rfl);(focus ((simp only [z1,h6];done)))))
        cases hr
        refine ⟨rfl,?_⟩
        exact Wk.ren [some 0,some 1,some 2,some 3] rfl (rv (rv (.rows (.rows .nil rfl rfl) rfl rfl) rfl) rfl) (by (repeat (first|exact RNs.nil|refine RNs.cons .junk ?_|refine RNs.cons (.lptr rfl) ?_)))
    · intro e h;cases h
    · try dsimp only
      repeat (first|(with_reducible first|refine mv ?_|refine TO.nil ?_)|((with_reducible first|apply TO.ld|apply TO.sv);(repeat (focus (show _ = _;first|exact k1 rfl|exact k2 rfl|(simp only [zz,y27,Nat.reduceAdd,Nat.reduceLeDiff,tload,rowOf,partT]<;>exact rfl)|exact rfl)));(with_reducible apply TO.here))|((with_reducible apply TX.region);(focus (simp only []<;>exact rfl));(focus rfl);(try dsimp only)))
      cases hr
      refine ⟨.inr rfl,_,(by simp only [];exact rfl),?_⟩
      exact wr [some 2,some 3] rfl (.rows (.rows .nil rfl rfl) rfl rfl)
    · try dsimp only
      exact wr [some 0,some 1,none,none] rfl (rv (rv (.virt (.virt .nil)) rfl) rfl)
  rfl

end Go.Rex

namespace Go.Rex
open Go.Proofs
open Go Go.Rex Go.RowKit
set_option maxRecDepth 100000
set_option maxHeartbeats 200000
def y28:=an @ag3 <| an @cs3 <| an @ok3 <| an @so22 <| @wi64_0a1
theorem base_Ints_spec {v1 : (List Int)} {v2 : (List Int)} {v3 : Bool} (hr : base_Ints v1 v2 = some (v3)) : Spec (lim Tryz.prog) 36 [.list 1 (v1.map e_i),.list 1 (v2.map e_i)] ⟨[.v (.bool v3)],[]⟩:=by
  unfold base_Ints at hr
  apply Spec.fn Tryz.func36 rfl
  focus (simp [Tryz.f36]<;>exact rfl)
  focus
    repeat (first|(with_reducible first|refine mv ?_|refine TO.nil ?_)|((with_reducible first|apply TO.asg|apply TO.mv|apply TO.len|apply TO.bin);(repeat (focus (show _ = _;first|exact k2 rfl|(simp only [zz,y28,tlen]<;>exact rfl))));(with_reducible apply TO.here))|((with_reducible apply TX.region);(focus (simp only []<;>exact rfl));(focus rfl);(try dsimp only)))
    rcases Bool.eq_false_or_eq_true ((decide ((v1.length : Int) ≠ (v2.length : Int)))) with h1|h1
    · rw [if_pos h1] at hr
      repeat (first|(with_reducible first|refine mv ?_|refine TO.nil ?_)|((with_reducible apply TO.asg);(repeat (focus (show _ = _;first|exact k2 rfl|(simp only [zz,h1]<;>exact rfl))));(with_reducible apply TO.here))|((with_reducible apply TX.region);(focus (simp only []<;>exact rfl));(focus rfl);(try dsimp only))|((with_reducible apply TX.cond_true);(focus rfl);(focus ((simp only [z1,h1];done)))))
      cases hr
      refine ⟨.inr rfl,_,(by simp only [];exact rfl),?_⟩
      exact Wk.ren [] rfl .nil (by (repeat (first|exact RNs.nil|refine RNs.cons (.keep rfl rfl) ?_)))
    · rw [if_neg (by rw [h1];exact Bool.false_ne_true)] at hr
      repeat (first|(with_reducible first|refine mv ?_|refine TO.nil ?_)|((with_reducible apply TO.asg);(repeat (focus (show _ = _;first|exact k2 rfl|(simp only [zz,h1]<;>exact rfl))));(with_reducible apply TO.here))|((with_reducible apply TX.region);(focus (simp only []<;>exact rfl));(focus rfl);(try dsimp only))|((with_reducible apply TX.cond_false);(focus rfl);(focus ((simp only [z1,h1];done)))))
      obtain ⟨v9,h10,hr⟩:=Option.bind_eq_some_iff.1 hr
      refine TX.loopE (step:=base_Ints_l1 v1 v2) (x:=0) h10 (fun v4=>⟨.list 1 (v1.map e_i) :: .list 1 (v2.map e_i) :: .junk :: .junk :: .junk :: .v (.int .i64 v4) :: .junk :: .junk :: .junk :: .junk :: .junk :: .junk :: .junk :: .junk :: .junk :: .junk :: .junk :: .junk :: .junk :: .junk :: .junk :: .junk :: .junk :: .junk :: .junk :: .junk :: [],[]⟩) (fun e=>match e with|(.inl _)=>(.ret,⟨.junk :: .junk :: .junk :: .junk :: .v (.bool false) :: .junk :: .junk :: .junk :: .junk :: .junk :: .junk :: .junk :: .junk :: .junk :: .junk :: .junk :: .junk :: .junk :: .junk :: .junk :: .junk :: .junk :: .junk :: .junk :: .junk :: .junk :: [],[]⟩)|(.inr _)=>(.exit 0,⟨.junk :: .junk :: .junk :: .junk :: .junk :: .junk :: .junk :: .junk :: .junk :: .junk :: .junk :: .junk :: .junk :: .junk :: .junk :: .junk :: .junk :: .junk :: .junk :: .junk :: .junk :: .junk :: .junk :: .junk :: .junk :: .junk :: [],[]⟩)) ?_ ?_ ?_ ?_
      · rintro v4 v0 hr
        dsimp only [base_Ints_l1] at hr
        try dsimp only
        repeat (first|(with_reducible first|refine mv ?_|refine TO.nil ?_)|((with_reducible first|apply TO.mv|apply TO.len|apply TO.bin);(repeat (focus (show _ = _;first|exact k2 rfl|(simp only [zz,y28,tlen]<;>exact rfl))));(with_reducible apply TO.here))|((with_reducible apply TX.region);(focus (simp only []<;>exact rfl));(focus rfl);(try dsimp only)))
        rcases Bool.eq_false_or_eq_true ((decide (v4 < (v1.length : Int)))) with h6|h6
        · rw [if_pos h6] at hr
          repeat (first|with_reducible refine mv ?_|((with_reducible apply TD.mv);(repeat (focus (show _ = _;first|exact k2 rfl|(simp only [zz,h6]<;>exact rfl))));(with_reducible refine TD.here ?_))|((with_reducible apply TX.drawn);(focus decide +kernel);(focus (simp only []<;>exact rfl));(focus exact rfl);(try dsimp only))|((with_reducible apply TX.cond_true);(focus rfl);(focus ((simp only [z1,h6];done)))))
          obtain ⟨v7,h7,hr⟩:=Option.bind_eq_some_iff.1 hr
          try dsimp only at hr
          have h7m:=tidx_map (f:=e_i) h7
          have h7l:=getI_lt h7
          try simp only [List.length_set] at h7l
          have h7a:=getI_at h7
          repeat (first|((with_reducible first|apply TD.ia|apply TD.ld|apply TD.mv);(repeat (focus (show _ = _;first|exact k2 rfl|(simp only [zz,y28,e_i,tindexAddr,tload,rowOf,partT,h7m]<;>exact rfl)|exact rfl)));(with_reducible refine TD.here ?_)))
          obtain ⟨v8,h8,hr⟩:=Option.bind_eq_some_iff.1 hr
          try dsimp only at hr
          have h8m:=tidx_map (f:=e_i) h8
          have h8l:=getI_lt h8
          try simp only [List.length_set] at h8l
          have h8a:=getI_at h8
          repeat (first|(with_reducible first|refine mv ?_|refine TD.nil ?_)|((with_reducible first|apply TD.ia|apply TD.ld|apply TD.bin);(repeat (focus (show _ = _;first|exact k2 rfl|(simp only [zz,y28,e_i,tindexAddr,tload,rowOf,partT,h8m]<;>exact rfl)|exact rfl)));(with_reducible refine TD.here ?_)))
          rcases Bool.eq_false_or_eq_true ((decide (v7 ≠ v8))) with h9|h9
          · rw [if_pos h9] at hr
            repeat (first|(with_reducible first|refine mv ?_|refine TO.nil ?_)|((with_reducible apply TO.asg);(repeat (focus (show _ = _;first|exact k2 rfl|(simp only [zz,h9]<;>exact rfl))));(with_reducible apply TO.here))|((with_reducible apply TX.region);(focus (simp only []<;>exact rfl));(focus rfl);(try dsimp only))|((with_reducible apply TX.cond_true);(focus rfl);(focus ((simp only [z1,h9];done)))))
            cases hr
            refine ⟨rfl,?_⟩
            exact Wk.ren [] rfl .nil (by (repeat (first|exact RNs.nil|refine RNs.cons .junk ?_|refine RNs.cons (.keep rfl rfl) ?_)))
          · rw [if_neg (by rw [h9];exact Bool.false_ne_true)] at hr
            repeat (first|(with_reducible first|refine mv ?_|refine TO.nil ?_)|((with_reducible first|apply TO.mv|apply TO.bin|apply TO.asg);(repeat (focus (show _ = _;first|exact k2 rfl|(simp only [zz,h9]<;>exact rfl))));(with_reducible apply TO.here))|((with_reducible apply TX.region);(focus (simp only []<;>exact rfl));(focus rfl);(try dsimp only))|((with_reducible apply TX.cond_false);(focus rfl);(focus ((simp only [z1,h9];done)))))
            cases hr
            refine ⟨rfl,?_⟩
            exact Wk.ren [] rfl .nil (by (repeat (first|exact RNs.nil|refine RNs.cons .junk ?_|refine RNs.cons (.keep rfl rfl) ?_)))
        · rw [if_neg (by rw [h6];exact Bool.false_ne_true)] at hr
          repeat (first|with_reducible refine mv ?_|((with_reducible apply TX.cond_false);(focus rfl);(focus ((simp only [z1,h6];done)))))
          cases hr
          refine ⟨rfl,?_⟩
          exact Wk.ren [] rfl .nil (by (repeat (first|exact RNs.nil|refine RNs.cons .junk ?_)))
      · intro e h;rcases e with _|e<;>cases h
      · try dsimp only
        rcases v9 with _|_
        · try dsimp only at hr
          try dsimp only
          repeat (first|with_reducible refine mv ?_)
          cases hr
          refine ⟨.inr rfl,_,(by simp only [];exact rfl),?_⟩
          exact Wk.ren [] rfl .nil (by (repeat (first|exact RNs.nil|refine RNs.cons (.keep rfl rfl) ?_)))
        · try dsimp only at hr
          try dsimp only
          repeat (first|(with_reducible first|refine mv ?_|refine TO.nil ?_)|((with_reducible apply TO.asg);(repeat (focus (show _ = _;first|exact k2 rfl|(simp only [zz]<;>exact rfl))));(with_reducible apply TO.here))|((with_reducible apply TX.region);(focus (simp only []<;>exact rfl));(focus rfl);(try dsimp only)))
          cases hr
          refine ⟨.inr rfl,_,(by simp only [];exact rfl),?_⟩
          exact Wk.ren [] rfl .nil (by (repeat (first|exact RNs.nil|refine RNs.cons (.keep rfl rfl) ?_)))
      · try dsimp only
        exact Wk.ren [] rfl .nil (by (repeat (first|exact RNs.nil|refine RNs.cons .junk ?_|refine RNs.cons (.keep rfl rfl) ?_)))
  rfl

end Go.Rex

namespace Go.Rex
open Go.Proofs
open Go Go.Rex Go.RowKit
set_option maxRecDepth 100000
set_option maxHeartbeats 1000000
def y29:=an @ag22 <| an @ag23 <| an @ag3 <| an @ag93 <| an @cs93 <| an @eqg93 <| an @eqs93 <| an @fd25_0 <| an @fd25_1 <| an @fd25_2 <| an @ok93 <| an @so23 <| @wi64_0a1
theorem ref02_Same_spec {v1 : (List Int)} {v2 : (List (Int × Int × Int × Int))} {v3 : Int} {v4 : (List Int)} {v5 : (List (Int × Int × Int × Int))} {v6 : Int} {v7 : Bool} (hr : ref02_Same v1 v2 v3 v4 v5 v6 = some (v7)) : Spec (lim Tryz.prog) 13 [.agg [.list 1 (v1.map e_i),.list 4 (v2.map e_iiii),.v (.int .i64 v3)],.agg [.list 1 (v4.map e_i),.list 4 (v5.map e_iiii),.v (.int .i64 v6)]] ⟨[.v (.bool v7)],[]⟩:=by
  unfold ref02_Same at hr
  apply Spec.fn Tryz.func13 rfl
  focus (simp [Tryz.f13]<;>exact rfl)
  focus
    repeat (first|(with_reducible first|refine mv ?_|refine TO.nil ?_)|((with_reducible first|apply TO.bf|apply TO.asg|apply TO.fa|apply TO.ld);(repeat (focus (show _ = _;first|exact k1 rfl|exact k2 rfl|(simp only [zz,y29,Nat.reduceAdd,tfieldAddr,tload,rowOf,partT]<;>exact rfl)|exact rfl)));(with_reducible apply TO.here))|((with_reducible apply TX.region);(focus (simp only []<;>exact rfl));(focus rfl);(try dsimp only)))
    obtain ⟨v8,h1,hr⟩:=Option.bind_eq_some_iff.1 hr
    try dsimp only at hr
    apply TO.cal (by first|rfl|(simp only [twant,z1,z7]<;>rfl)) rfl goFn36 (base_Ints_spec h1) rfl rfl rfl
    (repeat (focus (show _ = _;(simp only [zz,shift]<;>exact rfl))))
    with_reducible apply TO.here
    apply TO.pop1 (by first|rfl|(simp only [twant,z1,z7]<;>rfl)) (pop_not rfl)
    (repeat (focus (show _ = _;(simp only [zz]<;>exact rfl))))
    with_reducible apply TO.here
    repeat (first|((with_reducible apply TO.mv);(repeat (focus (show _ = _;first|exact k2 rfl|(simp only [zz]<;>exact rfl))));(with_reducible apply TO.here)))
    rcases Bool.eq_false_or_eq_true (v8) with h2|h2
    · rw [if_pos h2] at hr
      repeat (first|((with_reducible first|apply TO.fa|apply TO.ld|apply TO.bin|apply TO.pk|apply TO.mv);(repeat (focus (show _ = _;first|exact k2 rfl|(simp only [zz,y29,Nat.reduceAdd,tfieldAddr,tload,rowOf,partT,h2]<;>exact rfl)|exact rfl)));(with_reducible apply TO.here)))
      rcases Bool.eq_false_or_eq_true ((decide (v3 ≠ v6))) with h3|h3
      · rw [if_pos h3] at hr
        repeat (first|(with_reducible first|refine mv ?_|refine TO.nil ?_)|((with_reducible first|apply TO.pk|apply TO.asg);(repeat (focus (show _ = _;first|exact k2 rfl|(simp only [zz]<;>exact rfl))));(with_reducible apply TO.here))|((with_reducible apply TO.skip1);(repeat (focus (show _ = _;(simp only [zz,twant,zp,zs,h3]<;>exact rfl))));(with_reducible apply TO.here))|((with_reducible apply TX.region);(focus (simp only []<;>exact rfl));(focus rfl);(try dsimp only))|((with_reducible apply TX.cond_true);(focus rfl);(focus (rfl))))
        cases hr
        refine ⟨.inr rfl,_,(by simp only [];exact rfl),?_⟩
        exact Wk.ren [] rfl .nil (by (repeat (first|exact RNs.nil|refine RNs.cons (.keep rfl rfl) ?_)))
      · rw [if_neg (by rw [h3];exact Bool.false_ne_true)] at hr
        repeat (first|(with_reducible first|refine mv ?_|refine TO.nil ?_)|((with_reducible first|apply TO.fa|apply TO.ld|apply TO.len|apply TO.bin|apply TO.pk);(repeat (focus (show _ = _;first|exact k2 rfl|(simp only [zz,y29,Nat.reduceAdd,tfieldAddr,tload,rowOf,partT,tlen,h3]<;>exact rfl)|exact rfl)));(with_reducible apply TO.here)))
        rcases Bool.eq_false_or_eq_true ((decide ((v2.length : Int) ≠ (v5.length : Int)))) with h4|h4
        · rw [if_pos h4] at hr
          repeat (first|(with_reducible first|refine mv ?_|refine TO.nil ?_)|((with_reducible apply TO.asg);(repeat (focus (show _ = _;first|exact k2 rfl|(simp only [zz,h4]<;>exact rfl))));(with_reducible apply TO.here))|((with_reducible apply TX.region);(focus (simp only []<;>exact rfl));(focus rfl);(try dsimp only))|((with_reducible apply TX.cond_true);(focus rfl);(focus ((simp only [z1,Bool.not_true,h4];done)))))
          cases hr
          refine ⟨.inr rfl,_,(by simp only [];exact rfl),?_⟩
          exact Wk.ren [] rfl .nil (by (repeat (first|exact RNs.nil|refine RNs.cons (.keep rfl rfl) ?_)))
        · rw [if_neg (by rw [h4];exact Bool.false_ne_true)] at hr
          repeat (first|(with_reducible first|refine mv ?_|refine TO.nil ?_)|((with_reducible apply TO.asg);(repeat (focus (show _ = _;first|exact k2 rfl|(simp only [zz,h4]<;>exact rfl))));(with_reducible apply TO.here))|((with_reducible apply TX.region);(focus (simp only []<;>exact rfl));(focus rfl);(try dsimp only))|((with_reducible apply TX.cond_false);(focus rfl);(focus ((simp only [z1,Bool.not_true,h4];done)))))
          obtain ⟨v26,h13,hr⟩:=Option.bind_eq_some_iff.1 hr
          refine TX.loopE (step:=ref02_Same_l1 v2 v5) (x:=0) h13 (fun v9=>⟨.junk :: .junk :: .fptr true [.list 1 (v1.map e_i),.list 4 (v2.map e_iiii),.v (.int .i64 v3)] 0 :: .fptr true [.list 1 (v4.map e_i),.list 4 (v5.map e_iiii),.v (.int .i64 v6)] 0 :: .junk :: .v (.int .i64 v9) :: .junk :: .junk :: .junk :: .junk :: .junk :: .junk :: .junk :: .junk :: .junk :: .junk :: .junk :: .junk :: .junk :: .junk :: .junk :: .junk :: .junk :: .junk :: .junk :: .junk :: .junk :: .junk :: .junk :: .junk :: .junk :: .junk :: .junk :: .junk :: .junk :: .junk :: .junk :: .junk :: .junk :: .junk :: .junk :: .junk :: .junk :: .junk :: .junk :: .junk :: [],[]⟩) (fun e=>match e with|(.inl _)=>(.ret,⟨.junk :: .junk :: .junk :: .junk :: .v (.bool false) :: .junk :: .junk :: .junk :: .junk :: .junk :: .junk :: .junk :: .junk :: .junk :: .junk :: .junk :: .junk :: .junk :: .junk :: .junk :: .junk :: .junk :: .junk :: .junk :: .junk :: .junk :: .junk :: .junk :: .junk :: .junk :: .junk :: .junk :: .junk :: .junk :: .junk :: .junk :: .junk :: .junk :: .junk :: .junk :: .junk :: .junk :: .junk :: .junk :: .junk :: .junk :: [],[]⟩)|(.inr _)=>(.exit 0,⟨.junk :: .junk :: .junk :: .junk :: .junk :: .junk :: .junk :: .junk :: .junk :: .junk :: .junk :: .junk :: .junk :: .junk :: .junk :: .junk :: .junk :: .junk :: .junk :: .junk :: .junk :: .junk :: .junk :: .junk :: .junk :: .junk :: .junk :: .junk :: .junk :: .junk :: .junk :: .junk :: .junk :: .junk :: .junk :: .junk :: .junk :: .junk :: .junk :: .junk :: .junk :: .junk :: .junk :: .junk :: .junk :: .junk :: [],[]⟩)) ?_ ?_ ?_ ?_
          · rintro v9 v0 hr
            dsimp only [ref02_Same_l1] at hr
            try dsimp only
            repeat (first|(with_reducible first|refine mv ?_|refine TO.nil ?_)|((with_reducible first|apply TO.mv|apply TO.fa|apply TO.ld|apply TO.len|apply TO.bin);(repeat (focus (show _ = _;first|exact k2 rfl|(simp only [zz,y29,Nat.reduceAdd,tfieldAddr,tload,rowOf,partT,tlen]<;>exact rfl)|exact rfl)));(with_reducible apply TO.here))|((with_reducible apply TX.region);(focus (simp only []<;>exact rfl));(focus rfl);(try dsimp only)))
            rcases Bool.eq_false_or_eq_true ((decide (v9 < (v2.length : Int)))) with h9|h9
            · rw [if_pos h9] at hr
              repeat (first|with_reducible refine mv ?_|((with_reducible first|apply TD.fa|apply TD.ld|apply TD.mv);(repeat (focus (show _ = _;first|exact k2 rfl|(simp only [zz,y29,Nat.reduceAdd,tfieldAddr,tload,rowOf,partT,h9]<;>exact rfl)|exact rfl)));(with_reducible refine TD.here ?_))|((with_reducible apply TX.drawn);(focus decide +kernel);(focus (simp only []<;>exact rfl));(focus exact rfl);(try dsimp only))|((with_reducible apply TX.cond_true);(focus rfl);(focus ((simp only [z1,h9];done)))))
              obtain ⟨⟨v18,v19,v20,v21⟩,h10,hr⟩:=Option.bind_eq_some_iff.1 hr
              try dsimp only at hr
              have h10m:=tidx_map (f:=e_iiii) h10
              have h10l:=getI_lt h10
              try simp only [List.length_set] at h10l
              have h10a:=getI_at h10
              repeat (first|((with_reducible first|apply TD.ia|apply TD.ld|apply TD.fa|apply TD.mv);(repeat (focus (show _ = _;first|exact k2 rfl|(simp only [zz,y29,e_iiii,Nat.reduceAdd,Nat.reduceLeDiff,tindexAddr,Nat.zero_add,tload,rowOf,partT,tfieldAddr,h10m]<;>exact rfl)|exact rfl)));(with_reducible refine TD.here ?_)))
              obtain ⟨⟨v22,v23,v24,v25⟩,h11,hr⟩:=Option.bind_eq_some_iff.1 hr
              try dsimp only at hr
              have h11m:=tidx_map (f:=e_iiii) h11
              have h11l:=getI_lt h11
              try simp only [List.length_set] at h11l
              have h11a:=getI_at h11
              repeat (first|((with_reducible first|apply TD.ia|apply TD.ld);(repeat (focus (show _ = _;first|exact k2 rfl|(simp only [zz,y29,e_iiii,Nat.reduceAdd,Nat.reduceLeDiff,tindexAddr,Nat.zero_add,tload,rowOf,partT,h11m]<;>exact rfl)|exact rfl)));(with_reducible refine TD.here ?_)))
              apply TD.pop1 (by first|rfl|(simp only [twant,z1,z7,h2,h3,h4,h9,h10m,h10l,h10a,h11m,h11l,h11a]<;>rfl)) (pop_eqs2 (X:=⟨[.int .i64 (v18),.int .i64 (v19),.int .i64 (v20),.int .i64 (v21)]⟩) (Y:=⟨[.int .i64 (v22),.int .i64 (v23),.int .i64 (v24),.int .i64 (v25)]⟩) rfl rfl rfl rfl rfl rfl rfl eqg93 eqs93 rfl)
              (repeat (focus (show _ = _;(simp only [zz]<;>exact rfl))))
              with_reducible apply TD.here
              repeat (first|(with_reducible first|refine mv ?_|refine TD.nil ?_))
              rcases Bool.eq_false_or_eq_true (([v18 == v22,v19 == v23,v20 == v24,v21 == v25].all id)) with h12|h12
              · rw [if_pos h12] at hr
                repeat (first|(with_reducible first|refine mv ?_|refine TO.nil ?_)|((with_reducible first|apply TO.mv|apply TO.bin|apply TO.asg);(repeat (focus (show _ = _;first|exact k2 rfl|(simp only [zz,h12]<;>exact rfl))));(with_reducible apply TO.here))|((with_reducible apply TX.region);(focus (simp only []<;>exact rfl));(focus rfl);(try dsimp only))|((with_reducible apply TX.cond_false);(focus rfl);(focus ((simp only [z1,Bool.not_true,h12];done)))))
                cases hr
                refine ⟨rfl,?_⟩
                exact Wk.ren [] rfl .nil (by (repeat (first|exact RNs.nil|refine RNs.cons .junk ?_|refine RNs.cons (.keep rfl rfl) ?_)))
              · rw [if_neg (by rw [h12];exact Bool.false_ne_true)] at hr
                repeat (first|(with_reducible first|refine mv ?_|refine TO.nil ?_)|((with_reducible apply TO.asg);(repeat (focus (show _ = _;first|exact k2 rfl|(simp only [zz,h12]<;>exact rfl))));(with_reducible apply TO.here))|((with_reducible apply TX.region);(focus (simp only []<;>exact rfl));(focus rfl);(try dsimp only))|((with_reducible apply TX.cond_true);(focus rfl);(focus ((simp only [z1,Bool.not_false,h12];done)))))
                cases hr
                refine ⟨rfl,?_⟩
                exact Wk.ren [] rfl .nil (by (repeat (first|exact RNs.nil|refine RNs.cons .junk ?_|refine RNs.cons (.keep rfl rfl) ?_)))
            · rw [if_neg (by rw [h9];exact Bool.false_ne_true)] at hr
              repeat (first|with_reducible refine mv ?_|((with_reducible apply TX.cond_false);(focus rfl);(focus ((simp only [z1,h9];done)))))
              cases hr
              refine ⟨rfl,?_⟩
              exact Wk.ren [] rfl .nil (by (repeat (first|exact RNs.nil|refine RNs.cons .junk ?_)))
          · intro e h;rcases e with _|e<;>cases h
          · try dsimp only
            rcases v26 with _|_
            · try dsimp only at hr
              try dsimp only
              repeat (first|with_reducible refine mv ?_)
              cases hr
              refine ⟨.inr rfl,_,(by simp only [];exact rfl),?_⟩
              exact Wk.ren [] rfl .nil (by (repeat (first|exact RNs.nil|refine RNs.cons (.keep rfl rfl) ?_)))
            · try dsimp only at hr
              try dsimp only
              repeat (first|(with_reducible first|refine mv ?_|refine TO.nil ?_)|((with_reducible apply TO.asg);(repeat (focus (show _ = _;first|exact k2 rfl|(simp only [zz]<;>exact rfl))));(with_reducible apply TO.here))|((with_reducible apply TX.region);(focus (simp only []<;>exact rfl));(focus rfl);(try dsimp only)))
              cases hr
              refine ⟨.inr rfl,_,(by simp only [];exact rfl),?_⟩
              exact Wk.ren [] rfl .nil (by (repeat (first|exact RNs.nil|refine RNs.cons (.keep rfl rfl) ?_)))
          · try dsimp only
            exact Wk.ren [] rfl .nil (by (repeat (first|exact RNs.nil|refine RNs.cons .junk ?_|refine RNs.cons (.keep rfl rfl) ?_)))
    · rw [if_neg (by rw [h2];exact Bool.false_ne_true)] at hr
      repeat (first|(with_reducible first|refine mv ?_|refine TO.nil ?_)|((with_reducible first|apply TO.pk|apply TO.mv|apply TO.asg);(repeat (focus (show _ = _;first|exact k2 rfl|(simp only [zz]<;>exact rfl))));(with_reducible apply TO.here))|((with_reducible apply TO.skip1);(repeat (focus (show _ = _;(simp only [zz,twant,zp,zs,h2]<;>exact rfl))));(with_reducible apply TO.here))|((with_reducible apply TX.region);(focus (simp only []<;>exact rfl));(focus rfl);(try dsimp only))|((with_reducible apply TX.cond_true);(focus rfl);(focus (rfl))))
      cases hr
      refine ⟨.inr rfl,_,(by simp only [];exact rfl),?_⟩
      exact Wk.ren [] rfl .nil (by (repeat (first|exact RNs.nil|refine RNs.cons (.keep rfl rfl) ?_)))
  rfl

end Go.Rex

namespace Go.Rex
open Go.Proofs
open Go Go.Rex Go.RowKit
set_option maxRecDepth 100000
set_option maxHeartbeats 200000
theorem ref02_SpeedErr_spec {v1 : Int} {v2 : Int} (hr : ref02_SpeedErr v1 = some (v2)) : Spec (lim Tryz.prog) 16 [.v (.int .i64 v1)] ⟨[.v (.int .i64 v2)],[]⟩:=by
  unfold ref02_SpeedErr at hr
  apply Spec.fn Tryz.func16 rfl
  focus (simp [Tryz.f16]<;>exact rfl)
  focus
    repeat (first|(with_reducible first|refine mv ?_|refine TO.nil ?_)|((with_reducible first|apply TO.asg|apply TO.mv);(repeat (focus (show _ = _;first|exact k2 rfl|(simp only [zz]<;>exact rfl))));(with_reducible apply TO.here))|((with_reducible apply TX.region);(focus (simp only []<;>exact rfl));(focus rfl);(try dsimp only)))
    obtain ⟨v3,h1,hr⟩:=Option.bind_eq_some_iff.1 hr
    try dsimp only at hr
    apply TO.cal (by first|rfl|(simp only [twant,z1,z7]<;>rfl)) rfl goFn18 (base_Within_spec h1) rfl rfl rfl
    (repeat (focus (show _ = _;(simp only [zz,shift]<;>exact rfl))))
    with_reducible apply TO.here
    apply TO.pop1 (by first|rfl|(simp only [twant,z1,z7]<;>rfl)) (pop_not rfl)
    (repeat (focus (show _ = _;(simp only [zz]<;>exact rfl))))
    with_reducible apply TO.here
    repeat (first|(with_reducible first|refine mv ?_|refine TO.nil ?_))
    rcases Bool.eq_false_or_eq_true (v3) with h2|h2
    · rw [if_pos h2] at hr
      repeat (first|(with_reducible first|refine mv ?_|refine TO.nil ?_)|((with_reducible apply TO.asg);(repeat (focus (show _ = _;first|exact k2 rfl|(simp only [zz,h2]<;>exact rfl))));(with_reducible apply TO.here))|((with_reducible apply TX.region);(focus (simp only []<;>exact rfl));(focus rfl);(try dsimp only))|((with_reducible apply TX.cond_false);(focus rfl);(focus ((simp only [z1,Bool.not_true,h2];done)))))
      cases hr
      refine ⟨.inr rfl,_,(by simp only [];exact rfl),?_⟩
      exact Wk.ren [] rfl .nil (by (repeat (first|exact RNs.nil|refine RNs.cons (.keep rfl rfl) ?_)))
    · rw [if_neg (by rw [h2];exact Bool.false_ne_true)] at hr
      repeat (first|(with_reducible first|refine mv ?_|refine TO.nil ?_)|((with_reducible apply TO.asg);(repeat (focus (show _ = _;first|exact k2 rfl|(simp only [zz,h2]<;>exact rfl))));(with_reducible apply TO.here))|((with_reducible apply TX.region);(focus (simp only []<;>exact rfl));(focus rfl);(try dsimp only))|((with_reducible apply TX.cond_true);(focus rfl);(focus ((simp only [z1,Bool.not_false,h2];done)))))
      cases hr
      refine ⟨.inr rfl,_,(by simp only [];exact rfl),?_⟩
      exact Wk.ren [] rfl .nil (by (repeat (first|exact RNs.nil|refine RNs.cons (.keep rfl rfl) ?_)))
  rfl

end Go.Rex

namespace Go.Rex
open Go.Proofs
open Go Go.Rex Go.RowKit
set_option maxRecDepth 100000
set_option maxHeartbeats 200000
theorem base_Floor_spec {v1 : Int} {v2 : Int} {v3 : Int} (hr : base_Floor v1 v2 = some (v3)) : Spec (lim Tryz.prog) 49 [.v (.int .i64 v1),.v (.int .i64 v2)] ⟨[.v (.int .i64 v3)],[]⟩:=by
  unfold base_Floor at hr
  apply Spec.fn Tryz.func49 rfl
  focus (simp [Tryz.f49]<;>exact rfl)
  focus
    repeat (first|(with_reducible first|refine mv ?_|refine TO.nil ?_)|((with_reducible first|apply TO.asg|apply TO.mv);(repeat (focus (show _ = _;first|exact k2 rfl|(simp only [zz]<;>exact rfl))));(with_reducible apply TO.here))|((with_reducible apply TX.region);(focus (simp only []<;>exact rfl));(focus rfl);(try dsimp only)))
    by_cases h1 : v2 = 0
    · rw [if_pos h1] at hr
      cases hr
    · rw [if_neg h1] at hr
      repeat (first|(with_reducible first|refine mv ?_|refine TO.nil ?_)|((with_reducible first|apply TO.bin|apply TO.asg|apply TO.mv);(repeat (focus (show _ = _;first|exact k2 rfl|(simp only [zz,h1]<;>exact rfl))));(with_reducible apply TO.here))|((with_reducible apply TX.region);(focus (simp only []<;>exact rfl));(focus rfl);(try dsimp only)))
      rcases Bool.eq_false_or_eq_true ((decide ((v1.tmod v2) < 0))) with h2|h2
      · rw [if_pos h2] at hr
        repeat (first|(with_reducible first|refine mv ?_|refine TO.nil ?_)|((with_reducible first|apply TO.mv|apply TO.bin|apply TO.asg);(repeat (focus (show _ = _;first|exact k2 rfl|(simp only [zz,h2]<;>exact rfl))));(with_reducible apply TO.here))|((with_reducible apply TX.region);(focus (simp only []<;>exact rfl));(focus rfl);(try dsimp only))|((with_reducible apply TX.cond_true);(focus rfl);(focus ((simp only [z1,h2];done)))))
        cases hr
        refine ⟨.inr rfl,_,(by simp only [];exact rfl),?_⟩
        exact Wk.ren [] rfl .nil (by (repeat (first|exact RNs.nil|refine RNs.cons (.keep rfl rfl) ?_)))
      · rw [if_neg (by rw [h2];exact Bool.false_ne_true)] at hr
        repeat (first|(with_reducible first|refine mv ?_|refine TO.nil ?_)|((with_reducible first|apply TO.mv|apply TO.asg);(repeat (focus (show _ = _;first|exact k2 rfl|(simp only [zz,h2]<;>exact rfl))));(with_reducible apply TO.here))|((with_reducible apply TX.region);(focus (simp only []<;>exact rfl));(focus rfl);(try dsimp only))|((with_reducible apply TX.cond_false);(focus rfl);(focus ((simp only [z1,h2];done)))))
        cases hr
        refine ⟨.inr rfl,_,(by simp only [];exact rfl),?_⟩
        exact Wk.ren [] rfl .nil (by (repeat (first|exact RNs.nil|refine RNs.cons (.keep rfl rfl) ?_)))
  rfl

end Go.Rex

namespace Go.Rex
open Go.Proofs
open Go Go.Rex Go.RowKit
set_option maxRecDepth 100000
set_option maxHeartbeats 200000
theorem base_Ceil_spec {v1 : Int} {v2 : Int} {v3 : Int} (hr : base_Ceil v1 v2 = some (v3)) : Spec (lim Tryz.prog) 50 [.v (.int .i64 v1),.v (.int .i64 v2)] ⟨[.v (.int .i64 v3)],[]⟩:=by
  unfold base_Ceil at hr
  apply Spec.fn Tryz.func50 rfl
  focus (simp [Tryz.f50]<;>exact rfl)
  focus
    repeat (first|(with_reducible first|refine mv ?_|refine TO.nil ?_)|((with_reducible first|apply TO.asg|apply TO.mv);(repeat (focus (show _ = _;first|exact k2 rfl|(simp only [zz]<;>exact rfl))));(with_reducible apply TO.here))|((with_reducible apply TX.region);(focus (simp only []<;>exact rfl));(focus rfl);(try dsimp only)))
    apply TO.pop1 (by first|rfl|(simp only [twant,z1,z7]<;>rfl)) (pop_neg rfl)
    (repeat (focus (show _ = _;(simp only [zz]<;>exact rfl))))
    with_reducible apply TO.here
    repeat (first|((with_reducible apply TO.mv);(repeat (focus (show _ = _;first|exact k2 rfl|(simp only [zz]<;>exact rfl))));(with_reducible apply TO.here)))
    obtain ⟨v4,h1,hr⟩:=Option.bind_eq_some_iff.1 hr
    try dsimp only at hr
    apply TO.cal (by first|rfl|(simp only [twant,z1,z7]<;>rfl)) rfl goFn49 (base_Floor_spec h1) rfl rfl rfl
    (repeat (focus (show _ = _;(simp only [zz,shift]<;>exact rfl))))
    with_reducible apply TO.here
    apply TO.pop1 (by first|rfl|(simp only [twant,z1,z7]<;>rfl)) (pop_neg rfl)
    (repeat (focus (show _ = _;(simp only [zz]<;>exact rfl))))
    with_reducible apply TO.here
    repeat (first|(with_reducible first|refine mv ?_|refine TO.nil ?_)|((with_reducible apply TO.asg);(repeat (focus (show _ = _;first|exact k2 rfl|(simp only [zz]<;>exact rfl))));(with_reducible apply TO.here)))
    cases hr
    refine ⟨.inr rfl,_,(by simp only [];exact rfl),?_⟩
    exact wr [] rfl .nil
  rfl

end Go.Rex

namespace Go.Rex
open Go.Proofs
open Go Go.Rex Go.RowKit
set_option maxRecDepth 100000
set_option maxHeartbeats 200000
def y30:=an @ag3 <| an @ag30 <| an @cs30 <| an @fd30_0 <| an @fd30_1 <| an @ok30 <| an @st30 <| @zc30
theorem ref02_DelayOf_spec {v1 : Int} {v2 : Int} {v3 : Int} {v4 : Int} (hr : ref02_DelayOf v1 v2 = some (v3,v4)) : Spec (lim Tryz.prog) 17 [.v (.int .i64 v1),.v (.int .i64 v2)] ⟨[.agg [.v (.int .i64 v3),.v (.int .i64 v4)]],[]⟩:=by
  unfold ref02_DelayOf at hr
  apply Spec.fn Tryz.func17 rfl
  focus (simp [Tryz.f17]<;>exact rfl)
  focus
    repeat (first|(with_reducible first|refine mv ?_|refine TO.nil ?_)|((with_reducible first|apply TO.al|apply TO.mv);(repeat (focus (show _ = _;first|exact k2 rfl|(simp only [zz,y30]<;>exact rfl))));(with_reducible apply TO.here))|((with_reducible apply TX.region);(focus (simp only []<;>exact rfl));(focus rfl);(try dsimp only)))
    obtain ⟨⟨v5,v6⟩,h1,hr⟩:=Option.bind_eq_some_iff.1 hr
    try dsimp only at hr
    apply TO.cal (by first|rfl|(simp only [twant,z1,z7]<;>rfl)) rfl goFn14 (ref02_LengthOf_spec h1) rfl rfl rfl
    (repeat (focus (show _ = _;(simp only [zz,Nat.reduceAdd,shift]<;>exact rfl))))
    with_reducible apply TO.here
    repeat (first|(with_reducible first|refine mv ?_|refine TO.nil ?_)|((with_reducible first|apply TO.al|apply TO.sv);(repeat (focus (show _ = _;first|exact k1 rfl|exact k2 rfl|(simp only [zz,y30,Nat.reduceAdd]<;>exact rfl))));(with_reducible apply TO.here))|((with_reducible first|apply TD.fa|apply TD.ld|apply TD.bin|apply TD.mv);(repeat (focus (show _ = _;first|exact k2 rfl|(simp only [zz,y30,Nat.reduceAdd,tfieldAddr,tload,rowOf,partT]<;>exact rfl)|exact rfl)));(with_reducible refine TD.here ?_))|((with_reducible apply TX.drawn);(focus decide +kernel);(focus (simp only []<;>exact rfl));(focus exact rfl);(try dsimp only)))
    obtain ⟨v7,h2,hr⟩:=Option.bind_eq_some_iff.1 hr
    try dsimp only at hr
    first|apply TD.cal (by first|rfl|(simp only [twant,z1,z7]<;>rfl)) rfl goFn49 (base_Floor_spec h2) rfl rfl rfl|apply TD.calw (by first|rfl|(simp only [twant,z1,z7]<;>rfl)) rfl goFn49 (base_Floor_spec h2) rfl rfl rfl rfl
    (repeat (focus (show _ = _;(simp only [zz,shift]<;>exact rfl))))
    with_reducible apply TD.here
    repeat (first|((with_reducible first|apply TD.fa|apply TD.ld|apply TD.bin|apply TD.mv);(repeat (focus (show _ = _;first|exact k2 rfl|(simp only [zz,y30,Nat.reduceAdd,tfieldAddr,tload,rowOf,partT]<;>exact rfl)|exact rfl)));(with_reducible refine TD.here ?_)))
    obtain ⟨v8,h3,hr⟩:=Option.bind_eq_some_iff.1 hr
    try dsimp only at hr
    first|apply TD.cal (by first|rfl|(simp only [twant,z1,z7]<;>rfl)) rfl goFn50 (base_Ceil_spec h3) rfl rfl rfl|apply TD.calw (by first|rfl|(simp only [twant,z1,z7]<;>rfl)) rfl goFn50 (base_Ceil_spec h3) rfl rfl rfl rfl
    (repeat (focus (show _ = _;(simp only [zz,shift]<;>exact rfl))))
    with_reducible apply TD.here
    repeat (first|(with_reducible first|refine mv ?_|refine TD.nil ?_)|((with_reducible first|apply TD.bld|apply TD.sv);(repeat (focus (show _ = _;first|exact k1 rfl|exact k2 rfl|(simp only [zz,y30,Nat.reduceAdd,Nat.reduceLeDiff,tbuild,tfill]<;>exact rfl))));(with_reducible refine TD.here ?_)))
    cases hr
    refine ⟨.inr rfl,_,(by simp only [];exact rfl),?_⟩
    exact wr [] rfl .nil
  rfl

end Go.Rex

namespace Go.Rex
open Go.Proofs
open Go Go.Rex Go.RowKit
set_option maxRecDepth 100000
set_option maxHeartbeats 200000
def y31:=an @ag3 <| an @ag30 <| an @cs30 <| an @fd30_0 <| an @fd30_1 <| an @ok30 <| an @st30 <| @zc30
theorem ref02_SamplesOf_spec {v1 : Int} {v2 : Int} {v3 : Int} {v4 : Int} {v5 : Int} (hr : ref02_SamplesOf v1 v2 v3 = some (v4,v5)) : Spec (lim Tryz.prog) 19 [.v (.int .i64 v1),.v (.int .i64 v2),.v (.int .i64 v3)] ⟨[.agg [.v (.int .i64 v4),.v (.int .i64 v5)]],[]⟩:=by
  unfold ref02_SamplesOf at hr
  apply Spec.fn Tryz.func19 rfl
  focus (simp [Tryz.f19]<;>exact rfl)
  focus
    repeat (first|(with_reducible first|refine mv ?_|refine TO.nil ?_)|((with_reducible first|apply TO.al|apply TO.mv);(repeat (focus (show _ = _;first|exact k2 rfl|(simp only [zz,y31]<;>exact rfl))));(with_reducible apply TO.here))|((with_reducible apply TX.region);(focus (simp only []<;>exact rfl));(focus rfl);(try dsimp only)))
    obtain ⟨⟨v6,v7⟩,h1,hr⟩:=Option.bind_eq_some_iff.1 hr
    try dsimp only at hr
    apply TO.cal (by first|rfl|(simp only [twant,z1,z7]<;>rfl)) rfl goFn17 (ref02_DelayOf_spec h1) rfl rfl rfl
    (repeat (focus (show _ = _;(simp only [zz,Nat.reduceAdd,shift]<;>exact rfl))))
    with_reducible apply TO.here
    repeat (first|(with_reducible first|refine mv ?_|refine TO.nil ?_)|((with_reducible first|apply TO.al|apply TO.sv);(repeat (focus (show _ = _;first|exact k1 rfl|exact k2 rfl|(simp only [zz,y31,Nat.reduceAdd]<;>exact rfl))));(with_reducible apply TO.here))|((with_reducible first|apply TD.fa|apply TD.ld|apply TD.mv|apply TD.bin);(repeat (focus (show _ = _;first|exact k2 rfl|(simp only [zz,y31,Nat.reduceAdd,tfieldAddr,tload,rowOf,partT]<;>exact rfl)|exact rfl)));(with_reducible refine TD.here ?_))|((with_reducible apply TX.drawn);(focus decide +kernel);(focus (simp only []<;>exact rfl));(focus exact rfl);(try dsimp only)))
    obtain ⟨v8,h2,hr⟩:=Option.bind_eq_some_iff.1 hr
    try dsimp only at hr
    first|apply TD.cal (by first|rfl|(simp only [twant,z1,z7]<;>rfl)) rfl goFn49 (base_Floor_spec h2) rfl rfl rfl|apply TD.calw (by first|rfl|(simp only [twant,z1,z7]<;>rfl)) rfl goFn49 (base_Floor_spec h2) rfl rfl rfl rfl
    (repeat (focus (show _ = _;(simp only [zz,shift]<;>exact rfl))))
    with_reducible apply TD.here
    repeat (first|((with_reducible first|apply TD.fa|apply TD.ld|apply TD.mv|apply TD.bin);(repeat (focus (show _ = _;first|exact k2 rfl|(simp only [zz,y31,Nat.reduceAdd,tfieldAddr,tload,rowOf,partT]<;>exact rfl)|exact rfl)));(with_reducible refine TD.here ?_)))
    obtain ⟨v9,h3,hr⟩:=Option.bind_eq_some_iff.1 hr
    try dsimp only at hr
    first|apply TD.cal (by first|rfl|(simp only [twant,z1,z7]<;>rfl)) rfl goFn50 (base_Ceil_spec h3) rfl rfl rfl|apply TD.calw (by first|rfl|(simp only [twant,z1,z7]<;>rfl)) rfl goFn50 (base_Ceil_spec h3) rfl rfl rfl rfl
    (repeat (focus (show _ = _;(simp only [zz,shift]<;>exact rfl))))
    with_reducible apply TD.here
    repeat (first|(with_reducible first|refine mv ?_|refine TD.nil ?_)|((with_reducible first|apply TD.bld|apply TD.sv);(repeat (focus (show _ = _;first|exact k1 rfl|exact k2 rfl|(simp only [zz,y31,Nat.reduceAdd,Nat.reduceLeDiff,tbuild,tfill]<;>exact rfl))));(with_reducible refine TD.here ?_)))
    cases hr
    refine ⟨.inr rfl,_,(by simp only [];exact rfl),?_⟩
    exact wr [] rfl .nil
  rfl

end Go.Rex

namespace Go.Rex
open Go.Proofs
open Go Go.Rex Go.RowKit
set_option maxRecDepth 100000

end Go.Rex

namespace Go.Rex
open Go.Proofs
open Go Go.Rex Go.RowKit
set_option maxRecDepth 100000
set_option maxHeartbeats 4000000
def y32:=an @ag22 <| an @ag23 <| an @ag25 <| an @ag3 <| an @ag30 <| an @cs25 <| an @cs30 <| an @eqg30 <| an @eqs30 <| an @fd25_0 <| an @fd25_1 <| an @fd25_2 <| an @fd27_0 <| an @fd27_1 <| an @ok25 <| an @ok30 <| an @so22 <| an @so23 <| an @st25 <| an @st30 <| an @zc25 <| @zc30
theorem law02_ImageDelays_law {v1 : (List Int)} {v2 : (List (Int × Int × Int × Int))} {v3 : Int} {v4 : Int} {v5 : Int} {v6 : Int} (hr : law02_ImageDelays v1 v2 v3 v4 v5 v6 = some true) {Fz : Nat → Prop} {h : List Blk} {vs : List Value} (hfz : ∀ n, Fz n → n < h.length) (hargs : VLs Fz h noL [.agg [.list 1 (v1.map e_i), .list 4 (v2.map e_iiii), .v (.int .i64 v3)], .agg [.v (.int .i64 v4), .v (.int .i64 v5), .v (.int .i64 v6)]] vs)
    {B lo : Nat} {D : Nat → Prop} {m : NMap} {w : World} {args' : List Value} (hrel : Rel B lo D m h w) (hlo : lo ≤ h.length) (hargs' : VRs D m vs args') : Calls Tryz.prog 3 ⟨args'⟩ w (fun e w'=>e = .returned (.bool true) ∧ Below w.heap.size w w'):=by
  unfold law02_ImageDelays at hr
  refine law_tex follows awake_true Tryz.func3 rfl (tm0:=.agg [.list 1 (v1.map e_i),.list 4 (v2.map e_iiii),.v (.int .i64 v3)] :: .agg [.v (.int .i64 v4),.v (.int .i64 v5),.v (.int .i64 v6)] :: .junk :: .junk :: .junk :: .junk :: .junk :: .junk :: .junk :: .junk :: .junk :: .junk :: .junk :: .junk :: .junk :: .junk :: .junk :: .junk :: .junk :: .junk :: .junk :: .junk :: .junk :: .junk :: .junk :: .junk :: .junk :: .junk :: .junk :: .junk :: .junk :: .junk :: .junk :: .junk :: .junk :: .junk :: .junk :: .junk :: .junk :: .junk :: .junk :: .junk :: .junk :: .junk :: .junk :: .junk :: .junk :: .junk :: .junk :: .junk :: .junk :: .junk :: .junk :: .junk :: .junk :: .junk :: .junk :: .junk :: .junk :: .junk :: .junk :: .junk :: .junk :: .junk :: .junk :: .junk :: .junk :: .junk :: .junk :: .junk :: .junk :: .junk :: .junk :: .junk :: .junk :: .junk :: .junk :: .junk :: .junk :: .junk :: .junk :: .junk :: .junk :: .junk :: .junk :: .junk :: .junk :: .junk :: .junk :: .junk :: .junk :: .junk :: .junk :: .junk :: .junk :: .junk :: .junk :: .junk :: .junk :: .junk :: .junk :: .junk :: .junk :: .junk :: .junk :: .junk :: .junk :: .junk :: .junk :: .junk :: .junk :: .junk :: .junk :: .junk :: .junk :: .junk :: .junk :: .junk :: .junk :: .junk :: .junk :: .junk :: .junk :: .junk :: .junk :: .junk :: .junk :: .junk :: .junk :: .junk :: .junk :: .junk :: .junk :: .junk :: .junk :: .junk :: .junk :: .junk :: .junk :: .junk :: .junk :: .junk :: .junk :: .junk :: .junk :: .junk :: .junk :: .junk :: .junk :: .junk :: .junk :: .junk :: .junk :: .junk :: .junk :: .junk :: .junk :: .junk :: .junk :: .junk :: .junk :: .junk :: .junk :: .junk :: .junk :: .junk :: .junk :: .junk :: .junk :: .junk :: .junk :: .junk :: .junk :: .junk :: .junk :: .junk :: .junk :: .junk :: .junk :: .junk :: .junk :: .junk :: .junk :: .junk :: .junk :: .junk :: .junk :: .junk :: .junk :: .junk :: .junk :: .junk :: []) (by simp [Tryz.f3]<;>exact rfl) ?_ hfz hargs hrel hlo hargs'
  repeat (first|(with_reducible first|refine mv ?_|refine TO.nil ?_)|((with_reducible first|apply TO.bf|apply TO.asg);(repeat (focus (show _ = _;first|exact k1 rfl|exact k2 rfl|(simp only [zz]<;>exact rfl)|exact rfl)));(with_reducible apply TO.here))|((with_reducible apply TX.region);(focus (simp only []<;>exact rfl));(focus rfl);(try dsimp only)))
  apply TO.cal (by first|rfl|(simp only [twant,z1,z7]<;>rfl)) rfl goFn6 Spec.awake rfl rfl rfl
  (repeat (focus (show _ = _;(simp only [zz,shift]<;>exact rfl))))
  with_reducible apply TO.here
  apply TO.pop1 (by first|rfl|(simp only [twant,z1,z7]<;>rfl)) (pop_not rfl)
  (repeat (focus (show _ = _;(simp only [zz]<;>exact rfl))))
  with_reducible apply TO.here
  repeat (first|(with_reducible first|refine mv ?_|refine TO.nil ?_)|((with_reducible first|apply TO.fa|apply TO.ld|apply TO.len|apply TO.bin|apply TO.mv);(repeat (focus (show _ = _;first|exact k2 rfl|(simp only [zz,y32,Nat.reduceAdd,tfieldAddr,tload,rowOf,partT,tlen]<;>exact rfl)|exact rfl)));(with_reducible apply TO.here))|((with_reducible apply TX.region);(focus (simp only []<;>exact rfl));(focus rfl);(try dsimp only))|((with_reducible apply TX.cond_false);(focus rfl);(focus (rfl))))
  rcases Bool.eq_false_or_eq_true ((decide ((v1.length : Int) > 6))) with h1|h1
  · rw [if_pos h1] at hr
    repeat (first|(with_reducible first|refine mv ?_|refine TO.nil ?_)|((with_reducible first|apply TO.pk|apply TO.asg);(repeat (focus (show _ = _;first|exact k2 rfl|(simp only [zz]<;>exact rfl))));(with_reducible apply TO.here))|((with_reducible apply TO.skip1);(repeat (focus (show _ = _;(simp only [zz,twant,zp,zs,h1]<;>exact rfl))));(with_reducible apply TO.here))|((with_reducible apply TX.region);(focus (simp only []<;>exact rfl));(focus rfl);(try dsimp only))|((with_reducible apply TX.cond_true);(focus rfl);(focus (rfl))))
    have hb:=Option.some.inj hr
    first|(cases hb;done)|(refine ⟨.inr rfl,?_⟩;first|(simp only []<;>exact rfl)|(simp only [h1] at hb;simp only [tresAll,tres,z1,hb,Option.map_some]<;>exact rfl))
  · rw [if_neg (by rw [h1];exact Bool.false_ne_true)] at hr
    repeat (first|(with_reducible first|refine mv ?_|refine TO.nil ?_)|((with_reducible first|apply TO.fa|apply TO.ld|apply TO.len|apply TO.bin|apply TO.pk);(repeat (focus (show _ = _;first|exact k2 rfl|(simp only [zz,y32,Nat.reduceAdd,tfieldAddr,tload,rowOf,partT,tlen,h1]<;>exact rfl)|exact rfl)));(with_reducible apply TO.here)))
    rcases Bool.eq_false_or_eq_true ((decide ((v2.length : Int) > 6))) with h2|h2
    · rw [if_pos h2] at hr
      repeat (first|(with_reducible first|refine mv ?_|refine TO.nil ?_)|((with_reducible apply TO.asg);(repeat (focus (show _ = _;first|exact k2 rfl|(simp only [zz,h2]<;>exact rfl))));(with_reducible apply TO.here))|((with_reducible apply TX.region);(focus (simp only []<;>exact rfl));(focus rfl);(try dsimp only))|((with_reducible apply TX.cond_true);(focus rfl);(focus ((simp only [z1,Bool.not_true,h2];done)))))
      have hb:=Option.some.inj hr
      first|(cases hb;done)|(refine ⟨.inr rfl,?_⟩;first|(simp only []<;>exact rfl)|(simp only [h1,h2] at hb;simp only [tresAll,tres,z1,hb,Option.map_some]<;>exact rfl))
    · rw [if_neg (by rw [h2];exact Bool.false_ne_true)] at hr
      repeat (first|with_reducible refine mv ?_|((with_reducible apply TO.ld);(repeat (focus (show _ = _;first|exact k2 rfl|(simp only [zz,y32,Nat.reduceAdd,Nat.reduceLeDiff,tload,rowOf,partT,h2]<;>exact rfl)|exact rfl)));(with_reducible apply TO.here))|((with_reducible apply TX.region);(focus (simp only []<;>exact rfl));(focus rfl);(try dsimp only))|((with_reducible apply TX.cond_false);(focus rfl);(focus ((simp only [z1,Bool.not_true,h2];done)))))
      obtain ⟨⟨v8,v9,v10⟩,h3,hr⟩:=Option.bind_eq_some_iff.1 hr
      try dsimp only at hr
      apply TO.cal (by first|rfl|(simp only [twant,z1,z7,h1,h2]<;>rfl)) rfl goFn8 (Spec.ov (ref02_CopyPath_spec h3) (by decide)) rfl rfl rfl
      (repeat (focus (show _ = _;(simp only [zz,Nat.reduceAdd,shift]<;>exact rfl))))
      with_reducible apply TO.here
      obtain ⟨⟨v11,v12,v13⟩,h4,hr⟩:=Option.bind_eq_some_iff.1 hr
      try dsimp only at hr
      apply TO.lok (by first|rfl|(simp only [twant,z1,z7,h1,h2]<;>rfl)) rfl goFn7 (Spec.ov (image_LengthOf_spec h4) (by decide)) (by simp only [view,z1,z3,tmlc]<;>rfl) rfl rfl (by simp [])
      (repeat (focus (show _ = _;(simp only [zz,Nat.reduceAdd,shift]<;>exact rfl))))
      with_reducible apply TO.here
      repeat (first|(with_reducible first|refine mv ?_|refine TO.nil ?_)|((with_reducible first|apply TO.mv|apply TO.ext|apply TO.al|apply TO.sv|apply TO.asg);(repeat (focus (show _ = _;first|exact k1 rfl|exact k2 rfl|(simp only [zz,y32,Nat.reduceAdd]<;>exact rfl))));(with_reducible apply TO.here))|((with_reducible apply TD.ld);(repeat (focus (show _ = _;first|exact k2 rfl|(simp only [zz,y32,Nat.reduceAdd,Nat.reduceLeDiff,tload,rowOf,partT]<;>exact rfl)|exact rfl)));(with_reducible refine TD.here ?_))|((with_reducible apply TX.drawn);(focus decide +kernel);(focus (simp only []<;>exact rfl));(focus exact rfl);(try dsimp only)))
      obtain ⟨⟨v14,v15,v16⟩,h5,hr⟩:=Option.bind_eq_some_iff.1 hr
      try dsimp only at hr
      first|apply TD.cal (by first|rfl|(simp only [twant,z1,z7,h1,h2]<;>rfl)) rfl goFn8 (Spec.ov (ref02_CopyPath_spec h5) (by decide)) rfl rfl rfl|apply TD.calw (by first|rfl|(simp only [twant,z1,z7,h1,h2]<;>rfl)) rfl goFn8 (Spec.ov (ref02_CopyPath_spec h5) (by decide)) rfl rfl rfl rfl
      (repeat (focus (show _ = _;(simp only [zz,Nat.reduceAdd,shift]<;>exact rfl))))
      with_reducible apply TD.here
      repeat (first|((with_reducible first|apply TD.fa|apply TD.ld);(repeat (focus (show _ = _;first|exact k2 rfl|(simp only [zz,y32,Nat.reduceAdd,tfieldAddr,tload,rowOf,partT]<;>exact rfl)|exact rfl)));(with_reducible refine TD.here ?_)))
      obtain ⟨⟨v17,v18,v19⟩,h6,hr⟩:=Option.bind_eq_some_iff.1 hr
      try dsimp only at hr
      first|apply TD.lok (by first|rfl|(simp only [twant,z1,z7,h1,h2]<;>rfl)) rfl goFn9 (Spec.ov (image_DelayOf_spec h6) (by decide)) (by simp only [view,z1,z3,tmlc]<;>rfl) rfl rfl (by simp [])|apply TD.lokw (by first|rfl|(simp only [twant,z1,z7,h1,h2]<;>rfl)) rfl goFn9 (Spec.ov (image_DelayOf_spec h6) (by decide)) (by simp only [view,z1,z3,zl,tml,tmlc,List.length_set,Nat.reduceEqDiff,if_false]<;>rfl) rfl rfl (by simp [clTB,cl,e_i,e_iiii]) rfl
      (repeat (focus (show _ = _;(simp only [zz,Nat.reduceAdd,shift]<;>exact rfl))))
      with_reducible apply TD.here
      repeat (first|(with_reducible first|refine mv ?_|refine TD.nil ?_)|((with_reducible first|apply TD.mv|apply TD.ext|apply TD.al|apply TD.sv|apply TD.asg|apply TD.ld);(repeat (focus (show _ = _;first|exact k1 rfl|exact k2 rfl|(simp only [zz,y32,Nat.reduceAdd,Nat.reduceLeDiff,tload,rowOf,partT]<;>exact rfl)|exact rfl)));(with_reducible refine TD.here ?_))|((with_reducible apply TX.drawn);(focus decide +kernel);(focus (simp only []<;>exact rfl));(focus exact rfl);(try dsimp only)))
      obtain ⟨⟨v20,v21,v22⟩,h7,hr⟩:=Option.bind_eq_some_iff.1 hr
      try dsimp only at hr
      first|apply TD.cal (by first|rfl|(simp only [twant,z1,z7,h1,h2]<;>rfl)) rfl goFn8 (Spec.ov (ref02_CopyPath_spec h7) (by decide)) rfl rfl rfl|apply TD.calw (by first|rfl|(simp only [twant,z1,z7,h1,h2]<;>rfl)) rfl goFn8 (Spec.ov (ref02_CopyPath_spec h7) (by decide)) rfl rfl rfl rfl
      (repeat (focus (show _ = _;(simp only [zz,Nat.reduceAdd,shift]<;>exact rfl))))
      with_reducible apply TD.here
      repeat (first|((with_reducible first|apply TD.fa|apply TD.ld);(repeat (focus (show _ = _;first|exact k2 rfl|(simp only [zz,y32,Nat.reduceAdd,tfieldAddr,tload,rowOf,partT]<;>exact rfl)|exact rfl)));(with_reducible refine TD.here ?_)))
      obtain ⟨⟨v23,v24,v25⟩,h8,hr⟩:=Option.bind_eq_some_iff.1 hr
      try dsimp only at hr
      first|apply TD.lok (by first|rfl|(simp only [twant,z1,z7,h1,h2]<;>rfl)) rfl goFn10 (Spec.ov (image_SamplesOf_spec h8) (by decide)) (by simp only [view,z1,z3,tmlc]<;>rfl) rfl rfl (by simp [])|apply TD.lokw (by first|rfl|(simp only [twant,z1,z7,h1,h2]<;>rfl)) rfl goFn10 (Spec.ov (image_SamplesOf_spec h8) (by decide)) (by simp only [view,z1,z3,zl,tml,tmlc,List.length_set,Nat.reduceEqDiff,if_false]<;>rfl) rfl rfl (by simp [clTB,cl,e_i,e_iiii]) rfl
      (repeat (focus (show _ = _;(simp only [zz,Nat.reduceAdd,shift]<;>exact rfl))))
      with_reducible apply TD.here
      repeat (first|with_reducible refine mv ?_|((with_reducible apply TO.ld);(repeat (focus (show _ = _;first|exact k2 rfl|(simp only [zz,y32,Nat.reduceAdd,Nat.reduceLeDiff,tload,rowOf,partT]<;>exact rfl)|exact rfl)));(with_reducible apply TO.here))|((with_reducible apply TX.region);(focus (simp only []<;>exact rfl));(focus rfl);(try dsimp only))|with_reducible refine TD.nil ?_|((with_reducible first|apply TD.mv|apply TD.ext|apply TD.al|apply TD.sv|apply TD.asg);(repeat (focus (show _ = _;first|exact k1 rfl|exact k2 rfl|(simp only [zz,y32,Nat.reduceAdd]<;>exact rfl))));(with_reducible refine TD.here ?_)))
      obtain ⟨⟨v26,v27,v28⟩,h9,hr⟩:=Option.bind_eq_some_iff.1 hr
      try dsimp only at hr
      apply TO.cal (by first|rfl|(simp only [twant,z1,z7,h1,h2]<;>rfl)) rfl goFn8 (Spec.ov (ref02_CopyPath_spec h9) (by decide)) rfl rfl rfl
      (repeat (focus (show _ = _;(simp only [zz,Nat.reduceAdd,shift]<;>exact rfl))))
      with_reducible apply TO.here
      obtain ⟨⟨v29,v30,v31,v32⟩,h10,hr⟩:=Option.bind_eq_some_iff.1 hr
      try dsimp only at hr
      apply TO.lok (by first|rfl|(simp only [twant,z1,z7,h1,h2]<;>rfl)) rfl goFn11 (Spec.ov (image_Turned_spec h10) (by decide)) (by simp only [view,z1,z3,tmlc]<;>rfl) rfl rfl (by simp [clTB,cl,e_i,e_iiii])
      (repeat (focus (show _ = _;(simp only [zz,Nat.reduceAdd,shift]<;>exact rfl))))
      with_reducible apply TO.here
      repeat (first|(with_reducible first|refine mv ?_|refine TO.nil ?_)|((with_reducible first|apply TO.mv|apply TO.ext|apply TO.al|apply TO.sv|apply TO.asg|apply TO.ld);(repeat (focus (show _ = _;first|exact k1 rfl|exact k2 rfl|(simp only [zz,y32,Nat.reduceAdd,Nat.reduceLeDiff,tload,rowOf,partT]<;>exact rfl)|exact rfl)));(with_reducible apply TO.here))|((with_reducible apply TX.region);(focus (simp only []<;>exact rfl));(focus rfl);(try dsimp only)))
      obtain ⟨v33,h11,hr⟩:=Option.bind_eq_some_iff.1 hr
      try dsimp only at hr
      apply TO.cal (by first|rfl|(simp only [twant,z1,z7,h1,h2]<;>rfl)) rfl goFn12 (Spec.ov (ref02_PathErr_spec h11) (by decide)) rfl rfl rfl
      (repeat (focus (show _ = _;(simp only [zz,shift]<;>exact rfl))))
      with_reducible apply TO.here
      repeat (first|(with_reducible first|refine mv ?_|refine TO.nil ?_)|((with_reducible first|apply TO.asg|apply TO.mv|apply TO.bin);(repeat (focus (show _ = _;first|exact k2 rfl|(simp only [zz]<;>exact rfl))));(with_reducible apply TO.here))|((with_reducible apply TX.region);(focus (simp only []<;>exact rfl));(focus rfl);(try dsimp only)))
      rcases Bool.eq_false_or_eq_true ((decide (v33 ≠ 0))) with h12|h12
      · rw [if_pos h12] at hr
        repeat (first|with_reducible refine mv ?_|((with_reducible first|apply TO.mv|apply TO.bin);(repeat (focus (show _ = _;first|exact k2 rfl|(simp only [zz,h12]<;>exact rfl))));(with_reducible apply TO.here))|((with_reducible apply TX.region);(focus (simp only []<;>exact rfl));(focus rfl);(try dsimp only))|((with_reducible apply TX.cond_true);(focus rfl);(focus ((simp only [z1,Bool.not_true,h12];done)))))
        rcases Bool.eq_false_or_eq_true ((decide (v13 = v33))) with h13|h13
        · rw [if_pos h13] at hr
          repeat (first|((with_reducible first|apply TO.mv|apply TO.bin|apply TO.pk);(repeat (focus (show _ = _;first|exact k2 rfl|(simp only [zz,h13]<;>exact rfl))));(with_reducible apply TO.here)))
          rcases Bool.eq_false_or_eq_true ((decide (v19 = v33))) with h14|h14
          · rw [if_pos h14] at hr
            repeat (first|((with_reducible first|apply TO.mv|apply TO.bin|apply TO.pk);(repeat (focus (show _ = _;first|exact k2 rfl|(simp only [zz,h14]<;>exact rfl))));(with_reducible apply TO.here)))
            rcases Bool.eq_false_or_eq_true ((decide (v25 = v33))) with h15|h15
            · rw [if_pos h15] at hr
              repeat (first|((with_reducible first|apply TO.mv|apply TO.bin|apply TO.pk);(repeat (focus (show _ = _;first|exact k2 rfl|(simp only [zz,h15]<;>exact rfl))));(with_reducible apply TO.here)))
              rcases Bool.eq_false_or_eq_true ((decide (v32 = v33))) with h16|h16
              · rw [if_pos h16] at hr
                repeat (first|((with_reducible first|apply TO.ld|apply TO.bld);(repeat (focus (show _ = _;first|exact k2 rfl|(simp only [zz,y32,Nat.reduceAdd,Nat.reduceLeDiff,tload,rowOf,partT,tbuild,tfill,h16]<;>exact rfl)|exact rfl)));(with_reducible apply TO.here)))
                apply TO.pop1 (by first|rfl|(simp only [twant,z1,z7,h1,h2,h12,h13,h14,h15,h16]<;>rfl)) (pop_eqs1 (X:=⟨[.int .i64 (v11),.int .i64 (v12)]⟩) (Y:=⟨[.int .i64 (0),.int .i64 (0)]⟩) rfl rfl rfl rfl rfl rfl rfl eqg30 eqs30 rfl)
                (repeat (focus (show _ = _;(simp only [zz]<;>exact rfl))))
                with_reducible apply TO.here
                repeat (first|((with_reducible first|apply TO.pk|apply TO.mv);(repeat (focus (show _ = _;first|exact k2 rfl|(simp only [zz]<;>exact rfl))));(with_reducible apply TO.here)))
                rcases Bool.eq_false_or_eq_true (([v11 == 0,v12 == 0].all id)) with h17|h17
                · rw [if_pos h17] at hr
                  repeat (first|((with_reducible first|apply TO.ld|apply TO.bld);(repeat (focus (show _ = _;first|exact k2 rfl|(simp only [zz,y32,Nat.reduceAdd,Nat.reduceLeDiff,tload,rowOf,partT,tbuild,tfill,h17]<;>exact rfl)|exact rfl)));(with_reducible apply TO.here)))
                  apply TO.pop1 (by first|rfl|(simp only [twant,z1,z7,h1,h2,h12,h13,h14,h15,h16,h17]<;>rfl)) (pop_eqs1 (X:=⟨[.int .i64 (v17),.int .i64 (v18)]⟩) (Y:=⟨[.int .i64 (0),.int .i64 (0)]⟩) rfl rfl rfl rfl rfl rfl rfl eqg30 eqs30 rfl)
                  (repeat (focus (show _ = _;(simp only [zz]<;>exact rfl))))
                  with_reducible apply TO.here
                  repeat (first|((with_reducible first|apply TO.pk|apply TO.mv);(repeat (focus (show _ = _;first|exact k2 rfl|(simp only [zz]<;>exact rfl))));(with_reducible apply TO.here)))
                  rcases Bool.eq_false_or_eq_true (([v17 == 0,v18 == 0].all id)) with h18|h18
                  · rw [if_pos h18] at hr
                    repeat (first|((with_reducible first|apply TO.ld|apply TO.bld);(repeat (focus (show _ = _;first|exact k2 rfl|(simp only [zz,y32,Nat.reduceAdd,Nat.reduceLeDiff,tload,rowOf,partT,tbuild,tfill,h18]<;>exact rfl)|exact rfl)));(with_reducible apply TO.here)))
                    apply TO.pop1 (by first|rfl|(simp only [twant,z1,z7,h1,h2,h12,h13,h14,h15,h16,h17,h18]<;>rfl)) (pop_eqs1 (X:=⟨[.int .i64 (v23),.int .i64 (v24)]⟩) (Y:=⟨[.int .i64 (0),.int .i64 (0)]⟩) rfl rfl rfl rfl rfl rfl rfl eqg30 eqs30 rfl)
                    (repeat (focus (show _ = _;(simp only [zz]<;>exact rfl))))
                    with_reducible apply TO.here
                    repeat (first|((with_reducible first|apply TO.pk|apply TO.mv);(repeat (focus (show _ = _;first|exact k2 rfl|(simp only [zz]<;>exact rfl))));(with_reducible apply TO.here)))
                    rcases Bool.eq_false_or_eq_true (([v23 == 0,v24 == 0].all id)) with h19|h19
                    · rw [if_pos h19] at hr
                      repeat (first|((with_reducible first|apply TO.ld|apply TO.bld);(repeat (focus (show _ = _;first|exact k2 rfl|(simp only [zz,y32,Nat.reduceAdd,Nat.reduceLeDiff,tload,rowOf,partT,tbuild,tfill,h19]<;>exact rfl)|exact rfl)));(with_reducible apply TO.here)))
                      obtain ⟨v34,h20,hr⟩:=Option.bind_eq_some_iff.1 hr
                      try dsimp only at hr
                      apply TO.lok (by first|rfl|(simp only [twant,z1,z7,h1,h2,h12,h13,h14,h15,h16,h17,h18,h19]<;>rfl)) rfl goFn13 (Spec.ov (ref02_Same_5679_spec h20) (by decide)) (by simp only [view,z1,z3,tmlc]<;>rfl) rfl rfl (by simp [])
                      (repeat (focus (show _ = _;(simp only [zz,shift]<;>exact rfl))))
                      with_reducible apply TO.here
                      repeat (first|(with_reducible first|refine mv ?_|refine TO.nil ?_)|((with_reducible first|apply TO.pk|apply TO.asg);(repeat (focus (show _ = _;first|exact k2 rfl|(simp only [zz]<;>exact rfl))));(with_reducible apply TO.here)))
                      have hb:=Option.some.inj hr
                      first|(cases hb;done)|(refine ⟨.inr rfl,?_⟩;first|(simp only [hb]<;>exact rfl)|(simp only [h1,h2,h12,h13,h14,h15,h16,h17,h18,h19] at hb;simp only [tresAll,tres,z1,hb,Option.map_some]<;>exact rfl))
                    · rw [if_neg (by rw [h19];exact Bool.false_ne_true)] at hr
                      repeat (first|(with_reducible first|refine mv ?_|refine TO.nil ?_)|((with_reducible first|apply TO.pk|apply TO.asg);(repeat (focus (show _ = _;first|exact k2 rfl|(simp only [zz]<;>exact rfl))));(with_reducible apply TO.here))|((with_reducible apply TO.skip1);(repeat (focus (show _ = _;(simp only [zz,twant,zp,zs,h19]<;>exact rfl))));(with_reducible apply TO.here)))
                      have hb:=Option.some.inj hr
                      first|(cases hb;done)|(refine ⟨.inr rfl,?_⟩;first|(simp only [tresAll,tres,z1,hb,Option.map_some]<;>exact rfl)|(simp only [h1,h2,h12,h13,h14,h15,h16,h17,h18,h19] at hb;simp only [tresAll,tres,z1,hb,Option.map_some]<;>exact rfl))
                  · rw [if_neg (by rw [h18];exact Bool.false_ne_true)] at hr
                    repeat (first|(with_reducible first|refine mv ?_|refine TO.nil ?_)|((with_reducible first|apply TO.pk|apply TO.mv|apply TO.asg);(repeat (focus (show _ = _;first|exact k2 rfl|(simp only [zz]<;>exact rfl))));(with_reducible apply TO.here))|((with_reducible apply TO.skip1);(repeat (focus (show _ = _;(simp only [zz,twant,zp,zs,h18]<;>exact rfl))));(with_reducible apply TO.here)))
                    have hb:=Option.some.inj hr
                    first|(cases hb;done)|(refine ⟨.inr rfl,?_⟩;first|(simp only [tresAll,tres,z1,hb,Option.map_some]<;>exact rfl)|(simp only [h1,h2,h12,h13,h14,h15,h16,h17,h18] at hb;simp only [tresAll,tres,z1,hb,Option.map_some]<;>exact rfl))
                · rw [if_neg (by rw [h17];exact Bool.false_ne_true)] at hr
                  repeat (first|(with_reducible first|refine mv ?_|refine TO.nil ?_)|((with_reducible first|apply TO.pk|apply TO.mv|apply TO.asg);(repeat (focus (show _ = _;first|exact k2 rfl|(simp only [zz]<;>exact rfl))));(with_reducible apply TO.here))|((with_reducible apply TO.skip1);(repeat (focus (show _ = _;(simp only [zz,twant,zp,zs,h17]<;>exact rfl))));(with_reducible apply TO.here)))
                  have hb:=Option.some.inj hr
                  first|(cases hb;done)|(refine ⟨.inr rfl,?_⟩;first|(simp only [tresAll,tres,z1,hb,Option.map_some]<;>exact rfl)|(simp only [h1,h2,h12,h13,h14,h15,h16,h17] at hb;simp only [tresAll,tres,z1,hb,Option.map_some]<;>exact rfl))
              · rw [if_neg (by rw [h16];exact Bool.false_ne_true)] at hr
                repeat (first|(with_reducible first|refine mv ?_|refine TO.nil ?_)|((with_reducible first|apply TO.pk|apply TO.mv|apply TO.asg);(repeat (focus (show _ = _;first|exact k2 rfl|(simp only [zz]<;>exact rfl))));(with_reducible apply TO.here))|((with_reducible apply TO.skip1);(repeat (focus (show _ = _;(simp only [zz,twant,zp,zs,h16]<;>exact rfl))));(with_reducible apply TO.here)))
                have hb:=Option.some.inj hr
                first|(cases hb;done)|(refine ⟨.inr rfl,?_⟩;first|(simp only [tresAll,tres,z1,hb,Option.map_some]<;>exact rfl)|(simp only [h1,h2,h12,h13,h14,h15,h16] at hb;simp only [tresAll,tres,z1,hb,Option.map_some]<;>exact rfl))
            · rw [if_neg (by rw [h15];exact Bool.false_ne_true)] at hr
              repeat (first|(with_reducible first|refine mv ?_|refine TO.nil ?_)|((with_reducible first|apply TO.pk|apply TO.mv|apply TO.asg);(repeat (focus (show _ = _;first|exact k2 rfl|(simp only [zz,h15]<;>exact rfl))));(with_reducible apply TO.here))|((with_reducible apply TO.skip1);(repeat (focus (show _ = _;(simp only [zz,twant,zp,zs,h15]<;>exact rfl))));(with_reducible apply TO.here)))
              have hb:=Option.some.inj hr
              first|(cases hb;done)|(refine ⟨.inr rfl,?_⟩;first|(simp only [tresAll,tres,z1,hb,Option.map_some]<;>exact rfl)|(simp only [h1,h2,h12,h13,h14,h15] at hb;simp only [tresAll,tres,z1,hb,Option.map_some]<;>exact rfl))
          · rw [if_neg (by rw [h14];exact Bool.false_ne_true)] at hr
            repeat (first|(with_reducible first|refine mv ?_|refine TO.nil ?_)|((with_reducible first|apply TO.pk|apply TO.mv|apply TO.asg);(repeat (focus (show _ = _;first|exact k2 rfl|(simp only [zz,h14]<;>exact rfl))));(with_reducible apply TO.here))|((with_reducible apply TO.skip1);(repeat (focus (show _ = _;(simp only [zz,twant,zp,zs,h14]<;>exact rfl))));(with_reducible apply TO.here)))
            have hb:=Option.some.inj hr
            first|(cases hb;done)|(refine ⟨.inr rfl,?_⟩;first|(simp only [tresAll,tres,z1,hb,Option.map_some]<;>exact rfl)|(simp only [h1,h2,h12,h13,h14] at hb;simp only [tresAll,tres,z1,hb,Option.map_some]<;>exact rfl))
        · rw [if_neg (by rw [h13];exact Bool.false_ne_true)] at hr
          repeat (first|(with_reducible first|refine mv ?_|refine TO.nil ?_)|((with_reducible first|apply TO.pk|apply TO.mv|apply TO.asg);(repeat (focus (show _ = _;first|exact k2 rfl|(simp only [zz,h13]<;>exact rfl))));(with_reducible apply TO.here))|((with_reducible apply TO.skip1);(repeat (focus (show _ = _;(simp only [zz,twant,zp,zs,h13]<;>exact rfl))));(with_reducible apply TO.here)))
          have hb:=Option.some.inj hr
          first|(cases hb;done)|(refine ⟨.inr rfl,?_⟩;first|(simp only [tresAll,tres,z1,hb,Option.map_some]<;>exact rfl)|(simp only [h1,h2,h12,h13] at hb;simp only [tresAll,tres,z1,hb,Option.map_some]<;>exact rfl))
      · rw [if_neg (by rw [h12];exact Bool.false_ne_true)] at hr
        repeat (first|with_reducible refine mv ?_|((with_reducible first|apply TD.mv|apply TD.bin);(repeat (focus (show _ = _;first|exact k2 rfl|(simp only [zz,h12]<;>exact rfl))));(with_reducible refine TD.here ?_))|((with_reducible apply TX.drawn);(focus decide +kernel);(focus (simp only []<;>exact rfl));(focus exact rfl);(try dsimp only))|((with_reducible apply TX.cond_false);(focus rfl);(focus ((simp only [z1,Bool.not_true,h12];done)))))
        rcases Bool.eq_false_or_eq_true ((decide (v13 ≠ 0))) with h21|h21
        · rw [if_pos h21] at hr
          repeat (first|(with_reducible first|refine mv ?_|refine TO.nil ?_)|((with_reducible apply TO.asg);(repeat (focus (show _ = _;first|exact k2 rfl|(simp only [zz]<;>exact rfl))));(with_reducible apply TO.here))|((with_reducible apply TX.region);(focus (simp only []<;>exact rfl));(focus rfl);(try dsimp only))|with_reducible refine TD.nil ?_|((with_reducible first|apply TD.pk|apply TD.mv);(repeat (focus (show _ = _;first|exact k2 rfl|(simp only [zz]<;>exact rfl))));(with_reducible refine TD.here ?_))|((with_reducible apply TD.skip1);(repeat (focus (show _ = _;(simp only [zz,twant,zp,zs,h21]<;>exact rfl))));(with_reducible refine TD.here ?_))|((with_reducible apply TX.cond_true);(focus rfl);(focus (rfl))))
          have hb:=Option.some.inj hr
          first|(cases hb;done)|(refine ⟨.inr rfl,?_⟩;first|(simp only [tresAll,tres,z1,hb,Option.map_some]<;>exact rfl)|(simp only [h1,h2,h12,h21] at hb;simp only [tresAll,tres,z1,hb,Option.map_some]<;>exact rfl))
        · rw [if_neg (by rw [h21];exact Bool.false_ne_true)] at hr
          repeat (first|((with_reducible first|apply TD.ld|apply TD.fa);(repeat (focus (show _ = _;first|exact k2 rfl|(simp only [zz,y32,Nat.reduceAdd,Nat.reduceLeDiff,tload,rowOf,partT,tfieldAddr,h21]<;>exact rfl)|exact rfl)));(with_reducible refine TD.here ?_)))
          obtain ⟨⟨v35,v36⟩,h22,hr⟩:=Option.bind_eq_some_iff.1 hr
          try dsimp only at hr
          first|apply TD.cal (by first|rfl|(simp only [twant,z1,z7,h1,h2,h12,h21]<;>rfl)) rfl goFn14 (Spec.ov (ref02_LengthOf_spec h22) (by decide)) rfl rfl rfl|apply TD.calw (by first|rfl|(simp only [twant,z1,z7,h1,h2,h12,h21]<;>rfl)) rfl goFn14 (Spec.ov (ref02_LengthOf_spec h22) (by decide)) rfl rfl rfl rfl
          (repeat (focus (show _ = _;(simp only [zz,Nat.reduceAdd,shift]<;>exact rfl))))
          with_reducible apply TD.here
          apply TD.pop1 (by first|rfl|(simp only [twant,z1,z7,h1,h2,h12,h21]<;>rfl)) (pop_eqs2 (X:=⟨[.int .i64 (v11),.int .i64 (v12)]⟩) (Y:=⟨[.int .i64 (v35),.int .i64 (v36)]⟩) rfl rfl rfl rfl rfl rfl rfl eqg30 eqs30 rfl)
          (repeat (focus (show _ = _;(simp only [zz]<;>exact rfl))))
          with_reducible apply TD.here
          repeat (first|((with_reducible first|apply TD.pk|apply TD.mv);(repeat (focus (show _ = _;first|exact k2 rfl|(simp only [zz]<;>exact rfl))));(with_reducible refine TD.here ?_)))
          rcases Bool.eq_false_or_eq_true (([v11 == v35,v12 == v36].all id)) with h23|h23
          · rw [if_pos h23] at hr
            repeat (first|((with_reducible first|apply TD.mv|apply TD.bin|apply TD.pk);(repeat (focus (show _ = _;first|exact k2 rfl|(simp only [zz,h23]<;>exact rfl))));(with_reducible refine TD.here ?_)))
            rcases Bool.eq_false_or_eq_true ((decide (v32 ≠ 0))) with h24|h24
            · rw [if_pos h24] at hr
              repeat (first|(with_reducible first|refine mv ?_|refine TO.nil ?_)|((with_reducible apply TO.asg);(repeat (focus (show _ = _;first|exact k2 rfl|(simp only [zz]<;>exact rfl))));(with_reducible apply TO.here))|((with_reducible apply TX.region);(focus (simp only []<;>exact rfl));(focus rfl);(try dsimp only))|with_reducible refine TD.nil ?_|((with_reducible apply TD.pk);(repeat (focus (show _ = _;first|exact k2 rfl|(simp only [zz]<;>exact rfl))));(with_reducible refine TD.here ?_))|((with_reducible apply TD.skip1);(repeat (focus (show _ = _;(simp only [zz,twant,zp,zs,h24]<;>exact rfl))));(with_reducible refine TD.here ?_))|((with_reducible apply TX.cond_true);(focus rfl);(focus (rfl))))
              have hb:=Option.some.inj hr
              first|(cases hb;done)|(refine ⟨.inr rfl,?_⟩;first|(simp only [tresAll,tres,z1,hb,Option.map_some]<;>exact rfl)|(simp only [h1,h2,h12,h21,h23,h24] at hb;simp only [tresAll,tres,z1,hb,Option.map_some]<;>exact rfl))
            · rw [if_neg (by rw [h24];exact Bool.false_ne_true)] at hr
              repeat (first|((with_reducible apply TD.ld);(repeat (focus (show _ = _;first|exact k2 rfl|(simp only [zz,y32,Nat.reduceAdd,Nat.reduceLeDiff,tload,rowOf,partT,h24]<;>exact rfl)|exact rfl)));(with_reducible refine TD.here ?_)))
              obtain ⟨⟨v37,v38,v39⟩,h25,hr⟩:=Option.bind_eq_some_iff.1 hr
              try dsimp only at hr
              first|apply TD.cal (by first|rfl|(simp only [twant,z1,z7,h1,h2,h12,h21,h23,h24]<;>rfl)) rfl goFn15 (Spec.ov (ref02_Turned_spec h25) (by decide)) rfl rfl rfl|apply TD.calw (by first|rfl|(simp only [twant,z1,z7,h1,h2,h12,h21,h23,h24]<;>rfl)) rfl goFn15 (Spec.ov (ref02_Turned_spec h25) (by decide)) rfl rfl rfl rfl
              (repeat (focus (show _ = _;(simp only [zz,Nat.reduceAdd,shift]<;>exact rfl))))
              with_reducible apply TD.here
              obtain ⟨v40,h26,hr⟩:=Option.bind_eq_some_iff.1 hr
              try dsimp only at hr
              first|apply TD.lok (by first|rfl|(simp only [twant,z1,z7,h1,h2,h12,h21,h23,h24]<;>rfl)) rfl goFn13 (Spec.ov (ref02_Same_spec h26) (by decide)) (by simp only [view,z1,z3,tmlc]<;>rfl) rfl rfl (by simp [])|apply TD.lokw (by first|rfl|(simp only [twant,z1,z7,h1,h2,h12,h21,h23,h24]<;>rfl)) rfl goFn13 (Spec.ov (ref02_Same_spec h26) (by decide)) (by simp only [view,z1,z3,zl,tml,tmlc,List.length_set,Nat.reduceEqDiff,if_false]<;>rfl) rfl rfl (by simp [clTB,cl,e_i,e_iiii]) rfl
              (repeat (focus (show _ = _;(simp only [zz,shift]<;>exact rfl))))
              with_reducible apply TD.here
              apply TD.pop1 (by first|rfl|(simp only [twant,z1,z7,h1,h2,h12,h21,h23,h24]<;>rfl)) (pop_not rfl)
              (repeat (focus (show _ = _;(simp only [zz]<;>exact rfl))))
              with_reducible apply TD.here
              repeat (first|(with_reducible first|refine mv ?_|refine TD.nil ?_)|((with_reducible apply TD.pk);(repeat (focus (show _ = _;first|exact k2 rfl|(simp only [zz]<;>exact rfl))));(with_reducible refine TD.here ?_)))
              rcases Bool.eq_false_or_eq_true (v40) with h27|h27
              · rw [if_pos h27] at hr
                repeat (first|with_reducible refine mv ?_|((with_reducible apply TO.ld);(repeat (focus (show _ = _;first|exact k2 rfl|(simp only [zz,y32,Nat.reduceAdd,Nat.reduceLeDiff,tload,rowOf,partT,h27]<;>exact rfl)|exact rfl)));(with_reducible apply TO.here))|((with_reducible apply TX.region);(focus (simp only []<;>exact rfl));(focus rfl);(try dsimp only))|((with_reducible apply TX.cond_false);(focus rfl);(focus ((simp only [z1,Bool.not_true,h27];done)))))
                obtain ⟨⟨v41,v42,v43,v44⟩,h28,hr⟩:=Option.bind_eq_some_iff.1 hr
                try dsimp only at hr
                apply TO.lok (by first|rfl|(simp only [twant,z1,z7,h1,h2,h12,h21,h23,h24,h27]<;>rfl)) rfl goFn11 (Spec.ov (image_Turned_spec h28) (by decide)) (by simp only [view,z1,z3,tmlc]<;>rfl) rfl rfl (by simp [clTB,cl,e_i,e_iiii])
                (repeat (focus (show _ = _;(simp only [zz,Nat.reduceAdd,shift]<;>exact rfl))))
                with_reducible apply TO.here
                repeat (first|(with_reducible first|refine mv ?_|refine TO.nil ?_)|((with_reducible first|apply TO.mv|apply TO.ext|apply TO.al|apply TO.sv|apply TO.asg|apply TO.bin);(repeat (focus (show _ = _;first|exact k1 rfl|exact k2 rfl|(simp only [zz,y32,Nat.reduceAdd]<;>exact rfl))));(with_reducible apply TO.here))|((with_reducible apply TX.region);(focus (simp only []<;>exact rfl));(focus rfl);(try dsimp only)))
                rcases Bool.eq_false_or_eq_true ((decide (v44 ≠ 0))) with h29|h29
                · rw [if_pos h29] at hr
                  repeat (first|(with_reducible first|refine mv ?_|refine TO.nil ?_)|((with_reducible first|apply TO.pk|apply TO.asg);(repeat (focus (show _ = _;first|exact k2 rfl|(simp only [zz]<;>exact rfl))));(with_reducible apply TO.here))|((with_reducible apply TO.skip1);(repeat (focus (show _ = _;(simp only [zz,twant,zp,zs,h29]<;>exact rfl))));(with_reducible apply TO.here))|((with_reducible apply TX.region);(focus (simp only []<;>exact rfl));(focus rfl);(try dsimp only))|((with_reducible apply TX.cond_true);(focus rfl);(focus (rfl))))
                  have hb:=Option.some.inj hr
                  first|(cases hb;done)|(refine ⟨.inr rfl,?_⟩;first|(simp only [tresAll,tres,z1,hb,Option.map_some]<;>exact rfl)|(simp only [h1,h2,h12,h21,h23,h24,h27,h29] at hb;simp only [tresAll,tres,z1,hb,Option.map_some]<;>exact rfl))
                · rw [if_neg (by rw [h29];exact Bool.false_ne_true)] at hr
                  repeat (first|((with_reducible apply TO.ld);(repeat (focus (show _ = _;first|exact k2 rfl|(simp only [zz,y32,Nat.reduceAdd,Nat.reduceLeDiff,tload,rowOf,partT,h29]<;>exact rfl)|exact rfl)));(with_reducible apply TO.here)))
                  obtain ⟨v45,h30,hr⟩:=Option.bind_eq_some_iff.1 hr
                  try dsimp only at hr
                  apply TO.lok (by first|rfl|(simp only [twant,z1,z7,h1,h2,h12,h21,h23,h24,h27,h29]<;>rfl)) rfl goFn13 (Spec.ov (ref02_Same_spec h30) (by decide)) (by simp only [view,z1,z3,tmlc]<;>rfl) rfl rfl (by simp [])
                  (repeat (focus (show _ = _;(simp only [zz,shift]<;>exact rfl))))
                  with_reducible apply TO.here
                  apply TO.pop1 (by first|rfl|(simp only [twant,z1,z7,h1,h2,h12,h21,h23,h24,h27,h29]<;>rfl)) (pop_not rfl)
                  (repeat (focus (show _ = _;(simp only [zz]<;>exact rfl))))
                  with_reducible apply TO.here
                  repeat (first|(with_reducible first|refine mv ?_|refine TO.nil ?_)|((with_reducible apply TO.pk);(repeat (focus (show _ = _;first|exact k2 rfl|(simp only [zz]<;>exact rfl))));(with_reducible apply TO.here)))
                  rcases Bool.eq_false_or_eq_true (v45) with h31|h31
                  · rw [if_pos h31] at hr
                    repeat (first|with_reducible refine mv ?_|((with_reducible first|apply TO.fa|apply TO.ld);(repeat (focus (show _ = _;first|exact k2 rfl|(simp only [zz,y32,Nat.reduceAdd,tfieldAddr,tload,rowOf,partT,h31]<;>exact rfl)|exact rfl)));(with_reducible apply TO.here))|((with_reducible apply TX.region);(focus (simp only []<;>exact rfl));(focus rfl);(try dsimp only))|((with_reducible apply TX.cond_false);(focus rfl);(focus ((simp only [z1,Bool.not_true,h31];done)))))
                    obtain ⟨v46,h32,hr⟩:=Option.bind_eq_some_iff.1 hr
                    try dsimp only at hr
                    apply TO.cal (by first|rfl|(simp only [twant,z1,z7,h1,h2,h12,h21,h23,h24,h27,h29,h31]<;>rfl)) rfl goFn16 (Spec.ov (ref02_SpeedErr_spec h32) (by decide)) rfl rfl rfl
                    (repeat (focus (show _ = _;(simp only [zz,shift]<;>exact rfl))))
                    with_reducible apply TO.here
                    repeat (first|(with_reducible first|refine mv ?_|refine TO.nil ?_)|((with_reducible first|apply TO.asg|apply TO.mv|apply TO.bin);(repeat (focus (show _ = _;first|exact k2 rfl|(simp only [zz]<;>exact rfl))));(with_reducible apply TO.here))|((with_reducible apply TX.region);(focus (simp only []<;>exact rfl));(focus rfl);(try dsimp only)))
                    rcases Bool.eq_false_or_eq_true ((decide (v46 ≠ 0))) with h33|h33
                    · rw [if_pos h33] at hr
                      repeat (first|with_reducible refine mv ?_|((with_reducible first|apply TO.mv|apply TO.bin);(repeat (focus (show _ = _;first|exact k2 rfl|(simp only [zz,h33]<;>exact rfl))));(with_reducible apply TO.here))|((with_reducible apply TX.region);(focus (simp only []<;>exact rfl));(focus rfl);(try dsimp only))|((with_reducible apply TX.cond_true);(focus rfl);(focus ((simp only [z1,Bool.not_true,h33];done)))))
                      rcases Bool.eq_false_or_eq_true ((decide (v19 = v46))) with h34|h34
                      · rw [if_pos h34] at hr
                        repeat (first|((with_reducible first|apply TO.mv|apply TO.bin|apply TO.pk);(repeat (focus (show _ = _;first|exact k2 rfl|(simp only [zz,h34]<;>exact rfl))));(with_reducible apply TO.here)))
                        rcases Bool.eq_false_or_eq_true ((decide (v25 = v46))) with h35|h35
                        · rw [if_pos h35] at hr
                          repeat (first|((with_reducible first|apply TO.ld|apply TO.bld);(repeat (focus (show _ = _;first|exact k2 rfl|(simp only [zz,y32,Nat.reduceAdd,Nat.reduceLeDiff,tload,rowOf,partT,tbuild,tfill,h35]<;>exact rfl)|exact rfl)));(with_reducible apply TO.here)))
                          apply TO.pop1 (by first|rfl|(simp only [twant,z1,z7,h1,h2,h12,h21,h23,h24,h27,h29,h31,h33,h34,h35]<;>rfl)) (pop_eqs1 (X:=⟨[.int .i64 (v17),.int .i64 (v18)]⟩) (Y:=⟨[.int .i64 (0),.int .i64 (0)]⟩) rfl rfl rfl rfl rfl rfl rfl eqg30 eqs30 rfl)
                          (repeat (focus (show _ = _;(simp only [zz]<;>exact rfl))))
                          with_reducible apply TO.here
                          repeat (first|((with_reducible first|apply TO.pk|apply TO.mv);(repeat (focus (show _ = _;first|exact k2 rfl|(simp only [zz]<;>exact rfl))));(with_reducible apply TO.here)))
                          rcases Bool.eq_false_or_eq_true (([v17 == 0,v18 == 0].all id)) with h36|h36
                          · rw [if_pos h36] at hr
                            repeat (first|((with_reducible first|apply TO.ld|apply TO.bld);(repeat (focus (show _ = _;first|exact k2 rfl|(simp only [zz,y32,Nat.reduceAdd,Nat.reduceLeDiff,tload,rowOf,partT,tbuild,tfill,h36]<;>exact rfl)|exact rfl)));(with_reducible apply TO.here)))
                            apply TO.pop1 (by first|rfl|(simp only [twant,z1,z7,h1,h2,h12,h21,h23,h24,h27,h29,h31,h33,h34,h35,h36]<;>rfl)) (pop_eqs1 (X:=⟨[.int .i64 (v23),.int .i64 (v24)]⟩) (Y:=⟨[.int .i64 (0),.int .i64 (0)]⟩) rfl rfl rfl rfl rfl rfl rfl eqg30 eqs30 rfl)
                            (repeat (focus (show _ = _;(simp only [zz]<;>exact rfl))))
                            with_reducible apply TO.here
                            repeat (first|(with_reducible first|refine mv ?_|refine TO.nil ?_)|((with_reducible first|apply TO.pk|apply TO.asg);(repeat (focus (show _ = _;first|exact k2 rfl|(simp only [zz]<;>exact rfl))));(with_reducible apply TO.here)))
                            have hb:=Option.some.inj hr
                            first|(cases hb;done)|(refine ⟨.inr rfl,?_⟩;first|(simp only [hb]<;>exact rfl)|(simp only [h1,h2,h12,h21,h23,h24,h27,h29,h31,h33,h34,h35,h36] at hb;simp only [tresAll,tres,z1,hb,Option.map_some]<;>exact rfl))
                          · rw [if_neg (by rw [h36];exact Bool.false_ne_true)] at hr
                            repeat (first|(with_reducible first|refine mv ?_|refine TO.nil ?_)|((with_reducible first|apply TO.pk|apply TO.asg);(repeat (focus (show _ = _;first|exact k2 rfl|(simp only [zz]<;>exact rfl))));(with_reducible apply TO.here))|((with_reducible apply TO.skip1);(repeat (focus (show _ = _;(simp only [zz,twant,zp,zs,h36]<;>exact rfl))));(with_reducible apply TO.here)))
                            have hb:=Option.some.inj hr
                            first|(cases hb;done)|(refine ⟨.inr rfl,?_⟩;first|(simp only [tresAll,tres,z1,hb,Option.map_some]<;>exact rfl)|(simp only [h1,h2,h12,h21,h23,h24,h27,h29,h31,h33,h34,h35,h36] at hb;simp only [tresAll,tres,z1,hb,Option.map_some]<;>exact rfl))
                        · rw [if_neg (by rw [h35];exact Bool.false_ne_true)] at hr
                          repeat (first|(with_reducible first|refine mv ?_|refine TO.nil ?_)|((with_reducible first|apply TO.pk|apply TO.mv|apply TO.asg);(repeat (focus (show _ = _;first|exact k2 rfl|(simp only [zz]<;>exact rfl))));(with_reducible apply TO.here))|((with_reducible apply TO.skip1);(repeat (focus (show _ = _;(simp only [zz,twant,zp,zs,h35]<;>exact rfl))));(with_reducible apply TO.here)))
                          have hb:=Option.some.inj hr
                          first|(cases hb;done)|(refine ⟨.inr rfl,?_⟩;first|(simp only [tresAll,tres,z1,hb,Option.map_some]<;>exact rfl)|(simp only [h1,h2,h12,h21,h23,h24,h27,h29,h31,h33,h34,h35] at hb;simp only [tresAll,tres,z1,hb,Option.map_some]<;>exact rfl))
                      · rw [if_neg (by rw [h34];exact Bool.false_ne_true)] at hr
                        repeat (first|(with_reducible first|refine mv ?_|refine TO.nil ?_)|((with_reducible first|apply TO.pk|apply TO.mv|apply TO.asg);(repeat (focus (show _ = _;first|exact k2 rfl|(simp only [zz,h34]<;>exact rfl))));(with_reducible apply TO.here))|((with_reducible apply TO.skip1);(repeat (focus (show _ = _;(simp only [zz,twant,zp,zs,h34]<;>exact rfl))));(with_reducible apply TO.here)))
                        have hb:=Option.some.inj hr
                        first|(cases hb;done)|(refine ⟨.inr rfl,?_⟩;first|(simp only [tresAll,tres,z1,hb,Option.map_some]<;>exact rfl)|(simp only [h1,h2,h12,h21,h23,h24,h27,h29,h31,h33,h34] at hb;simp only [tresAll,tres,z1,hb,Option.map_some]<;>exact rfl))
                    · rw [if_neg (by rw [h33];exact Bool.false_ne_true)] at hr
                      repeat (first|with_reducible refine mv ?_|((with_reducible first|apply TD.mv|apply TD.bin);(repeat (focus (show _ = _;first|exact k2 rfl|(simp only [zz,h33]<;>exact rfl))));(with_reducible refine TD.here ?_))|((with_reducible apply TX.drawn);(focus decide +kernel);(focus (simp only []<;>exact rfl));(focus exact rfl);(try dsimp only))|((with_reducible apply TX.cond_false);(focus rfl);(focus ((simp only [z1,Bool.not_true,h33];done)))))
                      rcases Bool.eq_false_or_eq_true ((decide (v19 ≠ 0))) with h37|h37
                      · rw [if_pos h37] at hr
                        repeat (first|(with_reducible first|refine mv ?_|refine TO.nil ?_)|((with_reducible apply TO.asg);(repeat (focus (show _ = _;first|exact k2 rfl|(simp only [zz]<;>exact rfl))));(with_reducible apply TO.here))|((with_reducible apply TX.region);(focus (simp only []<;>exact rfl));(focus rfl);(try dsimp only))|with_reducible refine TD.nil ?_|((with_reducible apply TD.pk);(repeat (focus (show _ = _;first|exact k2 rfl|(simp only [zz]<;>exact rfl))));(with_reducible refine TD.here ?_))|((with_reducible apply TD.skip1);(repeat (focus (show _ = _;(simp only [zz,twant,zp,zs,h37]<;>exact rfl))));(with_reducible refine TD.here ?_))|((with_reducible apply TX.cond_true);(focus rfl);(focus (rfl))))
                        have hb:=Option.some.inj hr
                        first|(cases hb;done)|(refine ⟨.inr rfl,?_⟩;first|(simp only [tresAll,tres,z1,hb,Option.map_some]<;>exact rfl)|(simp only [h1,h2,h12,h21,h23,h24,h27,h29,h31,h33,h37] at hb;simp only [tresAll,tres,z1,hb,Option.map_some]<;>exact rfl))
                      · rw [if_neg (by rw [h37];exact Bool.false_ne_true)] at hr
                        repeat (first|((with_reducible first|apply TD.ld|apply TD.fa);(repeat (focus (show _ = _;first|exact k2 rfl|(simp only [zz,y32,Nat.reduceAdd,Nat.reduceLeDiff,tload,rowOf,partT,tfieldAddr,h37]<;>exact rfl)|exact rfl)));(with_reducible refine TD.here ?_)))
                        obtain ⟨⟨v47,v48⟩,h38,hr⟩:=Option.bind_eq_some_iff.1 hr
                        try dsimp only at hr
                        first|apply TD.cal (by first|rfl|(simp only [twant,z1,z7,h1,h2,h12,h21,h23,h24,h27,h29,h31,h33,h37]<;>rfl)) rfl goFn17 (Spec.ov (ref02_DelayOf_spec h38) (by decide)) rfl rfl rfl|apply TD.calw (by first|rfl|(simp only [twant,z1,z7,h1,h2,h12,h21,h23,h24,h27,h29,h31,h33,h37]<;>rfl)) rfl goFn17 (Spec.ov (ref02_DelayOf_spec h38) (by decide)) rfl rfl rfl rfl
                        (repeat (focus (show _ = _;(simp only [zz,Nat.reduceAdd,shift]<;>exact rfl))))
                        with_reducible apply TD.here
                        apply TD.pop1 (by first|rfl|(simp only [twant,z1,z7,h1,h2,h12,h21,h23,h24,h27,h29,h31,h33,h37]<;>rfl)) (pop_eqs2 (X:=⟨[.int .i64 (v17),.int .i64 (v18)]⟩) (Y:=⟨[.int .i64 (v47),.int .i64 (v48)]⟩) rfl rfl rfl rfl rfl rfl rfl eqg30 eqs30 rfl)
                        (repeat (focus (show _ = _;(simp only [zz]<;>exact rfl))))
                        with_reducible apply TD.here
                        repeat (first|(with_reducible first|refine mv ?_|refine TD.nil ?_)|((with_reducible apply TD.pk);(repeat (focus (show _ = _;first|exact k2 rfl|(simp only [zz]<;>exact rfl))));(with_reducible refine TD.here ?_)))
                        rcases Bool.eq_false_or_eq_true (([v17 == v47,v18 == v48].all id)) with h39|h39
                        · rw [if_pos h39] at hr
                          repeat (first|with_reducible refine mv ?_|((with_reducible first|apply TO.fa|apply TO.ld);(repeat (focus (show _ = _;first|exact k2 rfl|(simp only [zz,y32,Nat.reduceAdd,tfieldAddr,tload,rowOf,partT,h39]<;>exact rfl)|exact rfl)));(with_reducible apply TO.here))|((with_reducible apply TX.region);(focus (simp only []<;>exact rfl));(focus rfl);(try dsimp only))|((with_reducible apply TX.cond_false);(focus rfl);(focus ((simp only [z1,Bool.not_true,h39];done)))))
                          obtain ⟨v49,h40,hr⟩:=Option.bind_eq_some_iff.1 hr
                          try dsimp only at hr
                          apply TO.cal (by first|rfl|(simp only [twant,z1,z7,h1,h2,h12,h21,h23,h24,h27,h29,h31,h33,h37,h39]<;>rfl)) rfl goFn18 (Spec.ov (base_Within_spec h40) (by decide)) rfl rfl rfl
                          (repeat (focus (show _ = _;(simp only [zz,shift]<;>exact rfl))))
                          with_reducible apply TO.here
                          apply TO.pop1 (by first|rfl|(simp only [twant,z1,z7,h1,h2,h12,h21,h23,h24,h27,h29,h31,h33,h37,h39]<;>rfl)) (pop_not rfl)
                          (repeat (focus (show _ = _;(simp only [zz]<;>exact rfl))))
                          with_reducible apply TO.here
                          repeat (first|(with_reducible first|refine mv ?_|refine TO.nil ?_))
                          rcases Bool.eq_false_or_eq_true (v49) with h41|h41
                          · rw [if_pos h41] at hr
                            repeat (first|with_reducible refine mv ?_|((with_reducible first|apply TD.mv|apply TD.bin);(repeat (focus (show _ = _;first|exact k2 rfl|(simp only [zz,h41]<;>exact rfl))));(with_reducible refine TD.here ?_))|((with_reducible apply TX.drawn);(focus decide +kernel);(focus (simp only []<;>exact rfl));(focus exact rfl);(try dsimp only))|((with_reducible apply TX.cond_false);(focus rfl);(focus ((simp only [z1,Bool.not_true,h41];done)))))
                            rcases Bool.eq_false_or_eq_true ((decide (v25 = 0))) with h42|h42
                            · rw [if_pos h42] at hr
                              repeat (first|((with_reducible first|apply TD.ld|apply TD.fa);(repeat (focus (show _ = _;first|exact k2 rfl|(simp only [zz,y32,Nat.reduceAdd,Nat.reduceLeDiff,tload,rowOf,partT,tfieldAddr,h42]<;>exact rfl)|exact rfl)));(with_reducible refine TD.here ?_)))
                              obtain ⟨⟨v50,v51⟩,h43,hr⟩:=Option.bind_eq_some_iff.1 hr
                              try dsimp only at hr
                              first|apply TD.cal (by first|rfl|(simp only [twant,z1,z7,h1,h2,h12,h21,h23,h24,h27,h29,h31,h33,h37,h39,h41,h42]<;>rfl)) rfl goFn19 (Spec.ov (ref02_SamplesOf_spec h43) (by decide)) rfl rfl rfl|apply TD.calw (by first|rfl|(simp only [twant,z1,z7,h1,h2,h12,h21,h23,h24,h27,h29,h31,h33,h37,h39,h41,h42]<;>rfl)) rfl goFn19 (Spec.ov (ref02_SamplesOf_spec h43) (by decide)) rfl rfl rfl rfl
                              (repeat (focus (show _ = _;(simp only [zz,Nat.reduceAdd,shift]<;>exact rfl))))
                              with_reducible apply TD.here
                              apply TD.pop1 (by first|rfl|(simp only [twant,z1,z7,h1,h2,h12,h21,h23,h24,h27,h29,h31,h33,h37,h39,h41,h42]<;>rfl)) (pop_eqs1 (X:=⟨[.int .i64 (v23),.int .i64 (v24)]⟩) (Y:=⟨[.int .i64 (v50),.int .i64 (v51)]⟩) rfl rfl rfl rfl rfl rfl rfl eqg30 eqs30 rfl)
                              (repeat (focus (show _ = _;(simp only [zz]<;>exact rfl))))
                              with_reducible apply TD.here
                              repeat (first|(with_reducible first|refine mv ?_|refine TD.nil ?_)|((with_reducible first|apply TD.pk|apply TD.asg);(repeat (focus (show _ = _;first|exact k2 rfl|(simp only [zz]<;>exact rfl))));(with_reducible refine TD.here ?_)))
                              have hb:=Option.some.inj hr
                              first|(cases hb;done)|(refine ⟨.inr rfl,?_⟩;first|(simp only [hb]<;>exact rfl)|(simp only [h1,h2,h12,h21,h23,h24,h27,h29,h31,h33,h37,h39,h41,h42] at hb;simp only [tresAll,tres,z1,hb,Option.map_some]<;>exact rfl))
                            · rw [if_neg (by rw [h42];exact Bool.false_ne_true)] at hr
                              repeat (first|(with_reducible first|refine mv ?_|refine TD.nil ?_)|((with_reducible first|apply TD.pk|apply TD.asg);(repeat (focus (show _ = _;first|exact k2 rfl|(simp only [zz]<;>exact rfl))));(with_reducible refine TD.here ?_))|((with_reducible apply TD.skip1);(repeat (focus (show _ = _;(simp only [zz,twant,zp,zs,h42]<;>exact rfl))));(with_reducible refine TD.here ?_)))
                              have hb:=Option.some.inj hr
                              first|(cases hb;done)|(refine ⟨.inr rfl,?_⟩;first|(simp only [tresAll,tres,z1,hb,Option.map_some]<;>exact rfl)|(simp only [h1,h2,h12,h21,h23,h24,h27,h29,h31,h33,h37,h39,h41,h42] at hb;simp only [tresAll,tres,z1,hb,Option.map_some]<;>exact rfl))
                          · rw [if_neg (by rw [h41];exact Bool.false_ne_true)] at hr
                            repeat (first|with_reducible refine mv ?_|((with_reducible first|apply TO.mv|apply TO.bin);(repeat (focus (show _ = _;first|exact k2 rfl|(simp only [zz,h41]<;>exact rfl))));(with_reducible apply TO.here))|((with_reducible apply TX.region);(focus (simp only []<;>exact rfl));(focus rfl);(try dsimp only))|((with_reducible apply TX.cond_true);(focus rfl);(focus ((simp only [z1,zn,h41];done)))))
                            rcases Bool.eq_false_or_eq_true ((decide (v25 = 2))) with h44|h44
                            · rw [if_pos h44] at hr
                              repeat (first|((with_reducible first|apply TO.ld|apply TO.bld);(repeat (focus (show _ = _;first|exact k2 rfl|(simp only [zz,y32,Nat.reduceAdd,Nat.reduceLeDiff,tload,rowOf,partT,tbuild,tfill,h44]<;>exact rfl)|exact rfl)));(with_reducible apply TO.here)))
                              apply TO.pop1 (by first|rfl|(simp only [twant,z1,z7,h1,h2,h12,h21,h23,h24,h27,h29,h31,h33,h37,h39,h41,h44]<;>rfl)) (pop_eqs1 (X:=⟨[.int .i64 (v23),.int .i64 (v24)]⟩) (Y:=⟨[.int .i64 (0),.int .i64 (0)]⟩) rfl rfl rfl rfl rfl rfl rfl eqg30 eqs30 rfl)
                              (repeat (focus (show _ = _;(simp only [zz]<;>exact rfl))))
                              with_reducible apply TO.here
                              repeat (first|(with_reducible first|refine mv ?_|refine TO.nil ?_)|((with_reducible first|apply TO.pk|apply TO.asg);(repeat (focus (show _ = _;first|exact k2 rfl|(simp only [zz]<;>exact rfl))));(with_reducible apply TO.here)))
                              have hb:=Option.some.inj hr
                              first|(cases hb;done)|(refine ⟨.inr rfl,?_⟩;first|(simp only [hb]<;>exact rfl)|(simp only [h1,h2,h12,h21,h23,h24,h27,h29,h31,h33,h37,h39,h41,h44] at hb;simp only [tresAll,tres,z1,hb,Option.map_some]<;>exact rfl))
                            · rw [if_neg (by rw [h44];exact Bool.false_ne_true)] at hr
                              repeat (first|(with_reducible first|refine mv ?_|refine TO.nil ?_)|((with_reducible first|apply TO.pk|apply TO.asg);(repeat (focus (show _ = _;first|exact k2 rfl|(simp only [zz]<;>exact rfl))));(with_reducible apply TO.here))|((with_reducible apply TO.skip1);(repeat (focus (show _ = _;(simp only [zz,twant,zp,zs,h44]<;>exact rfl))));(with_reducible apply TO.here)))
                              have hb:=Option.some.inj hr
                              first|(cases hb;done)|(refine ⟨.inr rfl,?_⟩;first|(simp only [tresAll,tres,z1,hb,Option.map_some]<;>exact rfl)|(simp only [h1,h2,h12,h21,h23,h24,h27,h29,h31,h33,h37,h39,h41,h44] at hb;simp only [tresAll,tres,z1,hb,Option.map_some]<;>exact rfl))
                        · rw [if_neg (by rw [h39];exact Bool.false_ne_true)] at hr
                          repeat (first|(with_reducible first|refine mv ?_|refine TO.nil ?_)|((with_reducible apply TO.asg);(repeat (focus (show _ = _;first|exact k2 rfl|(simp only [zz,h39]<;>exact rfl))));(with_reducible apply TO.here))|((with_reducible apply TX.region);(focus (simp only []<;>exact rfl));(focus rfl);(try dsimp only))|((with_reducible apply TX.cond_true);(focus rfl);(focus ((simp only [z1,zn,h39];done)))))
                          have hb:=Option.some.inj hr
                          first|(cases hb;done)|(refine ⟨.inr rfl,?_⟩;first|(simp only [tresAll,tres,z1,hb,Option.map_some]<;>exact rfl)|(simp only [h1,h2,h12,h21,h23,h24,h27,h29,h31,h33,h37,h39] at hb;simp only [tresAll,tres,z1,hb,Option.map_some]<;>exact rfl))
                  · rw [if_neg (by rw [h31];exact Bool.false_ne_true)] at hr
                    repeat (first|(with_reducible first|refine mv ?_|refine TO.nil ?_)|((with_reducible apply TO.asg);(repeat (focus (show _ = _;first|exact k2 rfl|(simp only [zz,h31]<;>exact rfl))));(with_reducible apply TO.here))|((with_reducible apply TX.region);(focus (simp only []<;>exact rfl));(focus rfl);(try dsimp only))|((with_reducible apply TX.cond_true);(focus rfl);(focus ((simp only [z1,zn,h31];done)))))
                    have hb:=Option.some.inj hr
                    first|(cases hb;done)|(refine ⟨.inr rfl,?_⟩;first|(simp only [tresAll,tres,z1,hb,Option.map_some]<;>exact rfl)|(simp only [h1,h2,h12,h21,h23,h24,h27,h29,h31] at hb;simp only [tresAll,tres,z1,hb,Option.map_some]<;>exact rfl))
              · rw [if_neg (by rw [h27];exact Bool.false_ne_true)] at hr
                repeat (first|(with_reducible first|refine mv ?_|refine TO.nil ?_)|((with_reducible apply TO.asg);(repeat (focus (show _ = _;first|exact k2 rfl|(simp only [zz,h27]<;>exact rfl))));(with_reducible apply TO.here))|((with_reducible apply TX.region);(focus (simp only []<;>exact rfl));(focus rfl);(try dsimp only))|((with_reducible apply TX.cond_true);(focus rfl);(focus ((simp only [z1,zn,h27];done)))))
                have hb:=Option.some.inj hr
                first|(cases hb;done)|(refine ⟨.inr rfl,?_⟩;first|(simp only [tresAll,tres,z1,hb,Option.map_some]<;>exact rfl)|(simp only [h1,h2,h12,h21,h23,h24,h27] at hb;simp only [tresAll,tres,z1,hb,Option.map_some]<;>exact rfl))
          · rw [if_neg (by rw [h23];exact Bool.false_ne_true)] at hr
            repeat (first|(with_reducible first|refine mv ?_|refine TO.nil ?_)|((with_reducible apply TO.asg);(repeat (focus (show _ = _;first|exact k2 rfl|(simp only [zz]<;>exact rfl))));(with_reducible apply TO.here))|((with_reducible apply TX.region);(focus (simp only []<;>exact rfl));(focus rfl);(try dsimp only))|with_reducible refine TD.nil ?_|((with_reducible first|apply TD.pk|apply TD.mv);(repeat (focus (show _ = _;first|exact k2 rfl|(simp only [zz,h23]<;>exact rfl))));(with_reducible refine TD.here ?_))|((with_reducible apply TD.skip1);(repeat (focus (show _ = _;(simp only [zz,twant,zp,zs,h23]<;>exact rfl))));(with_reducible refine TD.here ?_))|((with_reducible apply TX.cond_true);(focus rfl);(focus (rfl))))
            have hb:=Option.some.inj hr
            first|(cases hb;done)|(refine ⟨.inr rfl,?_⟩;first|(simp only [tresAll,tres,z1,hb,Option.map_some]<;>exact rfl)|(simp only [h1,h2,h12,h21,h23] at hb;simp only [tresAll,tres,z1,hb,Option.map_some]<;>exact rfl))

end Go.Rex
