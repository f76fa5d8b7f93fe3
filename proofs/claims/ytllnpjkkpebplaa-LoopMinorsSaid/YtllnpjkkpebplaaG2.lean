/- Proofs that the program's functions do what these plain functions say. -/
import Derived.Test.YtllnpjkkpebplaaGB
import Derived.Test.YtllnpjkkpebplaaS
import Derived.Test.YtllnpjkkpebplaaG1
set_option linter.unusedSimpArgs false
set_option linter.unusedVariables false
set_option linter.defProp false
namespace Go.Rex
open Go.Proofs
open Go Go.Rex Go.RowKit
set_option maxRecDepth 100000
set_option maxHeartbeats 200000
def y22:=an @ag126 <| an @by3 <| an @cs126 <| an @cs3 <| an @ni22 <| an @ok126 <| an @so146 <| an @so22 <| an @zc3 <| @wi64_0a1
theorem loop_lines_minors_spec {v1 : (List (List Int))} {v2 : (List Int)} (hr : loop_lines_minors v1 = some (v2)) : Spec (lim Try.prog) 92 [.agg [.list 1 (v1.map e_Li_)]] ⟨[.lsl 0 0 v2.length],[.rows 1 (v2.map e_i)]⟩:=by
  unfold loop_lines_minors at hr
  apply Spec.fn Try.func92 rfl
  focus (simp [Try.f92]<;>exact rfl)
  focus
    repeat (first|(with_reducible first|refine mv ?_|refine TO.nil ?_)|((with_reducible first|apply TO.bf|apply TO.asg|apply TO.ld);(repeat (focus (show _ = _;first|exact k1 rfl|exact k2 rfl|(simp only [zz,y22,Nat.reduceAdd,Nat.reduceLeDiff,tload,rowOf,partT]<;>exact rfl)|exact rfl)));(with_reducible apply TO.here))|((with_reducible apply TX.region);(focus (simp only []<;>exact rfl));(focus rfl);(try dsimp only)))
    obtain ⟨v3,h1,hr⟩:=Option.bind_eq_some_iff.1 hr
    try dsimp only at hr
    apply TO.cal (by first|rfl|(simp only [twant,z1,zp,zs];done)) rfl goFn125 (loop_lines_matrix_spec h1) rfl rfl rfl
    (repeat (focus (show _ = _;(simp only [zz,Nat.reduceAdd,shift]<;>exact rfl))))
    with_reducible apply TO.here
    repeat (first|(with_reducible first|refine mv ?_|refine TO.nil ?_)|((with_reducible first|apply TO.asg|apply TO.mv|apply TO.len);(repeat (focus (show _ = _;first|exact k2 rfl|(simp only [zz,y22,tlen]<;>exact rfl))));(with_reducible apply TO.here))|((with_reducible apply TX.region);(focus (simp only []<;>exact rfl));(focus rfl);(try dsimp only)))
    apply TX.vt (α:=Int) e_i 4 1 rfl
    (repeat (focus (show _ = _;(simp only [zz,Nat.reduceAdd]<;>exact rfl))))
    with_reducible apply TX.here
    apply TX.frz 0 rfl rfl
    (repeat (focus (show _ = _;(simp only [zz,Nat.reduceEqDiff,frz,frzB,tmlc]<;>exact rfl))))
    with_reducible apply TX.here
    obtain ⟨v13,h10,hr⟩:=Option.bind_eq_some_iff.1 hr
    try dsimp only at hr
    refine TX.loopE (step:=loop_lines_minors_l1 v3) (x:=(([] : List Int),0)) h10 (fun (v4,v5)=>⟨.junk :: .junk :: .junk :: .list 1 (v3.map e_Li_) :: .lsl 0 0 v4.length :: .junk :: .junk :: .junk :: .junk :: .v (.int .i64 (v3.length : Int)) :: .v (.int .i64 v5) :: .junk :: .junk :: .junk :: .junk :: .junk :: .junk :: .junk :: .junk :: .junk :: .junk :: .junk :: .junk :: [],[.rows 1 (v4.map e_i)]⟩) (fun v9=>(.exit 0,⟨.junk :: .junk :: .junk :: .junk :: .lsl 0 0 v9.length :: .junk :: .junk :: .junk :: .junk :: .junk :: .junk :: .junk :: .junk :: .junk :: .junk :: .junk :: .junk :: .junk :: .junk :: .junk :: .junk :: .junk :: .junk :: [],[.rows 1 (v9.map e_i)]⟩)) ?_ ?_ ?_ ?_
    · rintro ⟨v4,v5⟩ v0 hr
      dsimp only [loop_lines_minors_l1] at hr
      try dsimp only
      repeat (first|(with_reducible first|refine mv ?_|refine TO.nil ?_)|((with_reducible apply TO.bin);(repeat (focus (show _ = _;first|exact k2 rfl|(simp only [zz]<;>exact rfl))));(with_reducible apply TO.here))|((with_reducible apply TX.region);(focus (simp only []<;>exact rfl));(focus rfl);(try dsimp only)))
      rcases Bool.eq_false_or_eq_true ((decide (v5 < (v3.length : Int)))) with h6|h6
      · rw [if_pos h6] at hr
        repeat (first|(with_reducible first|refine mv ?_|refine TO.nil ?_)|((with_reducible first|apply TO.mv|apply TO.asg|apply TO.bin);(repeat (focus (show _ = _;first|exact k2 rfl|(simp only [zz,h6]<;>exact rfl))));(with_reducible apply TO.here))|((with_reducible apply TX.region);(focus (simp only []<;>exact rfl));(focus rfl);(try dsimp only))|((with_reducible apply TX.cond_true);(focus rfl);(focus ((simp only [z1,h6];done)))))
        obtain ⟨v10,h7,hr⟩:=Option.bind_eq_some_iff.1 hr
        try dsimp only at hr
        apply TO.cal (by first|rfl|(simp only [twant,z1,zp,zs,h6];done)) rfl goFn126 (loop_matrix_leading_spec h7) rfl rfl rfl
        (repeat (focus (show _ = _;(simp only [zz,Nat.reduceAdd,shift]<;>exact rfl))))
        with_reducible apply TO.here
        obtain ⟨v11,h8,hr⟩:=Option.bind_eq_some_iff.1 hr
        try dsimp only at hr
        apply TO.lok (by first|rfl|(simp only [twant,z1,zp,zs,h6];done)) rfl goFn127 (loop_matrix_determinant_spec h8) (by simp only [view,z1,z3,tmlc]<;>rfl) rfl rfl (by simp [])
        (repeat (focus (show _ = _;(simp only [zz,shift]<;>exact rfl))))
        with_reducible apply TO.here
        apply TO.bm e_i ([v11] : List Int) (by first|rfl|(simp only [twant,z1,zp,zs,h6];done)) rfl (by simp only [zz,y22,e_i,Nat.reduceAdd,Nat.reduceMul,tslice,tparts];exact rfl) rfl
        (repeat (focus (show _ = _;(simp only [zz,e_i]<;>exact rfl))))
        with_reducible apply TO.here
        obtain ⟨v12,h9,hr⟩:=Option.bind_eq_some_iff.1 hr
        try dsimp only at hr
        apply TO.ap (f:=e_i) (xs:=v4) (ys:=([v11] : List Int)) (by first|rfl|(simp only [twant,z1,zp,zs,h6];done)) rfl rfl (by first|rfl|simp only [List.length_set]) rfl rfl so22 ni22 zc3 rfl (by rw [by3];exact h9) (fun _=>⟨rfl,rfl,rfl⟩)
        (repeat (focus (show _ = _;(simp only [zz,Nat.reduceAdd,Nat.reduceEqDiff,kill,killB]<;>exact rfl))))
        with_reducible apply TO.here
        repeat (first|(with_reducible first|refine mv ?_|refine TO.nil ?_)|((with_reducible first|apply TO.asg|apply TO.bin|apply TO.mv);(repeat (focus (show _ = _;first|exact k2 rfl|(simp only [zz]<;>exact rfl))));(with_reducible apply TO.here))|((with_reducible apply TX.region);(focus (simp only []<;>exact rfl));(focus rfl);(try dsimp only)))
        cases hr
        refine ⟨rfl,?_⟩
        exact Wk.ren [some 0] rfl (.rows .nil rfl rfl) (by (repeat (first|exact RNs.nil|refine RNs.cons .junk ?_|refine RNs.cons (.keep rfl rfl) ?_|refine RNs.cons (.lsl rfl rfl) ?_|refine RNs.cons (.lsl rfl (by simp only [List.length_set])) ?_|refine RNs.cons (.lptr rfl) ?_|refine RNs.cons (.nil rfl) ?_|refine RNs.cons .nl ?_|refine RNs.cons (.keep (by simp only [h6]) rfl) ?_|refine RNs.cons (.tuple' ?_) ?_|refine RNs.cons (.agg' ?_) ?_)))
      · rw [if_neg (by rw [h6];exact Bool.false_ne_true)] at hr
        repeat (first|with_reducible refine mv ?_|((with_reducible apply TX.cond_false);(focus rfl);(focus ((simp only [z1,h6];done)))))
        cases hr
        refine ⟨rfl,?_⟩
        exact Wk.ren [some 0] rfl (.rows .nil rfl rfl) (by (repeat (first|exact RNs.nil|refine RNs.cons .junk ?_|refine RNs.cons (.keep rfl rfl) ?_|refine RNs.cons (.lsl rfl rfl) ?_|refine RNs.cons (.lsl rfl (by simp only [List.length_set])) ?_|refine RNs.cons (.lptr rfl) ?_|refine RNs.cons (.nil rfl) ?_|refine RNs.cons .nl ?_|refine RNs.cons (.keep (by simp only [h6]) rfl) ?_|refine RNs.cons (.tuple' ?_) ?_|refine RNs.cons (.agg' ?_) ?_)))
    · intro e h;cases h
    · try dsimp only
      repeat (first|(with_reducible first|refine mv ?_|refine TO.nil ?_)|((with_reducible first|apply TO.mv|apply TO.asg);(repeat (focus (show _ = _;first|exact k2 rfl|(simp only [zz]<;>exact rfl))));(with_reducible apply TO.here))|((with_reducible apply TX.region);(focus (simp only []<;>exact rfl));(focus rfl);(try dsimp only)))
      cases hr
      refine ⟨.inr rfl,_,(by simp only [];exact rfl),?_⟩
      exact wr [some 0] rfl (.rows .nil rfl rfl)
    · try dsimp only
      exact wr [some 1] rfl (.rows .nil rfl rfl)
  rfl

end Go.Rex

namespace Go.Rex
open Go.Proofs
open Go Go.Rex Go.RowKit
set_option maxRecDepth 100000
set_option maxHeartbeats 200000
def y23:=an @ag126 <| an @ag83 <| an @cs126 <| an @cs83 <| an @ok126 <| an @ok83 <| an @st126 <| @zc126
theorem loop_Minors_spec {v1 : (List (List Int))} {v2 : (List Int)} {v3 : Int} (hr : loop_Minors v1 = some (v2,v3)) : Spec (lim Try.prog) 53 [.agg [.list 1 (v1.map e_Li_)]] ⟨[.tuple [.lsl 0 0 v2.length,.v (.int .i64 v3)]],[.rows 1 (v2.map e_i)]⟩:=by
  unfold loop_Minors at hr
  apply Spec.fn Try.func53 rfl
  focus (simp [Try.f53]<;>exact rfl)
  focus
    repeat (first|(with_reducible first|refine mv ?_|refine TO.nil ?_)|((with_reducible first|apply TO.bf|apply TO.asg|apply TO.ld|apply TO.bld|apply TO.al|apply TO.sv);(repeat (focus (show _ = _;first|exact k1 rfl|exact k2 rfl|(simp only [zz,y23,Nat.reduceAdd,Nat.reduceLeDiff,tload,rowOf,partT,tbuild,tfill]<;>exact rfl)|exact rfl)));(with_reducible apply TO.here))|((with_reducible apply TX.region);(focus (simp only []<;>exact rfl));(focus rfl);(try dsimp only)))
    obtain ⟨v4,h1,hr⟩:=Option.bind_eq_some_iff.1 hr
    try dsimp only at hr
    apply TO.cal (by first|rfl|(simp only [twant,z1,zp,zs];done)) rfl goFn91 (loop_lines_check_spec h1) rfl rfl rfl
    (repeat (focus (show _ = _;(simp only [zz,shift]<;>exact rfl))))
    with_reducible apply TO.here
    repeat (first|(with_reducible first|refine mv ?_|refine TO.nil ?_)|((with_reducible first|apply TO.asg|apply TO.mv|apply TO.bin);(repeat (focus (show _ = _;first|exact k2 rfl|(simp only [zz]<;>exact rfl))));(with_reducible apply TO.here))|((with_reducible apply TX.region);(focus (simp only []<;>exact rfl));(focus rfl);(try dsimp only)))
    rcases Bool.eq_false_or_eq_true ((decide (v4 ≠ 0))) with h2|h2
    · rw [if_pos h2] at hr
      repeat (first|(with_reducible first|refine mv ?_|refine TO.nil ?_)|((with_reducible first|apply TO.mv|apply TO.asg);(repeat (focus (show _ = _;first|exact k2 rfl|(simp only [zz,h2]<;>exact rfl))));(with_reducible apply TO.here))|((with_reducible apply TX.region);(focus (simp only []<;>exact rfl));(focus rfl);(try dsimp only))|((with_reducible apply TX.cond_true);(focus rfl);(focus ((simp only [z1,h2];done)))))
      cases hr
      refine ⟨.inr rfl,_,(by simp only [];exact rfl),?_⟩
      exact Wk.ren [none] rfl (.virt .nil) (by (repeat (first|exact RNs.nil|refine RNs.cons .junk ?_|refine RNs.cons (.keep rfl rfl) ?_|refine RNs.cons (.lsl rfl rfl) ?_|refine RNs.cons (.lsl rfl (by simp only [List.length_set])) ?_|refine RNs.cons (.lptr rfl) ?_|refine RNs.cons (.nil rfl) ?_|refine RNs.cons .nl ?_|refine RNs.cons (.keep (by simp only []) rfl) ?_|refine RNs.cons (.tuple' ?_) ?_|refine RNs.cons (.agg' ?_) ?_)))
    · rw [if_neg (by rw [h2];exact Bool.false_ne_true)] at hr
      repeat (first|with_reducible refine mv ?_|((with_reducible apply TO.ld);(repeat (focus (show _ = _;first|exact k2 rfl|(simp only [zz,y23,Nat.reduceAdd,Nat.reduceLeDiff,tload,rowOf,partT,h2]<;>exact rfl)|exact rfl)));(with_reducible apply TO.here))|((with_reducible apply TX.region);(focus (simp only []<;>exact rfl));(focus rfl);(try dsimp only))|((with_reducible apply TX.cond_false);(focus rfl);(focus ((simp only [z1,h2];done)))))
      obtain ⟨v5,h3,hr⟩:=Option.bind_eq_some_iff.1 hr
      try dsimp only at hr
      apply TO.cal (by first|rfl|(simp only [twant,z1,zp,zs,h2];done)) rfl goFn92 (loop_lines_minors_spec h3) rfl rfl rfl
      (repeat (focus (show _ = _;(simp only [zz,Nat.reduceAdd,shift]<;>exact rfl))))
      with_reducible apply TO.here
      repeat (first|(with_reducible first|refine mv ?_|refine TO.nil ?_)|((with_reducible apply TO.asg);(repeat (focus (show _ = _;first|exact k2 rfl|(simp only [zz]<;>exact rfl))));(with_reducible apply TO.here)))
      cases hr
      refine ⟨.inr rfl,_,(by simp only [];exact rfl),?_⟩
      exact Wk.ren [some 1] rfl (.rows .nil rfl rfl) (by (repeat (first|exact RNs.nil|refine RNs.cons .junk ?_|refine RNs.cons (.keep rfl rfl) ?_|refine RNs.cons (.lsl rfl rfl) ?_|refine RNs.cons (.lsl rfl (by simp only [List.length_set])) ?_|refine RNs.cons (.lptr rfl) ?_|refine RNs.cons (.nil rfl) ?_|refine RNs.cons .nl ?_|refine RNs.cons (.keep (by simp only []) rfl) ?_|refine RNs.cons (.tuple' ?_) ?_|refine RNs.cons (.agg' ?_) ?_)))
  rfl

end Go.Rex

namespace Go.Rex
open Go.Proofs
open Go Go.Rex Go.RowKit
set_option maxRecDepth 100000
set_option maxHeartbeats 200000
def y24:=an @ag3 <| an @cs3 <| an @ok3 <| an @so22 <| @wi64_1a1
theorem slices_Min_int_int_spec {v1 : (List Int)} {v2 : Int} (hr : slices_Min_int_int v1 = some (v2)) : Spec (lim Try.prog) 128 [.list 1 (v1.map e_i)] ⟨[.v (.int .i64 v2)],[]⟩:=by
  unfold slices_Min_int_int at hr
  apply Spec.fn Try.func128 rfl
  focus (simp [Try.f128]<;>exact rfl)
  focus
    repeat (first|(with_reducible first|refine mv ?_|refine TO.nil ?_)|((with_reducible first|apply TO.asg|apply TO.mv|apply TO.len|apply TO.bin);(repeat (focus (show _ = _;first|exact k2 rfl|(simp only [zz,y24,tlen]<;>exact rfl))));(with_reducible apply TO.here))|((with_reducible apply TX.region);(focus (simp only []<;>exact rfl));(focus rfl);(try dsimp only)))
    rcases Bool.eq_false_or_eq_true ((decide ((v1.length : Int) < 1))) with h1|h1
    · rw [if_pos h1] at hr
      cases hr
    · rw [if_neg (by rw [h1];exact Bool.false_ne_true)] at hr
      repeat (first|with_reducible refine mv ?_|((with_reducible apply TO.mv);(repeat (focus (show _ = _;first|exact k2 rfl|(simp only [zz,h1]<;>exact rfl))));(with_reducible apply TO.here))|((with_reducible apply TX.region);(focus (simp only []<;>exact rfl));(focus rfl);(try dsimp only))|((with_reducible apply TX.cond_false);(focus rfl);(focus ((simp only [z1,h1];done)))))
      obtain ⟨v3,h2,hr⟩:=Option.bind_eq_some_iff.1 hr
      try dsimp only at hr
      have h2m:=tidx_map (f:=e_i) h2
      have h2l:=getI_lt h2
      try simp only [List.length_set] at h2l
      have h2a:=getI_at h2
      repeat (first|(with_reducible first|refine mv ?_|refine TO.nil ?_)|((with_reducible first|apply TO.ia|apply TO.ld|apply TO.asg);(repeat (focus (show _ = _;first|exact k2 rfl|(simp only [zz,y24,e_i,tindexAddr,tload,rowOf,partT,h2m]<;>exact rfl)|exact rfl)));(with_reducible apply TO.here))|((with_reducible apply TX.region);(focus (simp only []<;>exact rfl));(focus rfl);(try dsimp only)))
      obtain ⟨v9,h7,hr⟩:=Option.bind_eq_some_iff.1 hr
      try dsimp only at hr
      refine TX.loopE (step:=slices_Min_int_int_l1 v1) (x:=(v3,1)) h7 (fun (v4,v5)=>⟨.list 1 (v1.map e_i) :: .junk :: .junk :: .v (.int .i64 v4) :: .v (.int .i64 v5) :: .junk :: .junk :: .junk :: .junk :: .junk :: .junk :: .junk :: .junk :: .junk :: .junk :: .junk :: .junk :: .junk :: .junk :: .junk :: .junk :: .junk :: .junk :: .junk :: .junk :: [],[]⟩) (fun v7=>(.exit 0,⟨.junk :: .junk :: .junk :: .v (.int .i64 v7) :: .junk :: .junk :: .junk :: .junk :: .junk :: .junk :: .junk :: .junk :: .junk :: .junk :: .junk :: .junk :: .junk :: .junk :: .junk :: .junk :: .junk :: .junk :: .junk :: .junk :: .junk :: [],[]⟩)) ?_ ?_ ?_ ?_
      · rintro ⟨v4,v5⟩ v0 hr
        dsimp only [slices_Min_int_int_l1] at hr
        try dsimp only
        repeat (first|(with_reducible first|refine mv ?_|refine TO.nil ?_)|((with_reducible first|apply TO.mv|apply TO.len|apply TO.bin);(repeat (focus (show _ = _;first|exact k2 rfl|(simp only [zz,y24,tlen]<;>exact rfl))));(with_reducible apply TO.here))|((with_reducible apply TX.region);(focus (simp only []<;>exact rfl));(focus rfl);(try dsimp only)))
        rcases Bool.eq_false_or_eq_true ((decide (v5 < (v1.length : Int)))) with h5|h5
        · rw [if_pos h5] at hr
          repeat (first|with_reducible refine mv ?_|((with_reducible apply TO.mv);(repeat (focus (show _ = _;first|exact k2 rfl|(simp only [zz,h5]<;>exact rfl))));(with_reducible apply TO.here))|((with_reducible apply TX.region);(focus (simp only []<;>exact rfl));(focus rfl);(try dsimp only))|((with_reducible apply TX.cond_true);(focus rfl);(focus ((simp only [z1,h5];done)))))
          obtain ⟨v8,h6,hr⟩:=Option.bind_eq_some_iff.1 hr
          try dsimp only at hr
          have h6m:=tidx_map (f:=e_i) h6
          have h6l:=getI_lt h6
          try simp only [List.length_set] at h6l
          have h6a:=getI_at h6
          repeat (first|((with_reducible first|apply TO.ia|apply TO.ld);(repeat (focus (show _ = _;first|exact k2 rfl|(simp only [zz,y24,e_i,tindexAddr,tload,rowOf,partT,h6m]<;>exact rfl)|exact rfl)));(with_reducible apply TO.here)))
          apply TO.pop1 (by first|rfl|(simp only [twant,z1,zp,zs,h1,h2m,h2l,h2a,h5,h6m,h6l,h6a];done)) (pop_min rfl rfl)
          (repeat (focus (show _ = _;(simp only [zz]<;>exact rfl))))
          with_reducible apply TO.here
          repeat (first|(with_reducible first|refine mv ?_|refine TO.nil ?_)|((with_reducible first|apply TO.asg|apply TO.mv|apply TO.bin);(repeat (focus (show _ = _;first|exact k2 rfl|(simp only [zz]<;>exact rfl))));(with_reducible apply TO.here))|((with_reducible apply TX.region);(focus (simp only []<;>exact rfl));(focus rfl);(try dsimp only)))
          cases hr
          refine ⟨rfl,?_⟩
          exact Wk.ren [] rfl .nil (by (repeat (first|exact RNs.nil|refine RNs.cons .junk ?_|refine RNs.cons (.keep rfl rfl) ?_|refine RNs.cons (.lsl rfl rfl) ?_|refine RNs.cons (.lsl rfl (by simp only [List.length_set])) ?_|refine RNs.cons (.lptr rfl) ?_|refine RNs.cons (.nil rfl) ?_|refine RNs.cons .nl ?_|refine RNs.cons (.keep (by simp only [h1,h5]) rfl) ?_|refine RNs.cons (.tuple' ?_) ?_|refine RNs.cons (.agg' ?_) ?_)))
        · rw [if_neg (by rw [h5];exact Bool.false_ne_true)] at hr
          repeat (first|with_reducible refine mv ?_|((with_reducible apply TX.cond_false);(focus rfl);(focus ((simp only [z1,h5];done)))))
          cases hr
          refine ⟨rfl,?_⟩
          exact Wk.ren [] rfl .nil (by (repeat (first|exact RNs.nil|refine RNs.cons .junk ?_|refine RNs.cons (.keep rfl rfl) ?_|refine RNs.cons (.lsl rfl rfl) ?_|refine RNs.cons (.lsl rfl (by simp only [List.length_set])) ?_|refine RNs.cons (.lptr rfl) ?_|refine RNs.cons (.nil rfl) ?_|refine RNs.cons .nl ?_|refine RNs.cons (.keep (by simp only [h1,h5]) rfl) ?_|refine RNs.cons (.tuple' ?_) ?_|refine RNs.cons (.agg' ?_) ?_)))
      · intro e h;cases h
      · try dsimp only
        repeat (first|(with_reducible first|refine mv ?_|refine TO.nil ?_)|((with_reducible first|apply TO.mv|apply TO.asg);(repeat (focus (show _ = _;first|exact k2 rfl|(simp only [zz]<;>exact rfl))));(with_reducible apply TO.here))|((with_reducible apply TX.region);(focus (simp only []<;>exact rfl));(focus rfl);(try dsimp only)))
        cases hr
        refine ⟨.inr rfl,_,(by simp only [];exact rfl),?_⟩
        exact Wk.ren [] rfl .nil (by (repeat (first|exact RNs.nil|refine RNs.cons .junk ?_|refine RNs.cons (.keep rfl rfl) ?_|refine RNs.cons (.lsl rfl rfl) ?_|refine RNs.cons (.lsl rfl (by simp only [List.length_set])) ?_|refine RNs.cons (.lptr rfl) ?_|refine RNs.cons (.nil rfl) ?_|refine RNs.cons .nl ?_|refine RNs.cons (.keep (by simp only [h1]) rfl) ?_|refine RNs.cons (.tuple' ?_) ?_|refine RNs.cons (.agg' ?_) ?_)))
      · try dsimp only
        exact Wk.ren [] rfl .nil (by (repeat (first|exact RNs.nil|refine RNs.cons .junk ?_|refine RNs.cons (.keep rfl rfl) ?_|refine RNs.cons (.lsl rfl rfl) ?_|refine RNs.cons (.lsl rfl (by simp only [List.length_set])) ?_|refine RNs.cons (.lptr rfl) ?_|refine RNs.cons (.nil rfl) ?_|refine RNs.cons .nl ?_|refine RNs.cons (.keep (by simp only [h1]) rfl) ?_|refine RNs.cons (.tuple' ?_) ?_|refine RNs.cons (.agg' ?_) ?_)))
  rfl

end Go.Rex

namespace Go.Rex
open Go.Proofs
open Go Go.Rex Go.RowKit
set_option maxRecDepth 100000
set_option maxHeartbeats 200000
def y25:=an @ag126 <| an @cs126 <| @ok126
theorem loop_lines_fade_spec {v1 : (List (List Int))} {v2 : Bool} (hr : loop_lines_fade v1 = some (v2)) : Spec (lim Try.prog) 94 [.agg [.list 1 (v1.map e_Li_)]] ⟨[.v (.bool v2)],[]⟩:=by
  unfold loop_lines_fade at hr
  apply Spec.fn Try.func94 rfl
  focus (simp [Try.f94]<;>exact rfl)
  focus
    repeat (first|(with_reducible first|refine mv ?_|refine TO.nil ?_)|((with_reducible first|apply TO.bf|apply TO.asg|apply TO.ld);(repeat (focus (show _ = _;first|exact k1 rfl|exact k2 rfl|(simp only [zz,y25,Nat.reduceAdd,Nat.reduceLeDiff,tload,rowOf,partT]<;>exact rfl)|exact rfl)));(with_reducible apply TO.here))|((with_reducible apply TX.region);(focus (simp only []<;>exact rfl));(focus rfl);(try dsimp only)))
    obtain ⟨v3,h1,hr⟩:=Option.bind_eq_some_iff.1 hr
    try dsimp only at hr
    apply TO.cal (by first|rfl|(simp only [twant,z1,zp,zs];done)) rfl goFn92 (loop_lines_minors_spec h1) rfl rfl rfl
    (repeat (focus (show _ = _;(simp only [zz,Nat.reduceAdd,shift]<;>exact rfl))))
    with_reducible apply TO.here
    obtain ⟨v4,h2,hr⟩:=Option.bind_eq_some_iff.1 hr
    try dsimp only at hr
    apply TO.lok (by first|rfl|(simp only [twant,z1,zp,zs];done)) rfl goFn128 (slices_Min_int_int_spec h2) (by simp only [view,z1,z3,tmlc]<;>rfl) rfl rfl (by simp [])
    (repeat (focus (show _ = _;(simp only [zz,shift]<;>exact rfl))))
    with_reducible apply TO.here
    repeat (first|(with_reducible first|refine mv ?_|refine TO.nil ?_)|((with_reducible first|apply TO.bin|apply TO.asg);(repeat (focus (show _ = _;first|exact k2 rfl|(simp only [zz]<;>exact rfl))));(with_reducible apply TO.here)))
    cases hr
    refine ⟨.inr rfl,_,(by simp only [];exact rfl),?_⟩
    exact wr [] rfl .nil
  rfl

end Go.Rex

namespace Go.Rex
open Go.Proofs
open Go Go.Rex Go.RowKit
set_option maxRecDepth 100000
set_option maxHeartbeats 200000
def y26:=an @ag126 <| an @ag83 <| an @cs126 <| an @cs83 <| an @ok126 <| an @ok83 <| an @st126 <| @zc126
theorem loop_Fades_spec {v1 : (List (List Int))} {v2 : Bool} {v3 : Int} (hr : loop_Fades v1 = some (v2,v3)) : Spec (lim Try.prog) 55 [.agg [.list 1 (v1.map e_Li_)]] ⟨[.tuple [.v (.bool v2),.v (.int .i64 v3)]],[]⟩:=by
  unfold loop_Fades at hr
  apply Spec.fn Try.func55 rfl
  focus (simp [Try.f55]<;>exact rfl)
  focus
    repeat (first|(with_reducible first|refine mv ?_|refine TO.nil ?_)|((with_reducible first|apply TO.bf|apply TO.asg|apply TO.ld|apply TO.bld|apply TO.al|apply TO.sv);(repeat (focus (show _ = _;first|exact k1 rfl|exact k2 rfl|(simp only [zz,y26,Nat.reduceAdd,Nat.reduceLeDiff,tload,rowOf,partT,tbuild,tfill]<;>exact rfl)|exact rfl)));(with_reducible apply TO.here))|((with_reducible apply TX.region);(focus (simp only []<;>exact rfl));(focus rfl);(try dsimp only)))
    obtain ⟨v4,h1,hr⟩:=Option.bind_eq_some_iff.1 hr
    try dsimp only at hr
    apply TO.cal (by first|rfl|(simp only [twant,z1,zp,zs];done)) rfl goFn91 (loop_lines_check_spec h1) rfl rfl rfl
    (repeat (focus (show _ = _;(simp only [zz,shift]<;>exact rfl))))
    with_reducible apply TO.here
    repeat (first|(with_reducible first|refine mv ?_|refine TO.nil ?_)|((with_reducible first|apply TO.asg|apply TO.mv|apply TO.bin);(repeat (focus (show _ = _;first|exact k2 rfl|(simp only [zz]<;>exact rfl))));(with_reducible apply TO.here))|((with_reducible apply TX.region);(focus (simp only []<;>exact rfl));(focus rfl);(try dsimp only)))
    rcases Bool.eq_false_or_eq_true ((decide (v4 ≠ 0))) with h2|h2
    · rw [if_pos h2] at hr
      repeat (first|(with_reducible first|refine mv ?_|refine TO.nil ?_)|((with_reducible first|apply TO.mv|apply TO.asg);(repeat (focus (show _ = _;first|exact k2 rfl|(simp only [zz,h2]<;>exact rfl))));(with_reducible apply TO.here))|((with_reducible apply TX.region);(focus (simp only []<;>exact rfl));(focus rfl);(try dsimp only))|((with_reducible apply TX.cond_true);(focus rfl);(focus ((simp only [z1,h2];done)))))
      cases hr
      refine ⟨.inr rfl,_,(by simp only [];exact rfl),?_⟩
      exact Wk.ren [] rfl .nil (by (repeat (first|exact RNs.nil|refine RNs.cons .junk ?_|refine RNs.cons (.keep rfl rfl) ?_|refine RNs.cons (.lsl rfl rfl) ?_|refine RNs.cons (.lsl rfl (by simp only [List.length_set])) ?_|refine RNs.cons (.lptr rfl) ?_|refine RNs.cons (.nil rfl) ?_|refine RNs.cons .nl ?_|refine RNs.cons (.keep (by simp only [h2]) rfl) ?_|refine RNs.cons (.tuple' ?_) ?_|refine RNs.cons (.agg' ?_) ?_)))
    · rw [if_neg (by rw [h2];exact Bool.false_ne_true)] at hr
      repeat (first|with_reducible refine mv ?_|((with_reducible apply TO.ld);(repeat (focus (show _ = _;first|exact k2 rfl|(simp only [zz,y26,Nat.reduceAdd,Nat.reduceLeDiff,tload,rowOf,partT,h2]<;>exact rfl)|exact rfl)));(with_reducible apply TO.here))|((with_reducible apply TX.region);(focus (simp only []<;>exact rfl));(focus rfl);(try dsimp only))|((with_reducible apply TX.cond_false);(focus rfl);(focus ((simp only [z1,h2];done)))))
      obtain ⟨v5,h3,hr⟩:=Option.bind_eq_some_iff.1 hr
      try dsimp only at hr
      apply TO.cal (by first|rfl|(simp only [twant,z1,zp,zs,h2];done)) rfl goFn94 (loop_lines_fade_spec h3) rfl rfl rfl
      (repeat (focus (show _ = _;(simp only [zz,shift]<;>exact rfl))))
      with_reducible apply TO.here
      repeat (first|(with_reducible first|refine mv ?_|refine TO.nil ?_)|((with_reducible apply TO.asg);(repeat (focus (show _ = _;first|exact k2 rfl|(simp only [zz]<;>exact rfl))));(with_reducible apply TO.here)))
      cases hr
      refine ⟨.inr rfl,_,(by simp only [];exact rfl),?_⟩
      exact Wk.ren [] rfl .nil (by (repeat (first|exact RNs.nil|refine RNs.cons .junk ?_|refine RNs.cons (.keep rfl rfl) ?_|refine RNs.cons (.lsl rfl rfl) ?_|refine RNs.cons (.lsl rfl (by simp only [List.length_set])) ?_|refine RNs.cons (.lptr rfl) ?_|refine RNs.cons (.nil rfl) ?_|refine RNs.cons .nl ?_|refine RNs.cons (.keep (by simp only [h2]) rfl) ?_|refine RNs.cons (.tuple' ?_) ?_|refine RNs.cons (.agg' ?_) ?_)))
  rfl

end Go.Rex

namespace Go.Rex
open Go.Proofs
open Go Go.Rex Go.RowKit
set_option maxRecDepth 100000
set_option maxHeartbeats 200000
theorem loop_lines_weigh_spec {v1 : (List (List Int))} {v2 : (List Int)} {v3 : (List Int)} {v4 : (List (List Int))} (hr : loop_lines_weigh v1 v2 = some (v3,v4)) : Spec (lim Try.prog) 95 [.agg [.list 1 (v1.map e_Li_)],.list 1 (v2.map e_i)] ⟨[.func 129 [] [.fptr true [.list 1 (v3.map e_i)] 0,.fptr true [.list 1 (v4.map e_Li_)] 0]],[]⟩:=by
  unfold loop_lines_weigh at hr
  apply Spec.fn Try.func95 rfl
  focus (simp [Try.f95]<;>exact rfl)
  focus
    repeat (first|(with_reducible first|refine mv ?_|refine TO.nil ?_)|((with_reducible first|apply TO.bf|apply TO.asg|apply TO.mf);(repeat (focus (show _ = _;first|exact k1 rfl|exact k2 rfl|(simp only [zz]<;>exact rfl)|exact rfl)));(with_reducible apply TO.here))|((with_reducible apply TX.region);(focus (simp only []<;>exact rfl));(focus rfl);(try dsimp only)))
    cases hr
    refine ⟨.inr rfl,_,(by simp only [];exact rfl),?_⟩
    exact wr [] rfl .nil
  rfl

end Go.Rex

namespace Go.Rex
open Go.Proofs
open Go Go.Rex Go.RowKit
set_option maxRecDepth 100000
set_option maxHeartbeats 200000
theorem loop_each_4cef_spec {v1 : Int} {v2 : (List (List Int))} {v3 : (List Int)} {v4 : Int} {v5 : (List (List Int))} {v6 : (List Int)} (hr : loop_each_4cef v1 v2 v3 = some (v4,v5,v6)) : Spec (lim Try.prog) 116 [.v (.int .i64 v1),.func 130 [] [.fptr true [.list 1 (v2.map e_Li_)] 0,.fptr true [.list 1 (v3.map e_i)] 0]] ⟨[.func 139 [] [.fptr true [.v (.int .i64 v4)] 0,.fptr true [.func 130 [] [.fptr true [.list 1 (v5.map e_Li_)] 0,.fptr true [.list 1 (v6.map e_i)] 0]] 0]],[]⟩:=by
  unfold loop_each_4cef at hr
  apply Spec.fn Try.func116 rfl
  focus (simp [Try.f116]<;>exact rfl)
  focus
    repeat (first|(with_reducible first|refine mv ?_|refine TO.nil ?_)|((with_reducible first|apply TO.bf|apply TO.asg|apply TO.mf);(repeat (focus (show _ = _;first|exact k1 rfl|exact k2 rfl|(simp only [zz]<;>exact rfl)|exact rfl)));(with_reducible apply TO.here))|((with_reducible apply TX.region);(focus (simp only []<;>exact rfl));(focus rfl);(try dsimp only)))
    cases hr
    refine ⟨.inr rfl,_,(by simp only [];exact rfl),?_⟩
    exact wr [] rfl .nil
  rfl

end Go.Rex

namespace Go.Rex
open Go.Proofs
open Go Go.Rex Go.RowKit
set_option maxRecDepth 100000
set_option maxHeartbeats 200000
def y27:=an @ag3 <| an @cs3 <| an @ok3 <| an @so22 <| @wi64_0a1
theorem loop_products_spec {v1 : (List Int)} {v2 : (List Int)} {v3 : Int} (hr : loop_products v1 v2 = some (v3)) : Spec (lim Try.prog) 131 [.list 1 (v1.map e_i),.list 1 (v2.map e_i)] ⟨[.v (.int .i64 v3)],[]⟩:=by
  unfold loop_products at hr
  apply Spec.fn Try.func131 rfl
  focus (simp [Try.f131]<;>exact rfl)
  focus
    repeat (first|(with_reducible first|refine mv ?_|refine TO.nil ?_)|((with_reducible first|apply TO.asg|apply TO.mv|apply TO.len);(repeat (focus (show _ = _;first|exact k2 rfl|(simp only [zz,y27,tlen]<;>exact rfl))));(with_reducible apply TO.here))|((with_reducible apply TX.region);(focus (simp only []<;>exact rfl));(focus rfl);(try dsimp only)))
    obtain ⟨v11,h7,hr⟩:=Option.bind_eq_some_iff.1 hr
    try dsimp only at hr
    refine TX.loopE (step:=loop_products_l1 v1 v2) (x:=(0,0)) h7 (fun (v4,v5)=>⟨.junk :: .list 1 (v2.map e_i) :: .junk :: .junk :: .junk :: .v (.int .i64 v4) :: .junk :: .junk :: .list 1 (v1.map e_i) :: .v (.int .i64 (v1.length : Int)) :: .v (.int .i64 v5) :: .junk :: .junk :: .junk :: .junk :: .junk :: .junk :: .junk :: .junk :: .junk :: .junk :: .junk :: .junk :: .junk :: .junk :: [],[]⟩) (fun v8=>(.exit 0,⟨.junk :: .junk :: .junk :: .junk :: .junk :: .v (.int .i64 v8) :: .junk :: .junk :: .junk :: .junk :: .junk :: .junk :: .junk :: .junk :: .junk :: .junk :: .junk :: .junk :: .junk :: .junk :: .junk :: .junk :: .junk :: .junk :: .junk :: [],[]⟩)) ?_ ?_ ?_ ?_
    · rintro ⟨v4,v5⟩ v0 hr
      dsimp only [loop_products_l1] at hr
      try dsimp only
      repeat (first|(with_reducible first|refine mv ?_|refine TO.nil ?_)|((with_reducible apply TO.bin);(repeat (focus (show _ = _;first|exact k2 rfl|(simp only [zz]<;>exact rfl))));(with_reducible apply TO.here))|((with_reducible apply TX.region);(focus (simp only []<;>exact rfl));(focus rfl);(try dsimp only)))
      rcases Bool.eq_false_or_eq_true ((decide (v5 < (v1.length : Int)))) with h4|h4
      · rw [if_pos h4] at hr
        repeat (first|with_reducible refine mv ?_|((with_reducible apply TO.mv);(repeat (focus (show _ = _;first|exact k2 rfl|(simp only [zz,h4]<;>exact rfl))));(with_reducible apply TO.here))|((with_reducible apply TX.region);(focus (simp only []<;>exact rfl));(focus rfl);(try dsimp only))|((with_reducible apply TX.cond_true);(focus rfl);(focus ((simp only [z1,h4];done)))))
        obtain ⟨v9,h5,hr⟩:=Option.bind_eq_some_iff.1 hr
        try dsimp only at hr
        have h5m:=tidx_map (f:=e_i) h5
        have h5l:=getI_lt h5
        try simp only [List.length_set] at h5l
        have h5a:=getI_at h5
        repeat (first|(with_reducible first|refine mv ?_|refine TO.nil ?_)|((with_reducible first|apply TO.ia|apply TO.ld|apply TO.asg|apply TO.mv);(repeat (focus (show _ = _;first|exact k2 rfl|(simp only [zz,y27,e_i,tindexAddr,tload,rowOf,partT,h5m]<;>exact rfl)|exact rfl)));(with_reducible apply TO.here))|((with_reducible apply TX.region);(focus (simp only []<;>exact rfl));(focus rfl);(try dsimp only)))
        obtain ⟨v10,h6,hr⟩:=Option.bind_eq_some_iff.1 hr
        try dsimp only at hr
        have h6m:=tidx_map (f:=e_i) h6
        have h6l:=getI_lt h6
        try simp only [List.length_set] at h6l
        have h6a:=getI_at h6
        repeat (first|(with_reducible first|refine mv ?_|refine TO.nil ?_)|((with_reducible first|apply TO.ia|apply TO.ld|apply TO.bin|apply TO.asg|apply TO.mv);(repeat (focus (show _ = _;first|exact k2 rfl|(simp only [zz,y27,e_i,tindexAddr,tload,rowOf,partT,h6m]<;>exact rfl)|exact rfl)));(with_reducible apply TO.here))|((with_reducible apply TX.region);(focus (simp only []<;>exact rfl));(focus rfl);(try dsimp only)))
        cases hr
        refine ⟨rfl,?_⟩
        exact Wk.ren [] rfl .nil (by (repeat (first|exact RNs.nil|refine RNs.cons .junk ?_|refine RNs.cons (.keep rfl rfl) ?_|refine RNs.cons (.lsl rfl rfl) ?_|refine RNs.cons (.lsl rfl (by simp only [List.length_set])) ?_|refine RNs.cons (.lptr rfl) ?_|refine RNs.cons (.nil rfl) ?_|refine RNs.cons .nl ?_|refine RNs.cons (.keep (by simp only [h4]) rfl) ?_|refine RNs.cons (.tuple' ?_) ?_|refine RNs.cons (.agg' ?_) ?_)))
      · rw [if_neg (by rw [h4];exact Bool.false_ne_true)] at hr
        repeat (first|with_reducible refine mv ?_|((with_reducible apply TX.cond_false);(focus rfl);(focus ((simp only [z1,h4];done)))))
        cases hr
        refine ⟨rfl,?_⟩
        exact Wk.ren [] rfl .nil (by (repeat (first|exact RNs.nil|refine RNs.cons .junk ?_|refine RNs.cons (.keep rfl rfl) ?_|refine RNs.cons (.lsl rfl rfl) ?_|refine RNs.cons (.lsl rfl (by simp only [List.length_set])) ?_|refine RNs.cons (.lptr rfl) ?_|refine RNs.cons (.nil rfl) ?_|refine RNs.cons .nl ?_|refine RNs.cons (.keep (by simp only [h4]) rfl) ?_|refine RNs.cons (.tuple' ?_) ?_|refine RNs.cons (.agg' ?_) ?_)))
    · intro e h;cases h
    · try dsimp only
      repeat (first|(with_reducible first|refine mv ?_|refine TO.nil ?_)|((with_reducible first|apply TO.mv|apply TO.asg);(repeat (focus (show _ = _;first|exact k2 rfl|(simp only [zz]<;>exact rfl))));(with_reducible apply TO.here))|((with_reducible apply TX.region);(focus (simp only []<;>exact rfl));(focus rfl);(try dsimp only)))
      cases hr
      refine ⟨.inr rfl,_,(by simp only [];exact rfl),?_⟩
      exact wr [] rfl .nil
    · try dsimp only
      exact wr [] rfl .nil
  rfl

end Go.Rex

namespace Go.Rex
open Go.Proofs
open Go Go.Rex Go.RowKit
set_option maxRecDepth 100000
set_option maxHeartbeats 200000
def y28:=an @ag22 <| an @ag3 <| an @ag81 <| an @cs22 <| an @cs3 <| an @fd126_0 <| an @fd83_0 <| an @ok22 <| an @ok3 <| an @so22 <| @so81
theorem loop_lines_weigh_c1_c1_b422_spec {v1 : Int} {v2 : (List (List Int))} {v3 : (List Int)} {v4 : Int} (hr : loop_lines_weigh_c1_c1_b422 v1 v2 v3 = some (v4)) : Spec (lim Try.prog) 130 [.v (.int .i64 v1),.fptr true [.list 1 (v2.map e_Li_)] 0,.fptr true [.list 1 (v3.map e_i)] 0] ⟨[.v (.int .i64 v4)],[]⟩:=by
  unfold loop_lines_weigh_c1_c1_b422 at hr
  apply Spec.fn Try.func130 rfl
  focus (simp [Try.f130]<;>exact rfl)
  focus
    repeat (first|(with_reducible first|refine mv ?_|refine TO.nil ?_)|((with_reducible apply TO.asg);(repeat (focus (show _ = _;first|exact k2 rfl|(simp only [zz]<;>exact rfl))));(with_reducible apply TO.here))|((with_reducible apply TX.region);(focus (simp only []<;>exact rfl));(focus rfl);(try dsimp only))|((with_reducible first|apply TD.fa|apply TD.ld|apply TD.mv);(repeat (focus (show _ = _;first|exact k2 rfl|(simp only [zz,y28,Nat.reduceAdd,tfieldAddr,tload,rowOf,partT]<;>exact rfl)|exact rfl)));(with_reducible refine TD.here ?_))|((with_reducible apply TX.drawn);(focus decide +kernel);(focus (simp only []<;>exact rfl));(focus exact rfl);(try dsimp only)))
    obtain ⟨v5,h1,hr⟩:=Option.bind_eq_some_iff.1 hr
    try dsimp only at hr
    have h1m:=tidx_map (f:=e_Li_) h1
    have h1l:=getI_lt h1
    try simp only [List.length_set] at h1l
    have h1a:=getI_at h1
    repeat (first|((with_reducible first|apply TD.ia|apply TD.ld);(repeat (focus (show _ = _;first|exact k2 rfl|(simp only [zz,y28,e_Li_,tindexAddr,tload,rowOf,partT,h1m]<;>exact rfl)|exact rfl)));(with_reducible refine TD.here ?_)))
    obtain ⟨v6,h2,hr⟩:=Option.bind_eq_some_iff.1 hr
    try dsimp only at hr
    first|apply TD.cal (by first|rfl|(simp only [twant,z1,zp,zs,h1m,h1l,h1a];done)) rfl goFn131 (loop_products_spec h2) rfl rfl rfl|apply TD.calw (by first|rfl|(simp only [twant,z1,zp,zs,h1m,h1l,h1a];done)) rfl goFn131 (loop_products_spec h2) rfl rfl rfl rfl
    (repeat (focus (show _ = _;(simp only [zz,shift]<;>exact rfl))))
    with_reducible apply TD.here
    repeat (first|((with_reducible first|apply TD.ld|apply TD.mv);(repeat (focus (show _ = _;first|exact k2 rfl|(simp only [zz,y28,tload,rowOf,partT]<;>exact rfl)|exact rfl)));(with_reducible refine TD.here ?_)))
    obtain ⟨v7,h3,hr⟩:=Option.bind_eq_some_iff.1 hr
    try dsimp only at hr
    have h3m:=tidx_map (f:=e_i) h3
    have h3l:=getI_lt h3
    try simp only [List.length_set] at h3l
    have h3a:=getI_at h3
    repeat (first|((with_reducible first|apply TD.ia|apply TD.ld|apply TD.bin);(repeat (focus (show _ = _;first|exact k2 rfl|(simp only [zz,y28,e_i,tindexAddr,tload,rowOf,partT,h3m]<;>exact rfl)|exact rfl)));(with_reducible refine TD.here ?_)))
    obtain ⟨⟨v8,v9⟩,h4,hr⟩:=Option.bind_eq_some_iff.1 hr
    try dsimp only at hr
    first|apply TD.cal (by first|rfl|(simp only [twant,z1,zp,zs,h1m,h1l,h1a,h3m,h3l,h3a];done)) rfl goFn82 (loop_refuse_spec h4) rfl rfl rfl|apply TD.calw (by first|rfl|(simp only [twant,z1,zp,zs,h1m,h1l,h1a,h3m,h3l,h3a];done)) rfl goFn82 (loop_refuse_spec h4) rfl rfl rfl rfl
    (repeat (focus (show _ = _;(simp only [zz,shift]<;>exact rfl))))
    with_reducible apply TD.here
    obtain ⟨v10,h5,hr⟩:=Option.bind_eq_some_iff.1 hr
    try dsimp only at hr
    first|apply TD.cal (by first|rfl|(simp only [twant,z1,zp,zs,h1m,h1l,h1a,h3m,h3l,h3a];done)) rfl goFn113 (loop_refuse_c1_11f9_spec h5) rfl rfl rfl|apply TD.calw (by first|rfl|(simp only [twant,z1,zp,zs,h1m,h1l,h1a,h3m,h3l,h3a];done)) rfl goFn113 (loop_refuse_c1_11f9_spec h5) rfl rfl rfl rfl
    (repeat (focus (show _ = _;(simp only [zz,shift]<;>exact rfl))))
    with_reducible apply TD.here
    repeat (first|(with_reducible first|refine mv ?_|refine TD.nil ?_)|((with_reducible apply TD.asg);(repeat (focus (show _ = _;first|exact k2 rfl|(simp only [zz]<;>exact rfl))));(with_reducible refine TD.here ?_)))
    cases hr
    refine ⟨.inr rfl,_,(by simp only [];exact rfl),?_⟩
    exact wr [] rfl .nil
  rfl

end Go.Rex

namespace Go.Rex
open Go.Proofs
open Go Go.Rex Go.RowKit
set_option maxRecDepth 100000
set_option maxHeartbeats 200000
def y29:=an @ag140 <| an @ag3 <| @wi64_0a1
theorem loop_each_c1_5172_spec {v1 : Int} {v2 : (List (List Int))} {v3 : (List Int)} {v4 : Int} (hr : loop_each_c1_5172 v1 v2 v3 = some (v4)) : Spec (lim Try.prog) 139 [.fptr true [.v (.int .i64 v1)] 0,.fptr true [.func 130 [] [.fptr true [.list 1 (v2.map e_Li_)] 0,.fptr true [.list 1 (v3.map e_i)] 0]] 0] ⟨[.v (.int .i64 v4)],[]⟩:=by
  unfold loop_each_c1_5172 at hr
  apply Spec.fn Try.func139 rfl
  focus (simp [Try.f139]<;>exact rfl)
  focus
    repeat (first|(with_reducible first|refine mv ?_|refine TO.nil ?_)|((with_reducible first|apply TO.asg|apply TO.ld|apply TO.mv);(repeat (focus (show _ = _;first|exact k2 rfl|(simp only [zz,y29,tload,rowOf,partT]<;>exact rfl)|exact rfl)));(with_reducible apply TO.here))|((with_reducible apply TX.region);(focus (simp only []<;>exact rfl));(focus rfl);(try dsimp only)))
    obtain ⟨v9,h7,hr⟩:=Option.bind_eq_some_iff.1 hr
    refine TX.loopE (step:=loop_each_c1_5172_l1 v1 v2 v3) (x:=0) h7 (fun v5=>⟨.junk :: .fptr true [.func 130 [] [.fptr true [.list 1 (v2.map e_Li_)] 0,.fptr true [.list 1 (v3.map e_i)] 0]] 0 :: .junk :: .junk :: .junk :: .v (.int .i64 v1) :: .v (.int .i64 v5) :: .junk :: .junk :: .junk :: .junk :: .junk :: .junk :: .junk :: .junk :: .junk :: [],[]⟩) (fun e=>match e with|(.inl v7)=>(.ret,⟨.junk :: .junk :: .v (.int .i64 v7) :: .junk :: .junk :: .junk :: .junk :: .junk :: .junk :: .junk :: .junk :: .junk :: .junk :: .junk :: .junk :: .junk :: [],[]⟩)|(.inr _)=>(.exit 0,⟨.junk :: .junk :: .junk :: .junk :: .junk :: .junk :: .junk :: .junk :: .junk :: .junk :: .junk :: .junk :: .junk :: .junk :: .junk :: .junk :: [],[]⟩)) ?_ ?_ ?_ ?_
    · rintro v5 v0 hr
      dsimp only [loop_each_c1_5172_l1] at hr
      try dsimp only
      repeat (first|(with_reducible first|refine mv ?_|refine TO.nil ?_)|((with_reducible apply TO.bin);(repeat (focus (show _ = _;first|exact k2 rfl|(simp only [zz]<;>exact rfl))));(with_reducible apply TO.here))|((with_reducible apply TX.region);(focus (simp only []<;>exact rfl));(focus rfl);(try dsimp only)))
      rcases Bool.eq_false_or_eq_true ((decide (v5 < v1))) with h4|h4
      · rw [if_pos h4] at hr
        repeat (first|(with_reducible first|refine mv ?_|refine TO.nil ?_)|((with_reducible first|apply TO.mv|apply TO.asg|apply TO.ld);(repeat (focus (show _ = _;first|exact k2 rfl|(simp only [zz,y29,tload,rowOf,partT,h4]<;>exact rfl)|exact rfl)));(with_reducible apply TO.here))|((with_reducible apply TX.region);(focus (simp only []<;>exact rfl));(focus rfl);(try dsimp only))|((with_reducible apply TX.cond_true);(focus rfl);(focus ((simp only [z1,h4];done)))))
        obtain ⟨v8,h5,hr⟩:=Option.bind_eq_some_iff.1 hr
        try dsimp only at hr
        apply TO.cal (by first|rfl|(simp only [twant,z1,zp,zs,h4];done)) rfl goFn130 (loop_lines_weigh_c1_c1_b422_spec h5) rfl rfl rfl
        (repeat (focus (show _ = _;(simp only [zz,shift]<;>exact rfl))))
        with_reducible apply TO.here
        repeat (first|(with_reducible first|refine mv ?_|refine TO.nil ?_)|((with_reducible first|apply TO.asg|apply TO.mv|apply TO.bin);(repeat (focus (show _ = _;first|exact k2 rfl|(simp only [zz]<;>exact rfl))));(with_reducible apply TO.here))|((with_reducible apply TX.region);(focus (simp only []<;>exact rfl));(focus rfl);(try dsimp only)))
        rcases Bool.eq_false_or_eq_true ((decide (v8 ≠ 0))) with h6|h6
        · rw [if_pos h6] at hr
          repeat (first|(with_reducible first|refine mv ?_|refine TO.nil ?_)|((with_reducible first|apply TO.mv|apply TO.asg);(repeat (focus (show _ = _;first|exact k2 rfl|(simp only [zz,h6]<;>exact rfl))));(with_reducible apply TO.here))|((with_reducible apply TX.region);(focus (simp only []<;>exact rfl));(focus rfl);(try dsimp only))|((with_reducible apply TX.cond_true);(focus rfl);(focus ((simp only [z1,h6];done)))))
          cases hr
          refine ⟨rfl,?_⟩
          exact Wk.ren [] rfl .nil (by (repeat (first|exact RNs.nil|refine RNs.cons .junk ?_|refine RNs.cons (.keep rfl rfl) ?_|refine RNs.cons (.lsl rfl rfl) ?_|refine RNs.cons (.lsl rfl (by simp only [List.length_set])) ?_|refine RNs.cons (.lptr rfl) ?_|refine RNs.cons (.nil rfl) ?_|refine RNs.cons .nl ?_|refine RNs.cons (.keep (by simp only [h4,h6]) rfl) ?_|refine RNs.cons (.tuple' ?_) ?_|refine RNs.cons (.agg' ?_) ?_)))
        · rw [if_neg (by rw [h6];exact Bool.false_ne_true)] at hr
          repeat (first|(with_reducible first|refine mv ?_|refine TO.nil ?_)|((with_reducible first|apply TO.bin|apply TO.mv);(repeat (focus (show _ = _;first|exact k2 rfl|(simp only [zz,h6]<;>exact rfl))));(with_reducible apply TO.here))|((with_reducible apply TX.region);(focus (simp only []<;>exact rfl));(focus rfl);(try dsimp only))|((with_reducible apply TX.cond_false);(focus rfl);(focus ((simp only [z1,h6];done)))))
          cases hr
          refine ⟨rfl,?_⟩
          exact Wk.ren [] rfl .nil (by (repeat (first|exact RNs.nil|refine RNs.cons .junk ?_|refine RNs.cons (.keep rfl rfl) ?_|refine RNs.cons (.lsl rfl rfl) ?_|refine RNs.cons (.lsl rfl (by simp only [List.length_set])) ?_|refine RNs.cons (.lptr rfl) ?_|refine RNs.cons (.nil rfl) ?_|refine RNs.cons .nl ?_|refine RNs.cons (.keep (by simp only [h4,h6]) rfl) ?_|refine RNs.cons (.tuple' ?_) ?_|refine RNs.cons (.agg' ?_) ?_)))
      · rw [if_neg (by rw [h4];exact Bool.false_ne_true)] at hr
        repeat (first|with_reducible refine mv ?_|((with_reducible apply TX.cond_false);(focus rfl);(focus ((simp only [z1,h4];done)))))
        cases hr
        refine ⟨rfl,?_⟩
        exact Wk.ren [] rfl .nil (by (repeat (first|exact RNs.nil|refine RNs.cons .junk ?_|refine RNs.cons (.keep rfl rfl) ?_|refine RNs.cons (.lsl rfl rfl) ?_|refine RNs.cons (.lsl rfl (by simp only [List.length_set])) ?_|refine RNs.cons (.lptr rfl) ?_|refine RNs.cons (.nil rfl) ?_|refine RNs.cons .nl ?_|refine RNs.cons (.keep (by simp only [h4]) rfl) ?_|refine RNs.cons (.tuple' ?_) ?_|refine RNs.cons (.agg' ?_) ?_)))
    · intro e h;rcases e with _|e<;>cases h
    · try dsimp only
      rcases v9 with v10|_
      · try dsimp only at hr
        try dsimp only
        repeat (first|with_reducible refine mv ?_)
        cases hr
        refine ⟨.inr rfl,_,(by simp only [];exact rfl),?_⟩
        exact wr [] rfl .nil
      · try dsimp only at hr
        try dsimp only
        repeat (first|(with_reducible first|refine mv ?_|refine TO.nil ?_)|((with_reducible apply TO.asg);(repeat (focus (show _ = _;first|exact k2 rfl|(simp only [zz]<;>exact rfl))));(with_reducible apply TO.here))|((with_reducible apply TX.region);(focus (simp only []<;>exact rfl));(focus rfl);(try dsimp only)))
        cases hr
        refine ⟨.inr rfl,_,(by simp only [];exact rfl),?_⟩
        exact wr [] rfl .nil
    · try dsimp only
      exact wr [] rfl .nil
  rfl

end Go.Rex

namespace Go.Rex
open Go.Proofs
open Go Go.Rex Go.RowKit
set_option maxRecDepth 100000
set_option maxHeartbeats 200000
def y30:=an @ag101 <| an @cs101 <| an @ok101 <| an @so133 <| an @wi64_0a1 <| an @wi64_1a1 <| @wi64_2a1
theorem loop_firstError_053c_spec {v1 : Bool} {v2 : Int} {v3 : Int} {v4 : (List Int)} {v5 : Int} {v6 : Int} {v7 : Int} {v8 : (List (List Int))} {v9 : (List Int)} {v10 : Int} (hr : loop_firstError_053c v1 v2 v3 v4 v5 v6 v7 v8 v9 = some (v10)) : Spec (lim Try.prog) 67 [.list 1 [[.func 113 [] [.fptr true [.v (.bool v1)] 0,.fptr true [.v (.int .i64 v2)] 0]],[.func 139 [] [.fptr true [.v (.int .i64 v3)] 0,.fptr true [.func 134 [] [.fptr true [.list 1 (v4.map e_i)] 0,.fptr true [.v (.int .i64 v5)] 0,.fptr true [.v (.int .i64 v6)] 0]] 0]],[.func 139 [] [.fptr true [.v (.int .i64 v7)] 0,.fptr true [.func 130 [] [.fptr true [.list 1 (v8.map e_Li_)] 0,.fptr true [.list 1 (v9.map e_i)] 0]] 0]]]] ⟨[.v (.int .i64 v10)],[]⟩:=by
  unfold loop_firstError_053c at hr
  apply Spec.fn Try.func67 rfl
  focus (simp [Try.f67]<;>exact rfl)
  focus
    repeat (first|(with_reducible first|refine mv ?_|refine TO.nil ?_)|((with_reducible first|apply TO.asg|apply TO.mv|apply TO.len);(repeat (focus (show _ = _;first|exact k2 rfl|(simp only [zz,y30,Nat.reduceAdd,tlen]<;>exact rfl))));(with_reducible apply TO.here))|((with_reducible apply TX.region);(focus (simp only []<;>exact rfl));(focus rfl);(try dsimp only)))
    refine TX.unroll ?_
    repeat (first|(with_reducible first|refine mv ?_|refine TO.nil ?_)|((with_reducible first|apply TO.bin|apply TO.ia|apply TO.ld|apply TO.asg|apply TO.mv);(repeat (focus (show _ = _;first|exact k2 rfl|(simp only [zz,y30,tindexAddr,z5,Int.reduceLT,Int.cast_ofNat_Int,tload,rowOf,partT]<;>exact rfl)|exact rfl)));(with_reducible apply TO.here))|((with_reducible apply TX.region);(focus (simp only []<;>exact rfl));(focus rfl);(try dsimp only))|((with_reducible apply TX.cond_true);(focus rfl);(focus (rfl))))
    obtain ⟨v11,h1,hr⟩:=Option.bind_eq_some_iff.1 hr
    try dsimp only at hr
    apply TO.cal (by first|rfl|(simp only [twant,z1,zp,zs];done)) rfl goFn113 (loop_refuse_c1_11f9_spec h1) rfl rfl rfl
    (repeat (focus (show _ = _;(simp only [zz,shift]<;>exact rfl))))
    with_reducible apply TO.here
    repeat (first|(with_reducible first|refine mv ?_|refine TO.nil ?_)|((with_reducible first|apply TO.asg|apply TO.mv|apply TO.bin);(repeat (focus (show _ = _;first|exact k2 rfl|(simp only [zz]<;>exact rfl))));(with_reducible apply TO.here))|((with_reducible apply TX.region);(focus (simp only []<;>exact rfl));(focus rfl);(try dsimp only)))
    rcases Bool.eq_false_or_eq_true ((decide (v11 ≠ 0))) with h2|h2
    · rw [if_pos h2] at hr
      repeat (first|(with_reducible first|refine mv ?_|refine TO.nil ?_)|((with_reducible first|apply TO.mv|apply TO.asg);(repeat (focus (show _ = _;first|exact k2 rfl|(simp only [zz,h2]<;>exact rfl))));(with_reducible apply TO.here))|((with_reducible apply TX.region);(focus (simp only []<;>exact rfl));(focus rfl);(try dsimp only))|((with_reducible apply TX.cond_true);(focus rfl);(focus ((simp only [z1,h2];done)))))
      cases hr
      refine ⟨.inr rfl,_,(by simp only [];exact rfl),?_⟩
      exact Wk.ren [] rfl .nil (by (repeat (first|exact RNs.nil|refine RNs.cons .junk ?_|refine RNs.cons (.keep rfl rfl) ?_|refine RNs.cons (.lsl rfl rfl) ?_|refine RNs.cons (.lsl rfl (by simp only [List.length_set])) ?_|refine RNs.cons (.lptr rfl) ?_|refine RNs.cons (.nil rfl) ?_|refine RNs.cons .nl ?_|refine RNs.cons (.keep (by simp only [h2]) rfl) ?_|refine RNs.cons (.tuple' ?_) ?_|refine RNs.cons (.agg' ?_) ?_)))
    · rw [if_neg (by rw [h2];exact Bool.false_ne_true)] at hr
      repeat (first|(with_reducible first|refine mv ?_|refine TO.nil ?_)|((with_reducible first|apply TO.bin|apply TO.mv);(repeat (focus (show _ = _;first|exact k2 rfl|(simp only [zz,y30,h2]<;>exact rfl))));(with_reducible apply TO.here))|((with_reducible apply TX.region);(focus (simp only []<;>exact rfl));(focus rfl);(try dsimp only))|((with_reducible apply TX.cond_false);(focus rfl);(focus ((simp only [z1,h2];done)))))
      refine TX.unroll ?_
      repeat (first|(with_reducible first|refine mv ?_|refine TO.nil ?_)|((with_reducible first|apply TO.bin|apply TO.ia|apply TO.ld|apply TO.asg|apply TO.mv);(repeat (focus (show _ = _;first|exact k2 rfl|(simp only [zz,y30,tindexAddr,z5,Int.reduceLT,tload,rowOf,partT]<;>exact rfl)|exact rfl)));(with_reducible apply TO.here))|((with_reducible apply TX.region);(focus (simp only []<;>exact rfl));(focus rfl);(try dsimp only))|((with_reducible apply TX.cond_true);(focus rfl);(focus (rfl))))
      obtain ⟨v12,h3,hr⟩:=Option.bind_eq_some_iff.1 hr
      try dsimp only at hr
      apply TO.cal (by first|rfl|(simp only [twant,z1,zp,zs,h2];done)) rfl goFn139 (loop_each_c1_2344_spec h3) rfl rfl rfl
      (repeat (focus (show _ = _;(simp only [zz,shift]<;>exact rfl))))
      with_reducible apply TO.here
      repeat (first|(with_reducible first|refine mv ?_|refine TO.nil ?_)|((with_reducible first|apply TO.asg|apply TO.mv|apply TO.bin);(repeat (focus (show _ = _;first|exact k2 rfl|(simp only [zz]<;>exact rfl))));(with_reducible apply TO.here))|((with_reducible apply TX.region);(focus (simp only []<;>exact rfl));(focus rfl);(try dsimp only)))
      rcases Bool.eq_false_or_eq_true ((decide (v12 ≠ 0))) with h4|h4
      · rw [if_pos h4] at hr
        repeat (first|(with_reducible first|refine mv ?_|refine TO.nil ?_)|((with_reducible first|apply TO.mv|apply TO.asg);(repeat (focus (show _ = _;first|exact k2 rfl|(simp only [zz,h4]<;>exact rfl))));(with_reducible apply TO.here))|((with_reducible apply TX.region);(focus (simp only []<;>exact rfl));(focus rfl);(try dsimp only))|((with_reducible apply TX.cond_true);(focus rfl);(focus ((simp only [z1,h4];done)))))
        cases hr
        refine ⟨.inr rfl,_,(by simp only [];exact rfl),?_⟩
        exact Wk.ren [] rfl .nil (by (repeat (first|exact RNs.nil|refine RNs.cons .junk ?_|refine RNs.cons (.keep rfl rfl) ?_|refine RNs.cons (.lsl rfl rfl) ?_|refine RNs.cons (.lsl rfl (by simp only [List.length_set])) ?_|refine RNs.cons (.lptr rfl) ?_|refine RNs.cons (.nil rfl) ?_|refine RNs.cons .nl ?_|refine RNs.cons (.keep (by simp only [h2,h4]) rfl) ?_|refine RNs.cons (.tuple' ?_) ?_|refine RNs.cons (.agg' ?_) ?_)))
      · rw [if_neg (by rw [h4];exact Bool.false_ne_true)] at hr
        repeat (first|(with_reducible first|refine mv ?_|refine TO.nil ?_)|((with_reducible first|apply TO.bin|apply TO.mv);(repeat (focus (show _ = _;first|exact k2 rfl|(simp only [zz,y30,h4]<;>exact rfl))));(with_reducible apply TO.here))|((with_reducible apply TX.region);(focus (simp only []<;>exact rfl));(focus rfl);(try dsimp only))|((with_reducible apply TX.cond_false);(focus rfl);(focus ((simp only [z1,h4];done)))))
        refine TX.unroll ?_
        repeat (first|(with_reducible first|refine mv ?_|refine TO.nil ?_)|((with_reducible first|apply TO.bin|apply TO.ia|apply TO.ld|apply TO.asg|apply TO.mv);(repeat (focus (show _ = _;first|exact k2 rfl|(simp only [zz,y30,tindexAddr,z5,Int.reduceLT,tload,rowOf,partT]<;>exact rfl)|exact rfl)));(with_reducible apply TO.here))|((with_reducible apply TX.region);(focus (simp only []<;>exact rfl));(focus rfl);(try dsimp only))|((with_reducible apply TX.cond_true);(focus rfl);(focus (rfl))))
        obtain ⟨v13,h5,hr⟩:=Option.bind_eq_some_iff.1 hr
        try dsimp only at hr
        apply TO.cal (by first|rfl|(simp only [twant,z1,zp,zs,h2,h4];done)) rfl goFn139 (loop_each_c1_5172_spec h5) rfl rfl rfl
        (repeat (focus (show _ = _;(simp only [zz,shift]<;>exact rfl))))
        with_reducible apply TO.here
        repeat (first|(with_reducible first|refine mv ?_|refine TO.nil ?_)|((with_reducible first|apply TO.asg|apply TO.mv|apply TO.bin);(repeat (focus (show _ = _;first|exact k2 rfl|(simp only [zz]<;>exact rfl))));(with_reducible apply TO.here))|((with_reducible apply TX.region);(focus (simp only []<;>exact rfl));(focus rfl);(try dsimp only)))
        rcases Bool.eq_false_or_eq_true ((decide (v13 ≠ 0))) with h6|h6
        · rw [if_pos h6] at hr
          repeat (first|(with_reducible first|refine mv ?_|refine TO.nil ?_)|((with_reducible first|apply TO.mv|apply TO.asg);(repeat (focus (show _ = _;first|exact k2 rfl|(simp only [zz,h6]<;>exact rfl))));(with_reducible apply TO.here))|((with_reducible apply TX.region);(focus (simp only []<;>exact rfl));(focus rfl);(try dsimp only))|((with_reducible apply TX.cond_true);(focus rfl);(focus ((simp only [z1,h6];done)))))
          cases hr
          refine ⟨.inr rfl,_,(by simp only [];exact rfl),?_⟩
          exact Wk.ren [] rfl .nil (by (repeat (first|exact RNs.nil|refine RNs.cons .junk ?_|refine RNs.cons (.keep rfl rfl) ?_|refine RNs.cons (.lsl rfl rfl) ?_|refine RNs.cons (.lsl rfl (by simp only [List.length_set])) ?_|refine RNs.cons (.lptr rfl) ?_|refine RNs.cons (.nil rfl) ?_|refine RNs.cons .nl ?_|refine RNs.cons (.keep (by simp only [h2,h4,h6]) rfl) ?_|refine RNs.cons (.tuple' ?_) ?_|refine RNs.cons (.agg' ?_) ?_)))
        · rw [if_neg (by rw [h6];exact Bool.false_ne_true)] at hr
          repeat (first|(with_reducible first|refine mv ?_|refine TO.nil ?_)|((with_reducible first|apply TO.bin|apply TO.mv);(repeat (focus (show _ = _;first|exact k2 rfl|(simp only [zz,y30,h6]<;>exact rfl))));(with_reducible apply TO.here))|((with_reducible apply TX.region);(focus (simp only []<;>exact rfl));(focus rfl);(try dsimp only))|((with_reducible apply TX.cond_false);(focus rfl);(focus ((simp only [z1,h6];done)))))
          refine TX.unroll ?_
          repeat (first|(with_reducible first|refine mv ?_|refine TO.nil ?_)|((with_reducible first|apply TO.bin|apply TO.asg);(repeat (focus (show _ = _;first|exact k2 rfl|(simp only [zz]<;>exact rfl))));(with_reducible apply TO.here))|((with_reducible apply TX.region);(focus (simp only []<;>exact rfl));(focus rfl);(try dsimp only))|((with_reducible apply TX.cond_false);(focus rfl);(focus (rfl))))
          cases hr
          refine ⟨.inr rfl,_,(by simp only [];exact rfl),?_⟩
          exact Wk.ren [] rfl .nil (by (repeat (first|exact RNs.nil|refine RNs.cons .junk ?_|refine RNs.cons (.keep rfl rfl) ?_|refine RNs.cons (.lsl rfl rfl) ?_|refine RNs.cons (.lsl rfl (by simp only [List.length_set])) ?_|refine RNs.cons (.lptr rfl) ?_|refine RNs.cons (.nil rfl) ?_|refine RNs.cons .nl ?_|refine RNs.cons (.keep (by simp only [h2,h4,h6]) rfl) ?_|refine RNs.cons (.tuple' ?_) ?_|refine RNs.cons (.agg' ?_) ?_)))
  rfl

end Go.Rex

namespace Go.Rex
open Go.Proofs
open Go Go.Rex Go.RowKit
set_option maxRecDepth 100000
set_option maxHeartbeats 200000
def y31:=an @ag22 <| an @ag81 <| an @cs101 <| an @fd126_0 <| an @fd83_0 <| an @so133 <| an @so22 <| an @so81 <| @zc101
theorem loop_lines_weigh_c1_e435_spec {v1 : (List Int)} {v2 : (List (List Int))} {v3 : Int} (hr : loop_lines_weigh_c1_e435 v1 v2 = some (v3)) : Spec (lim Try.prog) 129 [.fptr true [.list 1 (v1.map e_i)] 0,.fptr true [.list 1 (v2.map e_Li_)] 0] ⟨[.v (.int .i64 v3)],[]⟩:=by
  unfold loop_lines_weigh_c1_e435 at hr
  apply Spec.fn Try.func129 rfl
  focus (simp [Try.f129]<;>exact rfl)
  focus
    repeat (first|(with_reducible first|refine mv ?_|refine TO.nil ?_)|((with_reducible apply TO.asg);(repeat (focus (show _ = _;first|exact k2 rfl|(simp only [zz]<;>exact rfl))));(with_reducible apply TO.here))|((with_reducible apply TX.region);(focus (simp only []<;>exact rfl));(focus rfl);(try dsimp only))|((with_reducible first|apply TD.ld|apply TD.len|apply TD.fa|apply TD.bin);(repeat (focus (show _ = _;first|exact k2 rfl|(simp only [zz,y31,Nat.reduceAdd,tload,rowOf,partT,tlen,tfieldAddr]<;>exact rfl)|exact rfl)));(with_reducible refine TD.here ?_))|((with_reducible apply TX.drawn);(focus decide +kernel);(focus (simp only []<;>exact rfl));(focus exact rfl);(try dsimp only)))
    obtain ⟨⟨v4,v5⟩,h1,hr⟩:=Option.bind_eq_some_iff.1 hr
    try dsimp only at hr
    first|apply TD.cal (by first|rfl|(simp only [twant,z1,zp,zs];done)) rfl goFn82 (loop_refuse_spec h1) rfl rfl rfl|apply TD.calw (by first|rfl|(simp only [twant,z1,zp,zs];done)) rfl goFn82 (loop_refuse_spec h1) rfl rfl rfl rfl
    (repeat (focus (show _ = _;(simp only [zz,shift]<;>exact rfl))))
    with_reducible apply TD.here
    repeat (first|((with_reducible apply TD.ld);(repeat (focus (show _ = _;first|exact k2 rfl|(simp only [zz,y31,tload,rowOf,partT]<;>exact rfl)|exact rfl)));(with_reducible refine TD.here ?_)))
    obtain ⟨⟨v6,v7,v8,v9⟩,h2,hr⟩:=Option.bind_eq_some_iff.1 hr
    try dsimp only at hr
    first|apply TD.cal (by first|rfl|(simp only [twant,z1,zp,zs];done)) rfl goFn101 (loop_allWithin_spec h2) rfl rfl rfl|apply TD.calw (by first|rfl|(simp only [twant,z1,zp,zs];done)) rfl goFn101 (loop_allWithin_spec h2) rfl rfl rfl rfl
    (repeat (focus (show _ = _;(simp only [zz,shift]<;>exact rfl))))
    with_reducible apply TD.here
    repeat (first|((with_reducible first|apply TD.ld|apply TD.len|apply TD.mf);(repeat (focus (show _ = _;first|exact k1 rfl|exact k2 rfl|(simp only [zz,y31,tload,rowOf,partT,tlen]<;>exact rfl)|exact rfl)));(with_reducible refine TD.here ?_)))
    obtain ⟨⟨v10,v11,v12⟩,h3,hr⟩:=Option.bind_eq_some_iff.1 hr
    try dsimp only at hr
    first|apply TD.cal (by first|rfl|(simp only [twant,z1,zp,zs];done)) rfl goFn116 (loop_each_4cef_spec h3) rfl rfl rfl|apply TD.calw (by first|rfl|(simp only [twant,z1,zp,zs];done)) rfl goFn116 (loop_each_4cef_spec h3) rfl rfl rfl rfl
    (repeat (focus (show _ = _;(simp only [zz,shift]<;>exact rfl))))
    with_reducible apply TD.here
    repeat (first|((with_reducible apply TD.bs);(repeat (focus (show _ = _;first|exact k2 rfl|(simp only [zz,y31,Nat.reduceAdd,Nat.reduceMul,tslice,tparts]<;>exact rfl)|exact rfl)));(with_reducible refine TD.here ?_)))
    obtain ⟨v13,h4,hr⟩:=Option.bind_eq_some_iff.1 hr
    try dsimp only at hr
    first|apply TD.cal (by first|rfl|(simp only [twant,z1,zp,zs];done)) rfl goFn67 (loop_firstError_053c_spec h4) rfl rfl rfl|apply TD.calw (by first|rfl|(simp only [twant,z1,zp,zs];done)) rfl goFn67 (loop_firstError_053c_spec h4) rfl rfl rfl rfl
    (repeat (focus (show _ = _;(simp only [zz,shift]<;>exact rfl))))
    with_reducible apply TD.here
    repeat (first|(with_reducible first|refine mv ?_|refine TD.nil ?_)|((with_reducible apply TD.asg);(repeat (focus (show _ = _;first|exact k2 rfl|(simp only [zz]<;>exact rfl))));(with_reducible refine TD.here ?_)))
    cases hr
    refine ⟨.inr rfl,_,(by simp only [];exact rfl),?_⟩
    exact wr [] rfl .nil
  rfl

end Go.Rex

namespace Go.Rex
open Go.Proofs
open Go Go.Rex Go.RowKit
set_option maxRecDepth 100000
set_option maxHeartbeats 200000
def y32:=an @ag101 <| an @cs101 <| an @ok101 <| an @so133 <| an @wi64_0a1 <| @wi64_1a1
theorem loop_firstError_2803_spec {v1 : (List (List Int))} {v2 : (List Int)} {v3 : (List (List Int))} {v4 : Int} (hr : loop_firstError_2803 v1 v2 v3 = some (v4)) : Spec (lim Try.prog) 67 [.list 1 [[.func 91 [.agg [.list 1 (v1.map e_Li_)]] []],[.func 129 [] [.fptr true [.list 1 (v2.map e_i)] 0,.fptr true [.list 1 (v3.map e_Li_)] 0]]]] ⟨[.v (.int .i64 v4)],[]⟩:=by
  unfold loop_firstError_2803 at hr
  apply Spec.fn Try.func67 rfl
  focus (simp [Try.f67]<;>exact rfl)
  focus
    repeat (first|(with_reducible first|refine mv ?_|refine TO.nil ?_)|((with_reducible first|apply TO.asg|apply TO.mv|apply TO.len);(repeat (focus (show _ = _;first|exact k2 rfl|(simp only [zz,y32,Nat.reduceAdd,tlen]<;>exact rfl))));(with_reducible apply TO.here))|((with_reducible apply TX.region);(focus (simp only []<;>exact rfl));(focus rfl);(try dsimp only)))
    refine TX.unroll ?_
    repeat (first|(with_reducible first|refine mv ?_|refine TO.nil ?_)|((with_reducible first|apply TO.bin|apply TO.ia|apply TO.ld|apply TO.asg|apply TO.mv);(repeat (focus (show _ = _;first|exact k2 rfl|(simp only [zz,y32,tindexAddr,z5,Int.reduceLT,Int.cast_ofNat_Int,tload,rowOf,partT]<;>exact rfl)|exact rfl)));(with_reducible apply TO.here))|((with_reducible apply TX.region);(focus (simp only []<;>exact rfl));(focus rfl);(try dsimp only))|((with_reducible apply TX.cond_true);(focus rfl);(focus (rfl))))
    obtain ⟨v5,h1,hr⟩:=Option.bind_eq_some_iff.1 hr
    try dsimp only at hr
    apply TO.cal (by first|rfl|(simp only [twant,z1,zp,zs];done)) rfl goFn91 (loop_lines_check_spec h1) rfl rfl rfl
    (repeat (focus (show _ = _;(simp only [zz,shift]<;>exact rfl))))
    with_reducible apply TO.here
    repeat (first|(with_reducible first|refine mv ?_|refine TO.nil ?_)|((with_reducible first|apply TO.asg|apply TO.mv|apply TO.bin);(repeat (focus (show _ = _;first|exact k2 rfl|(simp only [zz]<;>exact rfl))));(with_reducible apply TO.here))|((with_reducible apply TX.region);(focus (simp only []<;>exact rfl));(focus rfl);(try dsimp only)))
    rcases Bool.eq_false_or_eq_true ((decide (v5 ≠ 0))) with h2|h2
    · rw [if_pos h2] at hr
      repeat (first|(with_reducible first|refine mv ?_|refine TO.nil ?_)|((with_reducible first|apply TO.mv|apply TO.asg);(repeat (focus (show _ = _;first|exact k2 rfl|(simp only [zz,h2]<;>exact rfl))));(with_reducible apply TO.here))|((with_reducible apply TX.region);(focus (simp only []<;>exact rfl));(focus rfl);(try dsimp only))|((with_reducible apply TX.cond_true);(focus rfl);(focus ((simp only [z1,h2];done)))))
      cases hr
      refine ⟨.inr rfl,_,(by simp only [];exact rfl),?_⟩
      exact Wk.ren [] rfl .nil (by (repeat (first|exact RNs.nil|refine RNs.cons .junk ?_|refine RNs.cons (.keep rfl rfl) ?_|refine RNs.cons (.lsl rfl rfl) ?_|refine RNs.cons (.lsl rfl (by simp only [List.length_set])) ?_|refine RNs.cons (.lptr rfl) ?_|refine RNs.cons (.nil rfl) ?_|refine RNs.cons .nl ?_|refine RNs.cons (.keep (by simp only [h2]) rfl) ?_|refine RNs.cons (.tuple' ?_) ?_|refine RNs.cons (.agg' ?_) ?_)))
    · rw [if_neg (by rw [h2];exact Bool.false_ne_true)] at hr
      repeat (first|(with_reducible first|refine mv ?_|refine TO.nil ?_)|((with_reducible first|apply TO.bin|apply TO.mv);(repeat (focus (show _ = _;first|exact k2 rfl|(simp only [zz,y32,h2]<;>exact rfl))));(with_reducible apply TO.here))|((with_reducible apply TX.region);(focus (simp only []<;>exact rfl));(focus rfl);(try dsimp only))|((with_reducible apply TX.cond_false);(focus rfl);(focus ((simp only [z1,h2];done)))))
      refine TX.unroll ?_
      repeat (first|(with_reducible first|refine mv ?_|refine TO.nil ?_)|((with_reducible first|apply TO.bin|apply TO.ia|apply TO.ld|apply TO.asg|apply TO.mv);(repeat (focus (show _ = _;first|exact k2 rfl|(simp only [zz,y32,tindexAddr,z5,Int.reduceLT,tload,rowOf,partT]<;>exact rfl)|exact rfl)));(with_reducible apply TO.here))|((with_reducible apply TX.region);(focus (simp only []<;>exact rfl));(focus rfl);(try dsimp only))|((with_reducible apply TX.cond_true);(focus rfl);(focus (rfl))))
      obtain ⟨v6,h3,hr⟩:=Option.bind_eq_some_iff.1 hr
      try dsimp only at hr
      apply TO.cal (by first|rfl|(simp only [twant,z1,zp,zs,h2];done)) rfl goFn129 (loop_lines_weigh_c1_e435_spec h3) rfl rfl rfl
      (repeat (focus (show _ = _;(simp only [zz,shift]<;>exact rfl))))
      with_reducible apply TO.here
      repeat (first|(with_reducible first|refine mv ?_|refine TO.nil ?_)|((with_reducible first|apply TO.asg|apply TO.mv|apply TO.bin);(repeat (focus (show _ = _;first|exact k2 rfl|(simp only [zz]<;>exact rfl))));(with_reducible apply TO.here))|((with_reducible apply TX.region);(focus (simp only []<;>exact rfl));(focus rfl);(try dsimp only)))
      rcases Bool.eq_false_or_eq_true ((decide (v6 ≠ 0))) with h4|h4
      · rw [if_pos h4] at hr
        repeat (first|(with_reducible first|refine mv ?_|refine TO.nil ?_)|((with_reducible first|apply TO.mv|apply TO.asg);(repeat (focus (show _ = _;first|exact k2 rfl|(simp only [zz,h4]<;>exact rfl))));(with_reducible apply TO.here))|((with_reducible apply TX.region);(focus (simp only []<;>exact rfl));(focus rfl);(try dsimp only))|((with_reducible apply TX.cond_true);(focus rfl);(focus ((simp only [z1,h4];done)))))
        cases hr
        refine ⟨.inr rfl,_,(by simp only [];exact rfl),?_⟩
        exact Wk.ren [] rfl .nil (by (repeat (first|exact RNs.nil|refine RNs.cons .junk ?_|refine RNs.cons (.keep rfl rfl) ?_|refine RNs.cons (.lsl rfl rfl) ?_|refine RNs.cons (.lsl rfl (by simp only [List.length_set])) ?_|refine RNs.cons (.lptr rfl) ?_|refine RNs.cons (.nil rfl) ?_|refine RNs.cons .nl ?_|refine RNs.cons (.keep (by simp only [h2,h4]) rfl) ?_|refine RNs.cons (.tuple' ?_) ?_|refine RNs.cons (.agg' ?_) ?_)))
      · rw [if_neg (by rw [h4];exact Bool.false_ne_true)] at hr
        repeat (first|(with_reducible first|refine mv ?_|refine TO.nil ?_)|((with_reducible first|apply TO.bin|apply TO.mv);(repeat (focus (show _ = _;first|exact k2 rfl|(simp only [zz,y32,h4]<;>exact rfl))));(with_reducible apply TO.here))|((with_reducible apply TX.region);(focus (simp only []<;>exact rfl));(focus rfl);(try dsimp only))|((with_reducible apply TX.cond_false);(focus rfl);(focus ((simp only [z1,h4];done)))))
        refine TX.unroll ?_
        repeat (first|(with_reducible first|refine mv ?_|refine TO.nil ?_)|((with_reducible first|apply TO.bin|apply TO.asg);(repeat (focus (show _ = _;first|exact k2 rfl|(simp only [zz]<;>exact rfl))));(with_reducible apply TO.here))|((with_reducible apply TX.region);(focus (simp only []<;>exact rfl));(focus rfl);(try dsimp only))|((with_reducible apply TX.cond_false);(focus rfl);(focus (rfl))))
        cases hr
        refine ⟨.inr rfl,_,(by simp only [];exact rfl),?_⟩
        exact Wk.ren [] rfl .nil (by (repeat (first|exact RNs.nil|refine RNs.cons .junk ?_|refine RNs.cons (.keep rfl rfl) ?_|refine RNs.cons (.lsl rfl rfl) ?_|refine RNs.cons (.lsl rfl (by simp only [List.length_set])) ?_|refine RNs.cons (.lptr rfl) ?_|refine RNs.cons (.nil rfl) ?_|refine RNs.cons .nl ?_|refine RNs.cons (.keep (by simp only [h2,h4]) rfl) ?_|refine RNs.cons (.tuple' ?_) ?_|refine RNs.cons (.agg' ?_) ?_)))
  rfl

end Go.Rex

namespace Go.Rex
open Go.Proofs
open Go Go.Rex Go.RowKit
set_option maxRecDepth 100000
set_option maxHeartbeats 200000
def y33:=an @ag126 <| an @ag83 <| an @cs101 <| an @cs126 <| an @cs83 <| an @ok126 <| an @ok83 <| an @so133 <| an @st126 <| an @zc101 <| @zc126
theorem loop_CheckWeights_spec {v1 : (List (List Int))} {v2 : (List Int)} {v3 : Int} (hr : loop_CheckWeights v1 v2 = some (v3)) : Spec (lim Try.prog) 56 [.agg [.list 1 (v1.map e_Li_)],.list 1 (v2.map e_i)] ⟨[.v (.int .i64 v3)],[]⟩:=by
  unfold loop_CheckWeights at hr
  apply Spec.fn Try.func56 rfl
  focus (simp [Try.f56]<;>exact rfl)
  focus
    repeat (first|(with_reducible first|refine mv ?_|refine TO.nil ?_)|((with_reducible first|apply TO.bf|apply TO.asg|apply TO.ld|apply TO.bld|apply TO.al|apply TO.sv);(repeat (focus (show _ = _;first|exact k1 rfl|exact k2 rfl|(simp only [zz,y33,Nat.reduceAdd,Nat.reduceLeDiff,tload,rowOf,partT,tbuild,tfill]<;>exact rfl)|exact rfl)));(with_reducible apply TO.here))|((with_reducible apply TX.region);(focus (simp only []<;>exact rfl));(focus rfl);(try dsimp only))|((with_reducible first|apply TD.ld|apply TD.mf|apply TD.mv);(repeat (focus (show _ = _;first|exact k1 rfl|exact k2 rfl|(simp only [zz,y33,Nat.reduceAdd,Nat.reduceLeDiff,tload,rowOf,partT]<;>exact rfl)|exact rfl)));(with_reducible refine TD.here ?_))|((with_reducible apply TX.drawn);(focus decide +kernel);(focus (simp only []<;>exact rfl));(focus exact rfl);(try dsimp only)))
    obtain ⟨⟨v4,v5⟩,h1,hr⟩:=Option.bind_eq_some_iff.1 hr
    try dsimp only at hr
    first|apply TD.cal (by first|rfl|(simp only [twant,z1,zp,zs];done)) rfl goFn95 (loop_lines_weigh_spec h1) rfl rfl rfl|apply TD.calw (by first|rfl|(simp only [twant,z1,zp,zs];done)) rfl goFn95 (loop_lines_weigh_spec h1) rfl rfl rfl rfl
    (repeat (focus (show _ = _;(simp only [zz,shift]<;>exact rfl))))
    with_reducible apply TD.here
    repeat (first|((with_reducible apply TD.bs);(repeat (focus (show _ = _;first|exact k2 rfl|(simp only [zz,y33,Nat.reduceAdd,Nat.reduceMul,tslice,tparts]<;>exact rfl)|exact rfl)));(with_reducible refine TD.here ?_)))
    obtain ⟨v6,h2,hr⟩:=Option.bind_eq_some_iff.1 hr
    try dsimp only at hr
    first|apply TD.cal (by first|rfl|(simp only [twant,z1,zp,zs];done)) rfl goFn67 (loop_firstError_2803_spec h2) rfl rfl rfl|apply TD.calw (by first|rfl|(simp only [twant,z1,zp,zs];done)) rfl goFn67 (loop_firstError_2803_spec h2) rfl rfl rfl rfl
    (repeat (focus (show _ = _;(simp only [zz,shift]<;>exact rfl))))
    with_reducible apply TD.here
    repeat (first|(with_reducible first|refine mv ?_|refine TD.nil ?_)|((with_reducible apply TD.asg);(repeat (focus (show _ = _;first|exact k2 rfl|(simp only [zz]<;>exact rfl))));(with_reducible refine TD.here ?_)))
    cases hr
    refine ⟨.inr rfl,_,(by simp only [];exact rfl),?_⟩
    exact wr [] rfl .nil
  rfl

end Go.Rex

namespace Go.Rex
open Go.Proofs
open Go Go.Rex Go.RowKit
set_option maxRecDepth 100000
set_option maxHeartbeats 200000
theorem base_Within_spec {v1 : Int} {v2 : Int} {v3 : Int} {v4 : Bool} (hr : base_Within v1 v2 v3 = some (v4)) : Spec (lim Try.prog) 24 [.v (.int .i64 v1),.v (.int .i64 v2),.v (.int .i64 v3)] ⟨[.v (.bool v4)],[]⟩:=by
  unfold base_Within at hr
  apply Spec.fn Try.func24 rfl
  focus (simp [Try.f24]<;>exact rfl)
  focus
    repeat (first|(with_reducible first|refine mv ?_|refine TO.nil ?_)|((with_reducible first|apply TO.asg|apply TO.mv|apply TO.bin);(repeat (focus (show _ = _;first|exact k2 rfl|(simp only [zz]<;>exact rfl))));(with_reducible apply TO.here))|((with_reducible apply TX.region);(focus (simp only []<;>exact rfl));(focus rfl);(try dsimp only)))
    rcases Bool.eq_false_or_eq_true ((decide (v2 ≤ v1))) with h1|h1
    · rw [if_pos h1] at hr
      repeat (first|(with_reducible first|refine mv ?_|refine TO.nil ?_)|((with_reducible first|apply TO.mv|apply TO.bin|apply TO.pk|apply TO.asg);(repeat (focus (show _ = _;first|exact k2 rfl|(simp only [zz,h1]<;>exact rfl))));(with_reducible apply TO.here)))
      cases hr
      refine ⟨.inr rfl,_,(by simp only [];exact rfl),?_⟩
      exact Wk.ren [] rfl .nil (by (repeat (first|exact RNs.nil|refine RNs.cons .junk ?_|refine RNs.cons (.keep rfl rfl) ?_|refine RNs.cons (.lsl rfl rfl) ?_|refine RNs.cons (.lsl rfl (by simp only [List.length_set])) ?_|refine RNs.cons (.lptr rfl) ?_|refine RNs.cons (.nil rfl) ?_|refine RNs.cons .nl ?_|refine RNs.cons (.keep (by simp only [h1]) rfl) ?_|refine RNs.cons (.tuple' ?_) ?_|refine RNs.cons (.agg' ?_) ?_)))
    · rw [if_neg (by rw [h1];exact Bool.false_ne_true)] at hr
      repeat (first|(with_reducible first|refine mv ?_|refine TO.nil ?_)|((with_reducible first|apply TO.pk|apply TO.asg);(repeat (focus (show _ = _;first|exact k2 rfl|(simp only [zz]<;>exact rfl))));(with_reducible apply TO.here))|((with_reducible apply TO.skip1);(repeat (focus (show _ = _;(simp only [zz,twant,zp,zs,h1]<;>exact rfl))));(with_reducible apply TO.here)))
      cases hr
      refine ⟨.inr rfl,_,(by simp only [];exact rfl),?_⟩
      exact Wk.ren [] rfl .nil (by (repeat (first|exact RNs.nil|refine RNs.cons .junk ?_|refine RNs.cons (.keep rfl rfl) ?_|refine RNs.cons (.lsl rfl rfl) ?_|refine RNs.cons (.lsl rfl (by simp only [List.length_set])) ?_|refine RNs.cons (.lptr rfl) ?_|refine RNs.cons (.nil rfl) ?_|refine RNs.cons .nl ?_|refine RNs.cons (.keep (by simp only [h1]) rfl) ?_|refine RNs.cons (.tuple' ?_) ?_|refine RNs.cons (.agg' ?_) ?_)))
  rfl

end Go.Rex

namespace Go.Rex
open Go.Proofs
open Go Go.Rex Go.RowKit
set_option maxRecDepth 100000
set_option maxHeartbeats 1000000
def y34:=an @ag22 <| an @ag3 <| an @ag81 <| an @cs22 <| an @cs3 <| an @fd83_0 <| an @ok22 <| an @ok3 <| an @so22 <| an @so81 <| @wi64_0a1
theorem ref08_CheckLines_spec {v1 : (List (List Int))} {v2 : Int} (hr : ref08_CheckLines v1 = some (v2)) : Spec (lim Try.prog) 57 [.agg [.list 1 (v1.map e_Li_)]] ⟨[.v (.int .i64 v2)],[]⟩:=by
  unfold ref08_CheckLines at hr
  apply Spec.fn Try.func57 rfl
  focus (simp [Try.f57]<;>exact rfl)
  focus
    repeat (first|(with_reducible first|refine mv ?_|refine TO.nil ?_)|((with_reducible first|apply TO.bf|apply TO.asg|apply TO.fa|apply TO.ld|apply TO.len|apply TO.bin);(repeat (focus (show _ = _;first|exact k1 rfl|exact k2 rfl|(simp only [zz,y34,Nat.reduceAdd,tfieldAddr,tload,rowOf,partT,tlen]<;>exact rfl)|exact rfl)));(with_reducible apply TO.here))|((with_reducible apply TX.region);(focus (simp only []<;>exact rfl));(focus rfl);(try dsimp only)))
    rcases Bool.eq_false_or_eq_true ((decide ((v1.length : Int) = 0))) with h1|h1
    · rw [if_pos h1] at hr
      repeat (first|(with_reducible first|refine mv ?_|refine TO.nil ?_)|((with_reducible apply TO.asg);(repeat (focus (show _ = _;first|exact k2 rfl|(simp only [zz,h1]<;>exact rfl))));(with_reducible apply TO.here))|((with_reducible apply TX.region);(focus (simp only []<;>exact rfl));(focus rfl);(try dsimp only))|((with_reducible apply TX.cond_true);(focus rfl);(focus ((simp only [z1,h1];done)))))
      cases hr
      refine ⟨.inr rfl,_,(by simp only [];exact rfl),?_⟩
      exact Wk.ren [] rfl .nil (by (repeat (first|exact RNs.nil|refine RNs.cons .junk ?_|refine RNs.cons (.keep rfl rfl) ?_|refine RNs.cons (.lsl rfl rfl) ?_|refine RNs.cons (.lsl rfl (by simp only [List.length_set])) ?_|refine RNs.cons (.lptr rfl) ?_|refine RNs.cons (.nil rfl) ?_|refine RNs.cons .nl ?_|refine RNs.cons (.keep (by simp only [h1]) rfl) ?_|refine RNs.cons (.tuple' ?_) ?_|refine RNs.cons (.agg' ?_) ?_)))
    · rw [if_neg (by rw [h1];exact Bool.false_ne_true)] at hr
      repeat (first|(with_reducible first|refine mv ?_|refine TO.nil ?_)|((with_reducible first|apply TO.fa|apply TO.ld|apply TO.len|apply TO.bin);(repeat (focus (show _ = _;first|exact k2 rfl|(simp only [zz,y34,Nat.reduceAdd,tfieldAddr,tload,rowOf,partT,tlen,h1]<;>exact rfl)|exact rfl)));(with_reducible apply TO.here))|((with_reducible apply TX.region);(focus (simp only []<;>exact rfl));(focus rfl);(try dsimp only))|((with_reducible apply TX.cond_false);(focus rfl);(focus ((simp only [z1,h1];done)))))
      rcases Bool.eq_false_or_eq_true ((decide ((v1.length : Int) > 4))) with h2|h2
      · rw [if_pos h2] at hr
        repeat (first|(with_reducible first|refine mv ?_|refine TO.nil ?_)|((with_reducible apply TO.asg);(repeat (focus (show _ = _;first|exact k2 rfl|(simp only [zz,h2]<;>exact rfl))));(with_reducible apply TO.here))|((with_reducible apply TX.region);(focus (simp only []<;>exact rfl));(focus rfl);(try dsimp only))|((with_reducible apply TX.cond_true);(focus rfl);(focus ((simp only [z1,h2];done)))))
        cases hr
        refine ⟨.inr rfl,_,(by simp only [];exact rfl),?_⟩
        exact Wk.ren [] rfl .nil (by (repeat (first|exact RNs.nil|refine RNs.cons .junk ?_|refine RNs.cons (.keep rfl rfl) ?_|refine RNs.cons (.lsl rfl rfl) ?_|refine RNs.cons (.lsl rfl (by simp only [List.length_set])) ?_|refine RNs.cons (.lptr rfl) ?_|refine RNs.cons (.nil rfl) ?_|refine RNs.cons .nl ?_|refine RNs.cons (.keep (by simp only [h1,h2]) rfl) ?_|refine RNs.cons (.tuple' ?_) ?_|refine RNs.cons (.agg' ?_) ?_)))
      · rw [if_neg (by rw [h2];exact Bool.false_ne_true)] at hr
        repeat (first|(with_reducible first|refine mv ?_|refine TO.nil ?_)|((with_reducible apply TO.asg);(repeat (focus (show _ = _;first|exact k2 rfl|(simp only [zz,h2]<;>exact rfl))));(with_reducible apply TO.here))|((with_reducible apply TX.region);(focus (simp only []<;>exact rfl));(focus rfl);(try dsimp only))|((with_reducible apply TX.cond_false);(focus rfl);(focus ((simp only [z1,h2];done)))))
        obtain ⟨v19,h27,hr⟩:=Option.bind_eq_some_iff.1 hr
        refine TX.loopE (step:=ref08_CheckLines_l1 v1) (x:=0) h27 (fun v3=>⟨.junk :: .fptr true [.list 1 (v1.map e_Li_)] 0 :: .junk :: .v (.int .i64 v3) :: .junk :: .junk :: .junk :: .junk :: .junk :: .junk :: .junk :: .junk :: .junk :: .junk :: .junk :: .junk :: .junk :: .junk :: .junk :: .junk :: .junk :: .junk :: .junk :: .junk :: .junk :: .junk :: .junk :: .junk :: .junk :: .junk :: .junk :: .junk :: .junk :: .junk :: .junk :: .junk :: .junk :: .junk :: .junk :: .junk :: .junk :: .junk :: .junk :: .junk :: .junk :: .junk :: .junk :: .junk :: .junk :: .junk :: [],[]⟩) (fun e=>match e with|(.inl v11)=>(.ret,⟨.junk :: .junk :: .v (.int .i64 v11) :: .junk :: .junk :: .junk :: .junk :: .junk :: .junk :: .junk :: .junk :: .junk :: .junk :: .junk :: .junk :: .junk :: .junk :: .junk :: .junk :: .junk :: .junk :: .junk :: .junk :: .junk :: .junk :: .junk :: .junk :: .junk :: .junk :: .junk :: .junk :: .junk :: .junk :: .junk :: .junk :: .junk :: .junk :: .junk :: .junk :: .junk :: .junk :: .junk :: .junk :: .junk :: .junk :: .junk :: .junk :: .junk :: .junk :: .junk :: [],[]⟩)|(.inr _)=>(.exit 0,⟨.junk :: .junk :: .junk :: .junk :: .junk :: .junk :: .junk :: .junk :: .junk :: .junk :: .junk :: .junk :: .junk :: .junk :: .junk :: .junk :: .junk :: .junk :: .junk :: .junk :: .junk :: .junk :: .junk :: .junk :: .junk :: .junk :: .junk :: .junk :: .junk :: .junk :: .junk :: .junk :: .junk :: .junk :: .junk :: .junk :: .junk :: .junk :: .junk :: .junk :: .junk :: .junk :: .junk :: .junk :: .junk :: .junk :: .junk :: .junk :: .junk :: .junk :: [],[]⟩)) ?_ ?_ ?_ ?_
        · rintro v3 v0 hr
          dsimp only [ref08_CheckLines_l1] at hr
          try dsimp only
          repeat (first|(with_reducible first|refine mv ?_|refine TO.nil ?_)|((with_reducible first|apply TO.mv|apply TO.fa|apply TO.ld|apply TO.len|apply TO.bin);(repeat (focus (show _ = _;first|exact k2 rfl|(simp only [zz,y34,Nat.reduceAdd,tfieldAddr,tload,rowOf,partT,tlen]<;>exact rfl)|exact rfl)));(with_reducible apply TO.here))|((with_reducible apply TX.region);(focus (simp only []<;>exact rfl));(focus rfl);(try dsimp only)))
          rcases Bool.eq_false_or_eq_true ((decide (v3 < (v1.length : Int)))) with h15|h15
          · rw [if_pos h15] at hr
            repeat (first|with_reducible refine mv ?_|((with_reducible first|apply TD.fa|apply TD.ld|apply TD.mv);(repeat (focus (show _ = _;first|exact k2 rfl|(simp only [zz,y34,Nat.reduceAdd,tfieldAddr,tload,rowOf,partT,h15]<;>exact rfl)|exact rfl)));(with_reducible refine TD.here ?_))|((with_reducible apply TX.drawn);(focus decide +kernel);(focus (simp only []<;>exact rfl));(focus exact rfl);(try dsimp only))|((with_reducible apply TX.cond_true);(focus rfl);(focus ((simp only [z1,h15];done)))))
            obtain ⟨v12,h16,hr⟩:=Option.bind_eq_some_iff.1 hr
            try dsimp only at hr
            have h16m:=tidx_map (f:=e_Li_) h16
            have h16l:=getI_lt h16
            try simp only [List.length_set] at h16l
            have h16a:=getI_at h16
            repeat (first|(with_reducible first|refine mv ?_|refine TD.nil ?_)|((with_reducible first|apply TD.ia|apply TD.ld|apply TD.len|apply TD.fa|apply TD.bin);(repeat (focus (show _ = _;first|exact k2 rfl|(simp only [zz,y34,e_Li_,tindexAddr,Nat.zero_add,tload,rowOf,partT,tlen,tfieldAddr,h16m]<;>exact rfl)|exact rfl)));(with_reducible refine TD.here ?_)))
            rcases Bool.eq_false_or_eq_true ((decide ((v12.length : Int) ≠ (v1.length : Int)))) with h17|h17
            · rw [if_pos h17] at hr
              repeat (first|(with_reducible first|refine mv ?_|refine TO.nil ?_)|((with_reducible apply TO.asg);(repeat (focus (show _ = _;first|exact k2 rfl|(simp only [zz,h17]<;>exact rfl))));(with_reducible apply TO.here))|((with_reducible apply TX.region);(focus (simp only []<;>exact rfl));(focus rfl);(try dsimp only))|((with_reducible apply TX.cond_true);(focus rfl);(focus ((simp only [z1,h17];done)))))
              cases hr
              refine ⟨rfl,?_⟩
              exact Wk.ren [] rfl .nil (by (repeat (first|exact RNs.nil|refine RNs.cons .junk ?_|refine RNs.cons (.keep rfl rfl) ?_|refine RNs.cons (.lsl rfl rfl) ?_|refine RNs.cons (.lsl rfl (by simp only [List.length_set])) ?_|refine RNs.cons (.lptr rfl) ?_|refine RNs.cons (.nil rfl) ?_|refine RNs.cons .nl ?_|refine RNs.cons (.keep (by simp only [h1,h2,h15,h17]) rfl) ?_|refine RNs.cons (.tuple' ?_) ?_|refine RNs.cons (.agg' ?_) ?_)))
            · rw [if_neg (by rw [h17];exact Bool.false_ne_true)] at hr
              repeat (first|(with_reducible first|refine mv ?_|refine TO.nil ?_)|((with_reducible apply TO.asg);(repeat (focus (show _ = _;first|exact k2 rfl|(simp only [zz,h17]<;>exact rfl))));(with_reducible apply TO.here))|((with_reducible apply TX.region);(focus (simp only []<;>exact rfl));(focus rfl);(try dsimp only))|((with_reducible apply TX.cond_false);(focus rfl);(focus ((simp only [z1,h17];done)))))
              obtain ⟨v18,h26,hr⟩:=Option.bind_eq_some_iff.1 hr
              refine TX.loopE (step:=ref08_CheckLines_l2 v12) (x:=0) h26 (fun v13=>⟨.junk :: .fptr true [.list 1 (v1.map e_Li_)] 0 :: .junk :: .v (.int .i64 v3) :: .v (.int .i64 v13) :: .junk :: .junk :: .junk :: .junk :: .junk :: .junk :: .junk :: .junk :: .junk :: .junk :: .junk :: .junk :: .junk :: .junk :: .junk :: .junk :: .junk :: .junk :: .junk :: .junk :: .junk :: .junk :: .junk :: .junk :: .junk :: .junk :: .junk :: .junk :: .junk :: .junk :: .junk :: .junk :: .junk :: .junk :: .junk :: .junk :: .junk :: .junk :: .junk :: .junk :: .junk :: .junk :: .junk :: .junk :: .junk :: [],[]⟩) (fun e=>match e with|(.inl _)=>(.ret,⟨.junk :: .junk :: .v (.int .i64 2) :: .junk :: .junk :: .junk :: .junk :: .junk :: .junk :: .junk :: .junk :: .junk :: .junk :: .junk :: .junk :: .junk :: .junk :: .junk :: .junk :: .junk :: .junk :: .junk :: .junk :: .junk :: .junk :: .junk :: .junk :: .junk :: .junk :: .junk :: .junk :: .junk :: .junk :: .junk :: .junk :: .junk :: .junk :: .junk :: .junk :: .junk :: .junk :: .junk :: .junk :: .junk :: .junk :: .junk :: .junk :: .junk :: .junk :: .junk :: [],[]⟩)|(.inr _)=>(.exit 2,⟨.junk :: .fptr true [.list 1 (v1.map e_Li_)] 0 :: .junk :: .v (.int .i64 v3) :: .junk :: .junk :: .junk :: .junk :: .junk :: .junk :: .junk :: .junk :: .junk :: .junk :: .junk :: .junk :: .junk :: .junk :: .junk :: .junk :: .junk :: .junk :: .junk :: .junk :: .junk :: .junk :: .junk :: .junk :: .junk :: .junk :: .junk :: .junk :: .junk :: .junk :: .junk :: .junk :: .junk :: .junk :: .junk :: .junk :: .junk :: .junk :: .junk :: .junk :: .junk :: .junk :: .junk :: .junk :: .junk :: .junk :: [],[]⟩)) ?_ ?_ ?_ ?_
              · rintro v13 v0 hr
                dsimp only [ref08_CheckLines_l2] at hr
                try dsimp only
                repeat (first|(with_reducible first|refine mv ?_|refine TO.nil ?_)|((with_reducible first|apply TO.mv|apply TO.fa|apply TO.ld|apply TO.ia|apply TO.len|apply TO.bin);(repeat (focus (show _ = _;first|exact k2 rfl|(simp only [zz,y34,e_Li_,tfieldAddr,tload,rowOf,partT,tindexAddr,Nat.zero_add,tlen,h16m]<;>exact rfl)|exact rfl)));(with_reducible apply TO.here))|((with_reducible apply TX.region);(focus (simp only []<;>exact rfl));(focus rfl);(try dsimp only)))
                rcases Bool.eq_false_or_eq_true ((decide (v13 < (v12.length : Int)))) with h22|h22
                · rw [if_pos h22] at hr
                  repeat (first|with_reducible refine mv ?_|((with_reducible first|apply TO.fa|apply TO.ld|apply TO.mv|apply TO.ia);(repeat (focus (show _ = _;first|exact k2 rfl|(simp only [zz,y34,e_Li_,tfieldAddr,tload,rowOf,partT,tindexAddr,Nat.zero_add,h16m,h22]<;>exact rfl)|exact rfl)));(with_reducible apply TO.here))|((with_reducible apply TX.region);(focus (simp only []<;>exact rfl));(focus rfl);(try dsimp only))|((with_reducible apply TX.cond_true);(focus rfl);(focus ((simp only [z1,h22];done)))))
                  obtain ⟨v16,h23,hr⟩:=Option.bind_eq_some_iff.1 hr
                  try dsimp only at hr
                  have h23m:=tidx_map (f:=e_i) h23
                  have h23l:=getI_lt h23
                  try simp only [List.length_set] at h23l
                  have h23a:=getI_at h23
                  repeat (first|((with_reducible first|apply TO.ia|apply TO.ld);(repeat (focus (show _ = _;first|exact k2 rfl|(simp only [zz,y34,e_i,tindexAddr,tload,rowOf,partT,h23m]<;>exact rfl)|exact rfl)));(with_reducible apply TO.here)))
                  obtain ⟨v17,h24,hr⟩:=Option.bind_eq_some_iff.1 hr
                  try dsimp only at hr
                  apply TO.cal (by first|rfl|(simp only [twant,z1,zp,zs,h1,h2,h15,h16m,h16l,h16a,h17,h22,h23m,h23l,h23a];done)) rfl goFn24 (base_Within_spec h24) rfl rfl rfl
                  (repeat (focus (show _ = _;(simp only [zz,shift]<;>exact rfl))))
                  with_reducible apply TO.here
                  apply TO.pop1 (by first|rfl|(simp only [twant,z1,zp,zs,h1,h2,h15,h16m,h16l,h16a,h17,h22,h23m,h23l,h23a];done)) (pop_not rfl)
                  (repeat (focus (show _ = _;(simp only [zz]<;>exact rfl))))
                  with_reducible apply TO.here
                  repeat (first|(with_reducible first|refine mv ?_|refine TO.nil ?_))
                  rcases Bool.eq_false_or_eq_true (v17) with h25|h25
                  · rw [if_pos h25] at hr
                    repeat (first|(with_reducible first|refine mv ?_|refine TO.nil ?_)|((with_reducible first|apply TO.mv|apply TO.bin|apply TO.asg);(repeat (focus (show _ = _;first|exact k2 rfl|(simp only [zz,h25]<;>exact rfl))));(with_reducible apply TO.here))|((with_reducible apply TX.region);(focus (simp only []<;>exact rfl));(focus rfl);(try dsimp only))|((with_reducible apply TX.cond_false);(focus rfl);(focus ((simp only [z1,Bool.not_true,h25];done)))))
                    cases hr
                    refine ⟨rfl,?_⟩
                    exact Wk.ren [] rfl .nil (by (repeat (first|exact RNs.nil|refine RNs.cons .junk ?_|refine RNs.cons (.keep rfl rfl) ?_|refine RNs.cons (.lsl rfl rfl) ?_|refine RNs.cons (.lsl rfl (by simp only [List.length_set])) ?_|refine RNs.cons (.lptr rfl) ?_|refine RNs.cons (.nil rfl) ?_|refine RNs.cons .nl ?_|refine RNs.cons (.keep (by simp only [h1,h2,h15,h17,h22,h25]) rfl) ?_|refine RNs.cons (.tuple' ?_) ?_|refine RNs.cons (.agg' ?_) ?_)))
                  · rw [if_neg (by rw [h25];exact Bool.false_ne_true)] at hr
                    repeat (first|(with_reducible first|refine mv ?_|refine TO.nil ?_)|((with_reducible apply TO.asg);(repeat (focus (show _ = _;first|exact k2 rfl|(simp only [zz,h25]<;>exact rfl))));(with_reducible apply TO.here))|((with_reducible apply TX.region);(focus (simp only []<;>exact rfl));(focus rfl);(try dsimp only))|((with_reducible apply TX.cond_true);(focus rfl);(focus ((simp only [z1,Bool.not_false,h25];done)))))
                    cases hr
                    refine ⟨rfl,?_⟩
                    exact Wk.ren [] rfl .nil (by (repeat (first|exact RNs.nil|refine RNs.cons .junk ?_|refine RNs.cons (.keep rfl rfl) ?_|refine RNs.cons (.lsl rfl rfl) ?_|refine RNs.cons (.lsl rfl (by simp only [List.length_set])) ?_|refine RNs.cons (.lptr rfl) ?_|refine RNs.cons (.nil rfl) ?_|refine RNs.cons .nl ?_|refine RNs.cons (.keep (by simp only [h1,h2,h15,h17,h22,h25]) rfl) ?_|refine RNs.cons (.tuple' ?_) ?_|refine RNs.cons (.agg' ?_) ?_)))
                · rw [if_neg (by rw [h22];exact Bool.false_ne_true)] at hr
                  repeat (first|with_reducible refine mv ?_|((with_reducible apply TX.cond_false);(focus rfl);(focus ((simp only [z1,h22];done)))))
                  cases hr
                  refine ⟨rfl,?_⟩
                  exact Wk.ren [] rfl .nil (by (repeat (first|exact RNs.nil|refine RNs.cons .junk ?_|refine RNs.cons (.keep rfl rfl) ?_|refine RNs.cons (.lsl rfl rfl) ?_|refine RNs.cons (.lsl rfl (by simp only [List.length_set])) ?_|refine RNs.cons (.lptr rfl) ?_|refine RNs.cons (.nil rfl) ?_|refine RNs.cons .nl ?_|refine RNs.cons (.keep (by simp only [h1,h2,h15,h17,h22]) rfl) ?_|refine RNs.cons (.tuple' ?_) ?_|refine RNs.cons (.agg' ?_) ?_)))
              · intro e h;rcases e with _|e<;>cases h
              · try dsimp only
                rcases v18 with _|_
                · try dsimp only at hr
                  try dsimp only
                  repeat (first|with_reducible refine mv ?_)
                  cases hr
                  refine ⟨rfl,?_⟩
                  exact Wk.ren [] rfl .nil (by (repeat (first|exact RNs.nil|refine RNs.cons .junk ?_|refine RNs.cons (.keep rfl rfl) ?_|refine RNs.cons (.lsl rfl rfl) ?_|refine RNs.cons (.lsl rfl (by simp only [List.length_set])) ?_|refine RNs.cons (.lptr rfl) ?_|refine RNs.cons (.nil rfl) ?_|refine RNs.cons .nl ?_|refine RNs.cons (.keep (by simp only [h1,h2,h15,h17]) rfl) ?_|refine RNs.cons (.tuple' ?_) ?_|refine RNs.cons (.agg' ?_) ?_)))
                · try dsimp only at hr
                  try dsimp only
                  repeat (first|(with_reducible first|refine mv ?_|refine TO.nil ?_)|((with_reducible first|apply TO.mv|apply TO.bin|apply TO.asg);(repeat (focus (show _ = _;first|exact k2 rfl|(simp only [zz]<;>exact rfl))));(with_reducible apply TO.here))|((with_reducible apply TX.region);(focus (simp only []<;>exact rfl));(focus rfl);(try dsimp only)))
                  cases hr
                  refine ⟨rfl,?_⟩
                  exact Wk.ren [] rfl .nil (by (repeat (first|exact RNs.nil|refine RNs.cons .junk ?_|refine RNs.cons (.keep rfl rfl) ?_|refine RNs.cons (.lsl rfl rfl) ?_|refine RNs.cons (.lsl rfl (by simp only [List.length_set])) ?_|refine RNs.cons (.lptr rfl) ?_|refine RNs.cons (.nil rfl) ?_|refine RNs.cons .nl ?_|refine RNs.cons (.keep (by simp only [h1,h2,h15,h17]) rfl) ?_|refine RNs.cons (.tuple' ?_) ?_|refine RNs.cons (.agg' ?_) ?_)))
              · try dsimp only
                exact Wk.ren [] rfl .nil (by (repeat (first|exact RNs.nil|refine RNs.cons .junk ?_|refine RNs.cons (.keep rfl rfl) ?_|refine RNs.cons (.lsl rfl rfl) ?_|refine RNs.cons (.lsl rfl (by simp only [List.length_set])) ?_|refine RNs.cons (.lptr rfl) ?_|refine RNs.cons (.nil rfl) ?_|refine RNs.cons .nl ?_|refine RNs.cons (.keep (by simp only [h1,h2,h15,h17]) rfl) ?_|refine RNs.cons (.tuple' ?_) ?_|refine RNs.cons (.agg' ?_) ?_)))
          · rw [if_neg (by rw [h15];exact Bool.false_ne_true)] at hr
            repeat (first|with_reducible refine mv ?_|((with_reducible apply TX.cond_false);(focus rfl);(focus ((simp only [z1,h15];done)))))
            cases hr
            refine ⟨rfl,?_⟩
            exact Wk.ren [] rfl .nil (by (repeat (first|exact RNs.nil|refine RNs.cons .junk ?_|refine RNs.cons (.keep rfl rfl) ?_|refine RNs.cons (.lsl rfl rfl) ?_|refine RNs.cons (.lsl rfl (by simp only [List.length_set])) ?_|refine RNs.cons (.lptr rfl) ?_|refine RNs.cons (.nil rfl) ?_|refine RNs.cons .nl ?_|refine RNs.cons (.keep (by simp only [h1,h2,h15]) rfl) ?_|refine RNs.cons (.tuple' ?_) ?_|refine RNs.cons (.agg' ?_) ?_)))
        · intro e h;rcases e with _|e<;>cases h
        · try dsimp only
          rcases v19 with v20|_
          · try dsimp only at hr
            try dsimp only
            repeat (first|with_reducible refine mv ?_)
            cases hr
            refine ⟨.inr rfl,_,(by simp only [];exact rfl),?_⟩
            exact Wk.ren [] rfl .nil (by (repeat (first|exact RNs.nil|refine RNs.cons .junk ?_|refine RNs.cons (.keep rfl rfl) ?_|refine RNs.cons (.lsl rfl rfl) ?_|refine RNs.cons (.lsl rfl (by simp only [List.length_set])) ?_|refine RNs.cons (.lptr rfl) ?_|refine RNs.cons (.nil rfl) ?_|refine RNs.cons .nl ?_|refine RNs.cons (.keep (by simp only [h1,h2]) rfl) ?_|refine RNs.cons (.tuple' ?_) ?_|refine RNs.cons (.agg' ?_) ?_)))
          · try dsimp only at hr
            try dsimp only
            repeat (first|(with_reducible first|refine mv ?_|refine TO.nil ?_)|((with_reducible apply TO.asg);(repeat (focus (show _ = _;first|exact k2 rfl|(simp only [zz]<;>exact rfl))));(with_reducible apply TO.here))|((with_reducible apply TX.region);(focus (simp only []<;>exact rfl));(focus rfl);(try dsimp only)))
            cases hr
            refine ⟨.inr rfl,_,(by simp only [];exact rfl),?_⟩
            exact Wk.ren [] rfl .nil (by (repeat (first|exact RNs.nil|refine RNs.cons .junk ?_|refine RNs.cons (.keep rfl rfl) ?_|refine RNs.cons (.lsl rfl rfl) ?_|refine RNs.cons (.lsl rfl (by simp only [List.length_set])) ?_|refine RNs.cons (.lptr rfl) ?_|refine RNs.cons (.nil rfl) ?_|refine RNs.cons .nl ?_|refine RNs.cons (.keep (by simp only [h1,h2]) rfl) ?_|refine RNs.cons (.tuple' ?_) ?_|refine RNs.cons (.agg' ?_) ?_)))
        · try dsimp only
          exact Wk.ren [] rfl .nil (by (repeat (first|exact RNs.nil|refine RNs.cons .junk ?_|refine RNs.cons (.keep rfl rfl) ?_|refine RNs.cons (.lsl rfl rfl) ?_|refine RNs.cons (.lsl rfl (by simp only [List.length_set])) ?_|refine RNs.cons (.lptr rfl) ?_|refine RNs.cons (.nil rfl) ?_|refine RNs.cons .nl ?_|refine RNs.cons (.keep (by simp only [h1,h2]) rfl) ?_|refine RNs.cons (.tuple' ?_) ?_|refine RNs.cons (.agg' ?_) ?_)))
  rfl

end Go.Rex

namespace Go.Rex
open Go.Proofs
open Go Go.Rex Go.RowKit
set_option maxRecDepth 100000
set_option maxHeartbeats 200000
def y35:=an @ag83 <| an @cs83 <| an @ok83 <| an @st126 <| @zc126
theorem loop_CheckLines_spec {v1 : (List (List Int))} {v2 : Int} (hr : loop_CheckLines v1 = some (v2)) : Spec (lim Try.prog) 58 [.agg [.list 1 (v1.map e_Li_)]] ⟨[.v (.int .i64 v2)],[]⟩:=by
  unfold loop_CheckLines at hr
  apply Spec.fn Try.func58 rfl
  focus (simp [Try.f58]<;>exact rfl)
  focus
    repeat (first|(with_reducible first|refine mv ?_|refine TO.nil ?_)|((with_reducible first|apply TO.bf|apply TO.asg|apply TO.ld|apply TO.bld);(repeat (focus (show _ = _;first|exact k1 rfl|exact k2 rfl|(simp only [zz,y35,Nat.reduceAdd,Nat.reduceLeDiff,tload,rowOf,partT,tbuild,tfill]<;>exact rfl)|exact rfl)));(with_reducible apply TO.here))|((with_reducible apply TX.region);(focus (simp only []<;>exact rfl));(focus rfl);(try dsimp only)))
    obtain ⟨v3,h1,hr⟩:=Option.bind_eq_some_iff.1 hr
    try dsimp only at hr
    apply TO.cal (by first|rfl|(simp only [twant,z1,zp,zs];done)) rfl goFn91 (loop_lines_check_spec h1) rfl rfl rfl
    (repeat (focus (show _ = _;(simp only [zz,shift]<;>exact rfl))))
    with_reducible apply TO.here
    repeat (first|(with_reducible first|refine mv ?_|refine TO.nil ?_)|((with_reducible apply TO.asg);(repeat (focus (show _ = _;first|exact k2 rfl|(simp only [zz]<;>exact rfl))));(with_reducible apply TO.here)))
    cases hr
    refine ⟨.inr rfl,_,(by simp only [];exact rfl),?_⟩
    exact wr [] rfl .nil
  rfl

end Go.Rex

namespace Go.Rex
open Go.Proofs
open Go Go.Rex Go.RowKit
set_option maxRecDepth 100000
set_option maxHeartbeats 1000000
def y36:=an @ag22 <| an @ag3 <| an @ag81 <| an @cs22 <| an @cs3 <| an @fd83_0 <| an @ok22 <| an @ok3 <| an @so22 <| an @so81 <| @wi64_0a1
theorem ref08_CheckWeights_spec {v1 : (List (List Int))} {v2 : (List Int)} {v3 : Int} (hr : ref08_CheckWeights v1 v2 = some (v3)) : Spec (lim Try.prog) 59 [.agg [.list 1 (v1.map e_Li_)],.list 1 (v2.map e_i)] ⟨[.v (.int .i64 v3)],[]⟩:=by
  unfold ref08_CheckWeights at hr
  apply Spec.fn Try.func59 rfl
  focus (simp [Try.f59]<;>exact rfl)
  focus
    repeat (first|(with_reducible first|refine mv ?_|refine TO.nil ?_)|((with_reducible first|apply TO.bf|apply TO.asg|apply TO.mv|apply TO.len|apply TO.fa|apply TO.ld|apply TO.bin);(repeat (focus (show _ = _;first|exact k1 rfl|exact k2 rfl|(simp only [zz,y36,Nat.reduceAdd,tlen,tfieldAddr,tload,rowOf,partT]<;>exact rfl)|exact rfl)));(with_reducible apply TO.here))|((with_reducible apply TX.region);(focus (simp only []<;>exact rfl));(focus rfl);(try dsimp only)))
    rcases Bool.eq_false_or_eq_true ((decide ((v2.length : Int) ≠ (v1.length : Int)))) with h1|h1
    · rw [if_pos h1] at hr
      repeat (first|(with_reducible first|refine mv ?_|refine TO.nil ?_)|((with_reducible apply TO.asg);(repeat (focus (show _ = _;first|exact k2 rfl|(simp only [zz,h1]<;>exact rfl))));(with_reducible apply TO.here))|((with_reducible apply TX.region);(focus (simp only []<;>exact rfl));(focus rfl);(try dsimp only))|((with_reducible apply TX.cond_true);(focus rfl);(focus ((simp only [z1,h1];done)))))
      cases hr
      refine ⟨.inr rfl,_,(by simp only [];exact rfl),?_⟩
      exact Wk.ren [] rfl .nil (by (repeat (first|exact RNs.nil|refine RNs.cons .junk ?_|refine RNs.cons (.keep rfl rfl) ?_|refine RNs.cons (.lsl rfl rfl) ?_|refine RNs.cons (.lsl rfl (by simp only [List.length_set])) ?_|refine RNs.cons (.lptr rfl) ?_|refine RNs.cons (.nil rfl) ?_|refine RNs.cons .nl ?_|refine RNs.cons (.keep (by simp only [h1]) rfl) ?_|refine RNs.cons (.tuple' ?_) ?_|refine RNs.cons (.agg' ?_) ?_)))
    · rw [if_neg (by rw [h1];exact Bool.false_ne_true)] at hr
      repeat (first|(with_reducible first|refine mv ?_|refine TO.nil ?_)|((with_reducible apply TO.asg);(repeat (focus (show _ = _;first|exact k2 rfl|(simp only [zz,h1]<;>exact rfl))));(with_reducible apply TO.here))|((with_reducible apply TX.region);(focus (simp only []<;>exact rfl));(focus rfl);(try dsimp only))|((with_reducible apply TX.cond_false);(focus rfl);(focus ((simp only [z1,h1];done)))))
      obtain ⟨v9,h10,hr⟩:=Option.bind_eq_some_iff.1 hr
      refine TX.loopE (step:=ref08_CheckWeights_l1 v2) (x:=0) h10 (fun v4=>⟨.junk :: .list 1 (v2.map e_i) :: .fptr true [.list 1 (v1.map e_Li_)] 0 :: .junk :: .junk :: .v (.int .i64 v4) :: .junk :: .junk :: .junk :: .junk :: .junk :: .junk :: .junk :: .junk :: .junk :: .junk :: .junk :: .junk :: .junk :: .junk :: .junk :: .junk :: .junk :: .junk :: .junk :: .junk :: .junk :: .junk :: .junk :: .junk :: .junk :: .junk :: .junk :: .junk :: .junk :: .junk :: .junk :: .junk :: .junk :: .junk :: .junk :: .junk :: .junk :: .junk :: .junk :: .junk :: .junk :: .junk :: .junk :: .junk :: .junk :: .junk :: .junk :: .junk :: .junk :: .junk :: .junk :: .junk :: .junk :: .junk :: .junk :: [],[]⟩) (fun e=>match e with|(.inl _)=>(.ret,⟨.junk :: .junk :: .junk :: .junk :: .v (.int .i64 2) :: .junk :: .junk :: .junk :: .junk :: .junk :: .junk :: .junk :: .junk :: .junk :: .junk :: .junk :: .junk :: .junk :: .junk :: .junk :: .junk :: .junk :: .junk :: .junk :: .junk :: .junk :: .junk :: .junk :: .junk :: .junk :: .junk :: .junk :: .junk :: .junk :: .junk :: .junk :: .junk :: .junk :: .junk :: .junk :: .junk :: .junk :: .junk :: .junk :: .junk :: .junk :: .junk :: .junk :: .junk :: .junk :: .junk :: .junk :: .junk :: .junk :: .junk :: .junk :: .junk :: .junk :: .junk :: .junk :: .junk :: [],[]⟩)|(.inr _)=>(.exit 0,⟨.junk :: .list 1 (v2.map e_i) :: .fptr true [.list 1 (v1.map e_Li_)] 0 :: .junk :: .junk :: .junk :: .junk :: .junk :: .junk :: .junk :: .junk :: .junk :: .junk :: .junk :: .junk :: .junk :: .junk :: .junk :: .junk :: .junk :: .junk :: .junk :: .junk :: .junk :: .junk :: .junk :: .junk :: .junk :: .junk :: .junk :: .junk :: .junk :: .junk :: .junk :: .junk :: .junk :: .junk :: .junk :: .junk :: .junk :: .junk :: .junk :: .junk :: .junk :: .junk :: .junk :: .junk :: .junk :: .junk :: .junk :: .junk :: .junk :: .junk :: .junk :: .junk :: .junk :: .junk :: .junk :: .junk :: .junk :: .junk :: [],[]⟩)) ?_ ?_ ?_ ?_
      · rintro v4 v0 hr
        dsimp only [ref08_CheckWeights_l1] at hr
        try dsimp only
        repeat (first|(with_reducible first|refine mv ?_|refine TO.nil ?_)|((with_reducible first|apply TO.mv|apply TO.len|apply TO.bin);(repeat (focus (show _ = _;first|exact k2 rfl|(simp only [zz,y36,tlen]<;>exact rfl))));(with_reducible apply TO.here))|((with_reducible apply TX.region);(focus (simp only []<;>exact rfl));(focus rfl);(try dsimp only)))
        rcases Bool.eq_false_or_eq_true ((decide (v4 < (v2.length : Int)))) with h6|h6
        · rw [if_pos h6] at hr
          repeat (first|with_reducible refine mv ?_|((with_reducible apply TO.mv);(repeat (focus (show _ = _;first|exact k2 rfl|(simp only [zz,h6]<;>exact rfl))));(with_reducible apply TO.here))|((with_reducible apply TX.region);(focus (simp only []<;>exact rfl));(focus rfl);(try dsimp only))|((with_reducible apply TX.cond_true);(focus rfl);(focus ((simp only [z1,h6];done)))))
          obtain ⟨v7,h7,hr⟩:=Option.bind_eq_some_iff.1 hr
          try dsimp only at hr
          have h7m:=tidx_map (f:=e_i) h7
          have h7l:=getI_lt h7
          try simp only [List.length_set] at h7l
          have h7a:=getI_at h7
          repeat (first|((with_reducible first|apply TO.ia|apply TO.ld);(repeat (focus (show _ = _;first|exact k2 rfl|(simp only [zz,y36,e_i,tindexAddr,tload,rowOf,partT,h7m]<;>exact rfl)|exact rfl)));(with_reducible apply TO.here)))
          obtain ⟨v8,h8,hr⟩:=Option.bind_eq_some_iff.1 hr
          try dsimp only at hr
          apply TO.cal (by first|rfl|(simp only [twant,z1,zp,zs,h1,h6,h7m,h7l,h7a];done)) rfl goFn24 (base_Within_spec h8) rfl rfl rfl
          (repeat (focus (show _ = _;(simp only [zz,shift]<;>exact rfl))))
          with_reducible apply TO.here
          apply TO.pop1 (by first|rfl|(simp only [twant,z1,zp,zs,h1,h6,h7m,h7l,h7a];done)) (pop_not rfl)
          (repeat (focus (show _ = _;(simp only [zz]<;>exact rfl))))
          with_reducible apply TO.here
          repeat (first|(with_reducible first|refine mv ?_|refine TO.nil ?_))
          rcases Bool.eq_false_or_eq_true (v8) with h9|h9
          · rw [if_pos h9] at hr
            repeat (first|(with_reducible first|refine mv ?_|refine TO.nil ?_)|((with_reducible first|apply TO.mv|apply TO.bin|apply TO.asg);(repeat (focus (show _ = _;first|exact k2 rfl|(simp only [zz,h9]<;>exact rfl))));(with_reducible apply TO.here))|((with_reducible apply TX.region);(focus (simp only []<;>exact rfl));(focus rfl);(try dsimp only))|((with_reducible apply TX.cond_false);(focus rfl);(focus ((simp only [z1,Bool.not_true,h9];done)))))
            cases hr
            refine ⟨rfl,?_⟩
            exact Wk.ren [] rfl .nil (by (repeat (first|exact RNs.nil|refine RNs.cons .junk ?_|refine RNs.cons (.keep rfl rfl) ?_|refine RNs.cons (.lsl rfl rfl) ?_|refine RNs.cons (.lsl rfl (by simp only [List.length_set])) ?_|refine RNs.cons (.lptr rfl) ?_|refine RNs.cons (.nil rfl) ?_|refine RNs.cons .nl ?_|refine RNs.cons (.keep (by simp only [h1,h6,h9]) rfl) ?_|refine RNs.cons (.tuple' ?_) ?_|refine RNs.cons (.agg' ?_) ?_)))
          · rw [if_neg (by rw [h9];exact Bool.false_ne_true)] at hr
            repeat (first|(with_reducible first|refine mv ?_|refine TO.nil ?_)|((with_reducible apply TO.asg);(repeat (focus (show _ = _;first|exact k2 rfl|(simp only [zz,h9]<;>exact rfl))));(with_reducible apply TO.here))|((with_reducible apply TX.region);(focus (simp only []<;>exact rfl));(focus rfl);(try dsimp only))|((with_reducible apply TX.cond_true);(focus rfl);(focus ((simp only [z1,Bool.not_false,h9];done)))))
            cases hr
            refine ⟨rfl,?_⟩
            exact Wk.ren [] rfl .nil (by (repeat (first|exact RNs.nil|refine RNs.cons .junk ?_|refine RNs.cons (.keep rfl rfl) ?_|refine RNs.cons (.lsl rfl rfl) ?_|refine RNs.cons (.lsl rfl (by simp only [List.length_set])) ?_|refine RNs.cons (.lptr rfl) ?_|refine RNs.cons (.nil rfl) ?_|refine RNs.cons .nl ?_|refine RNs.cons (.keep (by simp only [h1,h6,h9]) rfl) ?_|refine RNs.cons (.tuple' ?_) ?_|refine RNs.cons (.agg' ?_) ?_)))
        · rw [if_neg (by rw [h6];exact Bool.false_ne_true)] at hr
          repeat (first|with_reducible refine mv ?_|((with_reducible apply TX.cond_false);(focus rfl);(focus ((simp only [z1,h6];done)))))
          cases hr
          refine ⟨rfl,?_⟩
          exact Wk.ren [] rfl .nil (by (repeat (first|exact RNs.nil|refine RNs.cons .junk ?_|refine RNs.cons (.keep rfl rfl) ?_|refine RNs.cons (.lsl rfl rfl) ?_|refine RNs.cons (.lsl rfl (by simp only [List.length_set])) ?_|refine RNs.cons (.lptr rfl) ?_|refine RNs.cons (.nil rfl) ?_|refine RNs.cons .nl ?_|refine RNs.cons (.keep (by simp only [h1,h6]) rfl) ?_|refine RNs.cons (.tuple' ?_) ?_|refine RNs.cons (.agg' ?_) ?_)))
      · intro e h;rcases e with _|e<;>cases h
      · try dsimp only
        rcases v9 with _|_
        · try dsimp only at hr
          try dsimp only
          repeat (first|with_reducible refine mv ?_)
          cases hr
          refine ⟨.inr rfl,_,(by simp only [];exact rfl),?_⟩
          exact Wk.ren [] rfl .nil (by (repeat (first|exact RNs.nil|refine RNs.cons .junk ?_|refine RNs.cons (.keep rfl rfl) ?_|refine RNs.cons (.lsl rfl rfl) ?_|refine RNs.cons (.lsl rfl (by simp only [List.length_set])) ?_|refine RNs.cons (.lptr rfl) ?_|refine RNs.cons (.nil rfl) ?_|refine RNs.cons .nl ?_|refine RNs.cons (.keep (by simp only [h1]) rfl) ?_|refine RNs.cons (.tuple' ?_) ?_|refine RNs.cons (.agg' ?_) ?_)))
        · try dsimp only at hr
          try dsimp only
          repeat (first|(with_reducible first|refine mv ?_|refine TO.nil ?_)|((with_reducible apply TO.asg);(repeat (focus (show _ = _;first|exact k2 rfl|(simp only [zz]<;>exact rfl))));(with_reducible apply TO.here))|((with_reducible apply TX.region);(focus (simp only []<;>exact rfl));(focus rfl);(try dsimp only)))
          obtain ⟨v33,h35,hr⟩:=Option.bind_eq_some_iff.1 hr
          refine TX.loopE (step:=ref08_CheckWeights_l2 v1 v2) (x:=0) h35 (fun v10=>⟨.junk :: .list 1 (v2.map e_i) :: .fptr true [.list 1 (v1.map e_Li_)] 0 :: .junk :: .junk :: .junk :: .v (.int .i64 v10) :: .junk :: .junk :: .junk :: .junk :: .junk :: .junk :: .junk :: .junk :: .junk :: .junk :: .junk :: .junk :: .junk :: .junk :: .junk :: .junk :: .junk :: .junk :: .junk :: .junk :: .junk :: .junk :: .junk :: .junk :: .junk :: .junk :: .junk :: .junk :: .junk :: .junk :: .junk :: .junk :: .junk :: .junk :: .junk :: .junk :: .junk :: .junk :: .junk :: .junk :: .junk :: .junk :: .junk :: .junk :: .junk :: .junk :: .junk :: .junk :: .junk :: .junk :: .junk :: .junk :: .junk :: .junk :: [],[]⟩) (fun e=>match e with|(.inl _)=>(.ret,⟨.junk :: .junk :: .junk :: .junk :: .v (.int .i64 20) :: .junk :: .junk :: .junk :: .junk :: .junk :: .junk :: .junk :: .junk :: .junk :: .junk :: .junk :: .junk :: .junk :: .junk :: .junk :: .junk :: .junk :: .junk :: .junk :: .junk :: .junk :: .junk :: .junk :: .junk :: .junk :: .junk :: .junk :: .junk :: .junk :: .junk :: .junk :: .junk :: .junk :: .junk :: .junk :: .junk :: .junk :: .junk :: .junk :: .junk :: .junk :: .junk :: .junk :: .junk :: .junk :: .junk :: .junk :: .junk :: .junk :: .junk :: .junk :: .junk :: .junk :: .junk :: .junk :: .junk :: [],[]⟩)|(.inr _)=>(.exit 2,⟨.junk :: .junk :: .junk :: .junk :: .junk :: .junk :: .junk :: .junk :: .junk :: .junk :: .junk :: .junk :: .junk :: .junk :: .junk :: .junk :: .junk :: .junk :: .junk :: .junk :: .junk :: .junk :: .junk :: .junk :: .junk :: .junk :: .junk :: .junk :: .junk :: .junk :: .junk :: .junk :: .junk :: .junk :: .junk :: .junk :: .junk :: .junk :: .junk :: .junk :: .junk :: .junk :: .junk :: .junk :: .junk :: .junk :: .junk :: .junk :: .junk :: .junk :: .junk :: .junk :: .junk :: .junk :: .junk :: .junk :: .junk :: .junk :: .junk :: .junk :: .junk :: [],[]⟩)) ?_ ?_ ?_ ?_
          · rintro v10 v0 hr
            dsimp only [ref08_CheckWeights_l2] at hr
            try dsimp only
            repeat (first|(with_reducible first|refine mv ?_|refine TO.nil ?_)|((with_reducible first|apply TO.mv|apply TO.len|apply TO.bin);(repeat (focus (show _ = _;first|exact k2 rfl|(simp only [zz,y36,tlen]<;>exact rfl))));(with_reducible apply TO.here))|((with_reducible apply TX.region);(focus (simp only []<;>exact rfl));(focus rfl);(try dsimp only)))
            rcases Bool.eq_false_or_eq_true ((decide (v10 < (v2.length : Int)))) with h23|h23
            · rw [if_pos h23] at hr
              repeat (first|(with_reducible first|refine mv ?_|refine TO.nil ?_)|((with_reducible apply TO.asg);(repeat (focus (show _ = _;first|exact k2 rfl|(simp only [zz,h23]<;>exact rfl))));(with_reducible apply TO.here))|((with_reducible apply TX.region);(focus (simp only []<;>exact rfl));(focus rfl);(try dsimp only))|((with_reducible apply TX.cond_true);(focus rfl);(focus ((simp only [z1,h23];done)))))
              obtain ⟨v31,h32,hr⟩:=Option.bind_eq_some_iff.1 hr
              try dsimp only at hr
              refine TX.loopE (step:=ref08_CheckWeights_l3 v1 v2 v10) (x:=(0,0)) h32 (fun (v22,v23)=>⟨.junk :: .list 1 (v2.map e_i) :: .fptr true [.list 1 (v1.map e_Li_)] 0 :: .junk :: .junk :: .junk :: .v (.int .i64 v10) :: .v (.int .i64 v22) :: .v (.int .i64 v23) :: .junk :: .junk :: .junk :: .junk :: .junk :: .junk :: .junk :: .junk :: .junk :: .junk :: .junk :: .junk :: .junk :: .junk :: .junk :: .junk :: .junk :: .junk :: .junk :: .junk :: .junk :: .junk :: .junk :: .junk :: .junk :: .junk :: .junk :: .junk :: .junk :: .junk :: .junk :: .junk :: .junk :: .junk :: .junk :: .junk :: .junk :: .junk :: .junk :: .junk :: .junk :: .junk :: .junk :: .junk :: .junk :: .junk :: .junk :: .junk :: .junk :: .junk :: .junk :: .junk :: [],[]⟩) (fun v27=>(.exit 4,⟨.junk :: .list 1 (v2.map e_i) :: .fptr true [.list 1 (v1.map e_Li_)] 0 :: .junk :: .junk :: .junk :: .v (.int .i64 v10) :: .v (.int .i64 v27) :: .junk :: .junk :: .junk :: .junk :: .junk :: .junk :: .junk :: .junk :: .junk :: .junk :: .junk :: .junk :: .junk :: .junk :: .junk :: .junk :: .junk :: .junk :: .junk :: .junk :: .junk :: .junk :: .junk :: .junk :: .junk :: .junk :: .junk :: .junk :: .junk :: .junk :: .junk :: .junk :: .junk :: .junk :: .junk :: .junk :: .junk :: .junk :: .junk :: .junk :: .junk :: .junk :: .junk :: .junk :: .junk :: .junk :: .junk :: .junk :: .junk :: .junk :: .junk :: .junk :: .junk :: [],[]⟩)) ?_ ?_ ?_ ?_
              · rintro ⟨v22,v23⟩ v0 hr
                dsimp only [ref08_CheckWeights_l3] at hr
                try dsimp only
                repeat (first|(with_reducible first|refine mv ?_|refine TO.nil ?_)|((with_reducible first|apply TO.mv|apply TO.len|apply TO.bin);(repeat (focus (show _ = _;first|exact k2 rfl|(simp only [zz,y36,tlen]<;>exact rfl))));(with_reducible apply TO.here))|((with_reducible apply TX.region);(focus (simp only []<;>exact rfl));(focus rfl);(try dsimp only)))
                rcases Bool.eq_false_or_eq_true ((decide (v23 < (v2.length : Int)))) with h28|h28
                · rw [if_pos h28] at hr
                  repeat (first|with_reducible refine mv ?_|((with_reducible first|apply TD.mv|apply TD.fa|apply TD.ld);(repeat (focus (show _ = _;first|exact k2 rfl|(simp only [zz,y36,Nat.reduceAdd,tfieldAddr,tload,rowOf,partT,h28]<;>exact rfl)|exact rfl)));(with_reducible refine TD.here ?_))|((with_reducible apply TX.drawn);(focus decide +kernel);(focus (simp only []<;>exact rfl));(focus exact rfl);(try dsimp only))|((with_reducible apply TX.cond_true);(focus rfl);(focus ((simp only [z1,h28];done)))))
                  obtain ⟨v28,h29,hr⟩:=Option.bind_eq_some_iff.1 hr
                  try dsimp only at hr
                  have h29m:=tidx_map (f:=e_Li_) h29
                  have h29l:=getI_lt h29
                  try simp only [List.length_set] at h29l
                  have h29a:=getI_at h29
                  repeat (first|((with_reducible first|apply TD.ia|apply TD.ld|apply TD.mv);(repeat (focus (show _ = _;first|exact k2 rfl|(simp only [zz,y36,e_Li_,tindexAddr,tload,rowOf,partT,h29m]<;>exact rfl)|exact rfl)));(with_reducible refine TD.here ?_)))
                  obtain ⟨v29,h30,hr⟩:=Option.bind_eq_some_iff.1 hr
                  try dsimp only at hr
                  have h30m:=tidx_map (f:=e_i) h30
                  have h30l:=getI_lt h30
                  try simp only [List.length_set] at h30l
                  have h30a:=getI_at h30
                  repeat (first|((with_reducible first|apply TD.ia|apply TD.ld|apply TD.mv);(repeat (focus (show _ = _;first|exact k2 rfl|(simp only [zz,y36,e_i,tindexAddr,tload,rowOf,partT,h30m]<;>exact rfl)|exact rfl)));(with_reducible refine TD.here ?_)))
                  obtain ⟨v30,h31,hr⟩:=Option.bind_eq_some_iff.1 hr
                  try dsimp only at hr
                  have h31m:=tidx_map (f:=e_i) h31
                  have h31l:=getI_lt h31
                  try simp only [List.length_set] at h31l
                  have h31a:=getI_at h31
                  repeat (first|(with_reducible first|refine mv ?_|refine TO.nil ?_)|((with_reducible first|apply TO.mv|apply TO.bin|apply TO.asg);(repeat (focus (show _ = _;first|exact k2 rfl|(simp only [zz]<;>exact rfl))));(with_reducible apply TO.here))|((with_reducible apply TX.region);(focus (simp only []<;>exact rfl));(focus rfl);(try dsimp only))|with_reducible refine TD.nil ?_|((with_reducible first|apply TD.ia|apply TD.ld|apply TD.bin|apply TD.asg);(repeat (focus (show _ = _;first|exact k2 rfl|(simp only [zz,y36,e_i,tindexAddr,tload,rowOf,partT,h31m]<;>exact rfl)|exact rfl)));(with_reducible refine TD.here ?_)))
                  cases hr
                  refine ⟨rfl,?_⟩
                  exact Wk.ren [] rfl .nil (by (repeat (first|exact RNs.nil|refine RNs.cons .junk ?_|refine RNs.cons (.keep rfl rfl) ?_|refine RNs.cons (.lsl rfl rfl) ?_|refine RNs.cons (.lsl rfl (by simp only [List.length_set])) ?_|refine RNs.cons (.lptr rfl) ?_|refine RNs.cons (.nil rfl) ?_|refine RNs.cons .nl ?_|refine RNs.cons (.keep (by simp only [h1,h23,h28]) rfl) ?_|refine RNs.cons (.tuple' ?_) ?_|refine RNs.cons (.agg' ?_) ?_)))
                · rw [if_neg (by rw [h28];exact Bool.false_ne_true)] at hr
                  repeat (first|with_reducible refine mv ?_|((with_reducible apply TX.cond_false);(focus rfl);(focus ((simp only [z1,h28];done)))))
                  cases hr
                  refine ⟨rfl,?_⟩
                  exact Wk.ren [] rfl .nil (by (repeat (first|exact RNs.nil|refine RNs.cons .junk ?_|refine RNs.cons (.keep rfl rfl) ?_|refine RNs.cons (.lsl rfl rfl) ?_|refine RNs.cons (.lsl rfl (by simp only [List.length_set])) ?_|refine RNs.cons (.lptr rfl) ?_|refine RNs.cons (.nil rfl) ?_|refine RNs.cons .nl ?_|refine RNs.cons (.keep (by simp only [h1,h23,h28]) rfl) ?_|refine RNs.cons (.tuple' ?_) ?_|refine RNs.cons (.agg' ?_) ?_)))
              · intro e h;cases h
              · try dsimp only
                repeat (first|with_reducible refine mv ?_|((with_reducible apply TO.mv);(repeat (focus (show _ = _;first|exact k2 rfl|(simp only [zz]<;>exact rfl))));(with_reducible apply TO.here))|((with_reducible apply TX.region);(focus (simp only []<;>exact rfl));(focus rfl);(try dsimp only)))
                obtain ⟨v32,h33,hr⟩:=Option.bind_eq_some_iff.1 hr
                try dsimp only at hr
                have h33m:=tidx_map (f:=e_i) h33
                have h33l:=getI_lt h33
                try simp only [List.length_set] at h33l
                have h33a:=getI_at h33
                repeat (first|(with_reducible first|refine mv ?_|refine TO.nil ?_)|((with_reducible first|apply TO.ia|apply TO.ld|apply TO.bin);(repeat (focus (show _ = _;first|exact k2 rfl|(simp only [zz,y36,e_i,tindexAddr,tload,rowOf,partT,h33m]<;>exact rfl)|exact rfl)));(with_reducible apply TO.here)))
                rcases Bool.eq_false_or_eq_true ((decide (v31 ≥ (IntKind.i64.wrap (1000 * v32))))) with h34|h34
                · rw [if_pos h34] at hr
                  repeat (first|(with_reducible first|refine mv ?_|refine TO.nil ?_)|((with_reducible apply TO.asg);(repeat (focus (show _ = _;first|exact k2 rfl|(simp only [zz,h34]<;>exact rfl))));(with_reducible apply TO.here))|((with_reducible apply TX.region);(focus (simp only []<;>exact rfl));(focus rfl);(try dsimp only))|((with_reducible apply TX.cond_true);(focus rfl);(focus ((simp only [z1,h34];done)))))
                  cases hr
                  refine ⟨rfl,?_⟩
                  exact Wk.ren [] rfl .nil (by (repeat (first|exact RNs.nil|refine RNs.cons .junk ?_|refine RNs.cons (.keep rfl rfl) ?_|refine RNs.cons (.lsl rfl rfl) ?_|refine RNs.cons (.lsl rfl (by simp only [List.length_set])) ?_|refine RNs.cons (.lptr rfl) ?_|refine RNs.cons (.nil rfl) ?_|refine RNs.cons .nl ?_|refine RNs.cons (.keep (by simp only [h1,h23,h34]) rfl) ?_|refine RNs.cons (.tuple' ?_) ?_|refine RNs.cons (.agg' ?_) ?_)))
                · rw [if_neg (by rw [h34];exact Bool.false_ne_true)] at hr
                  repeat (first|(with_reducible first|refine mv ?_|refine TO.nil ?_)|((with_reducible first|apply TO.mv|apply TO.bin|apply TO.asg);(repeat (focus (show _ = _;first|exact k2 rfl|(simp only [zz,h34]<;>exact rfl))));(with_reducible apply TO.here))|((with_reducible apply TX.region);(focus (simp only []<;>exact rfl));(focus rfl);(try dsimp only))|((with_reducible apply TX.cond_false);(focus rfl);(focus ((simp only [z1,h34];done)))))
                  cases hr
                  refine ⟨rfl,?_⟩
                  exact Wk.ren [] rfl .nil (by (repeat (first|exact RNs.nil|refine RNs.cons .junk ?_|refine RNs.cons (.keep rfl rfl) ?_|refine RNs.cons (.lsl rfl rfl) ?_|refine RNs.cons (.lsl rfl (by simp only [List.length_set])) ?_|refine RNs.cons (.lptr rfl) ?_|refine RNs.cons (.nil rfl) ?_|refine RNs.cons .nl ?_|refine RNs.cons (.keep (by simp only [h1,h23,h34]) rfl) ?_|refine RNs.cons (.tuple' ?_) ?_|refine RNs.cons (.agg' ?_) ?_)))
              · try dsimp only
                exact Wk.ren [] rfl .nil (by (repeat (first|exact RNs.nil|refine RNs.cons .junk ?_|refine RNs.cons (.keep rfl rfl) ?_|refine RNs.cons (.lsl rfl rfl) ?_|refine RNs.cons (.lsl rfl (by simp only [List.length_set])) ?_|refine RNs.cons (.lptr rfl) ?_|refine RNs.cons (.nil rfl) ?_|refine RNs.cons .nl ?_|refine RNs.cons (.keep (by simp only [h1,h23]) rfl) ?_|refine RNs.cons (.tuple' ?_) ?_|refine RNs.cons (.agg' ?_) ?_)))
            · rw [if_neg (by rw [h23];exact Bool.false_ne_true)] at hr
              repeat (first|with_reducible refine mv ?_|((with_reducible apply TX.cond_false);(focus rfl);(focus ((simp only [z1,h23];done)))))
              cases hr
              refine ⟨rfl,?_⟩
              exact Wk.ren [] rfl .nil (by (repeat (first|exact RNs.nil|refine RNs.cons .junk ?_|refine RNs.cons (.keep rfl rfl) ?_|refine RNs.cons (.lsl rfl rfl) ?_|refine RNs.cons (.lsl rfl (by simp only [List.length_set])) ?_|refine RNs.cons (.lptr rfl) ?_|refine RNs.cons (.nil rfl) ?_|refine RNs.cons .nl ?_|refine RNs.cons (.keep (by simp only [h1,h23]) rfl) ?_|refine RNs.cons (.tuple' ?_) ?_|refine RNs.cons (.agg' ?_) ?_)))
          · intro e h;rcases e with _|e<;>cases h
          · try dsimp only
            rcases v33 with _|_
            · try dsimp only at hr
              try dsimp only
              repeat (first|with_reducible refine mv ?_)
              cases hr
              refine ⟨.inr rfl,_,(by simp only [];exact rfl),?_⟩
              exact Wk.ren [] rfl .nil (by (repeat (first|exact RNs.nil|refine RNs.cons .junk ?_|refine RNs.cons (.keep rfl rfl) ?_|refine RNs.cons (.lsl rfl rfl) ?_|refine RNs.cons (.lsl rfl (by simp only [List.length_set])) ?_|refine RNs.cons (.lptr rfl) ?_|refine RNs.cons (.nil rfl) ?_|refine RNs.cons .nl ?_|refine RNs.cons (.keep (by simp only [h1]) rfl) ?_|refine RNs.cons (.tuple' ?_) ?_|refine RNs.cons (.agg' ?_) ?_)))
            · try dsimp only at hr
              try dsimp only
              repeat (first|(with_reducible first|refine mv ?_|refine TO.nil ?_)|((with_reducible apply TO.asg);(repeat (focus (show _ = _;first|exact k2 rfl|(simp only [zz]<;>exact rfl))));(with_reducible apply TO.here))|((with_reducible apply TX.region);(focus (simp only []<;>exact rfl));(focus rfl);(try dsimp only)))
              cases hr
              refine ⟨.inr rfl,_,(by simp only [];exact rfl),?_⟩
              exact Wk.ren [] rfl .nil (by (repeat (first|exact RNs.nil|refine RNs.cons .junk ?_|refine RNs.cons (.keep rfl rfl) ?_|refine RNs.cons (.lsl rfl rfl) ?_|refine RNs.cons (.lsl rfl (by simp only [List.length_set])) ?_|refine RNs.cons (.lptr rfl) ?_|refine RNs.cons (.nil rfl) ?_|refine RNs.cons .nl ?_|refine RNs.cons (.keep (by simp only [h1]) rfl) ?_|refine RNs.cons (.tuple' ?_) ?_|refine RNs.cons (.agg' ?_) ?_)))
          · try dsimp only
            exact Wk.ren [] rfl .nil (by (repeat (first|exact RNs.nil|refine RNs.cons .junk ?_|refine RNs.cons (.keep rfl rfl) ?_|refine RNs.cons (.lsl rfl rfl) ?_|refine RNs.cons (.lsl rfl (by simp only [List.length_set])) ?_|refine RNs.cons (.lptr rfl) ?_|refine RNs.cons (.nil rfl) ?_|refine RNs.cons .nl ?_|refine RNs.cons (.keep (by simp only [h1]) rfl) ?_|refine RNs.cons (.tuple' ?_) ?_|refine RNs.cons (.agg' ?_) ?_)))
      · try dsimp only
        exact Wk.ren [] rfl .nil (by (repeat (first|exact RNs.nil|refine RNs.cons .junk ?_|refine RNs.cons (.keep rfl rfl) ?_|refine RNs.cons (.lsl rfl rfl) ?_|refine RNs.cons (.lsl rfl (by simp only [List.length_set])) ?_|refine RNs.cons (.lptr rfl) ?_|refine RNs.cons (.nil rfl) ?_|refine RNs.cons .nl ?_|refine RNs.cons (.keep (by simp only [h1]) rfl) ?_|refine RNs.cons (.tuple' ?_) ?_|refine RNs.cons (.agg' ?_) ?_)))
  rfl

end Go.Rex

namespace Go.Rex
open Go.Proofs
open Go Go.Rex Go.RowKit
set_option maxRecDepth 100000
set_option maxHeartbeats 1000000
def y37:=an @ag22 <| an @ag3 <| an @by22 <| an @by3 <| an @cs22 <| an @cs3 <| an @ni22 <| an @ni81 <| an @ok22 <| an @ok3 <| an @so22 <| an @so81 <| an @zc22 <| an @zc3 <| an @wi64_0a1 <| an @wi64_1a1 <| @wi64_m1
theorem ref08_det_b_spec {v0 : ((List (List Int))) → Option (Int)} (rch : ∀ {v1 : (List (List Int))} {v2 : Int},v0 v1 = some (v2) → Spec (lim Try.prog) 96 [.list 1 (v1.map e_Li_)] ⟨[.v (.int .i64 v2)],[]⟩) {v1 : (List (List Int))} {v2 : Int} (hr : ref08_det_b v0 v1 = some (v2)) : Spec (lim Try.prog) 96 [.list 1 (v1.map e_Li_)] ⟨[.v (.int .i64 v2)],[]⟩:=by
  unfold ref08_det_b at hr
  apply Spec.fn Try.func96 rfl
  focus (simp [Try.f96]<;>exact rfl)
  focus
    repeat (first|(with_reducible first|refine mv ?_|refine TO.nil ?_)|((with_reducible first|apply TO.asg|apply TO.mv|apply TO.len|apply TO.bin);(repeat (focus (show _ = _;first|exact k2 rfl|(simp only [zz,y37,tlen]<;>exact rfl))));(with_reducible apply TO.here))|((with_reducible apply TX.region);(focus (simp only []<;>exact rfl));(focus rfl);(try dsimp only)))
    rcases Bool.eq_false_or_eq_true ((decide ((v1.length : Int) = 0))) with h1|h1
    · rw [if_pos h1] at hr
      repeat (first|(with_reducible first|refine mv ?_|refine TO.nil ?_)|((with_reducible apply TO.asg);(repeat (focus (show _ = _;first|exact k2 rfl|(simp only [zz,h1]<;>exact rfl))));(with_reducible apply TO.here))|((with_reducible apply TX.region);(focus (simp only []<;>exact rfl));(focus rfl);(try dsimp only))|((with_reducible apply TX.cond_true);(focus rfl);(focus ((simp only [z1,h1];done)))))
      cases hr
      refine ⟨.inr rfl,_,(by simp only [];exact rfl),?_⟩
      exact Wk.ren [] rfl .nil (by (repeat (first|exact RNs.nil|refine RNs.cons .junk ?_|refine RNs.cons (.keep rfl rfl) ?_|refine RNs.cons (.lsl rfl rfl) ?_|refine RNs.cons (.lsl rfl (by simp only [List.length_set])) ?_|refine RNs.cons (.lptr rfl) ?_|refine RNs.cons (.nil rfl) ?_|refine RNs.cons .nl ?_|refine RNs.cons (.keep (by simp only [h1]) rfl) ?_|refine RNs.cons (.tuple' ?_) ?_|refine RNs.cons (.agg' ?_) ?_)))
    · rw [if_neg (by rw [h1];exact Bool.false_ne_true)] at hr
      repeat (first|(with_reducible first|refine mv ?_|refine TO.nil ?_)|((with_reducible apply TO.asg);(repeat (focus (show _ = _;first|exact k2 rfl|(simp only [zz,h1]<;>exact rfl))));(with_reducible apply TO.here))|((with_reducible apply TX.region);(focus (simp only []<;>exact rfl));(focus rfl);(try dsimp only))|((with_reducible apply TX.cond_false);(focus rfl);(focus ((simp only [z1,h1];done)))))
      obtain ⟨v45,h40,hr⟩:=Option.bind_eq_some_iff.1 hr
      try dsimp only at hr
      refine TX.loopE (step:=ref08_det_l1 v0 v1) (x:=(0,1,0)) h40 (fun (v3,v4,v5)=>⟨.list 1 (v1.map e_Li_) :: .junk :: .junk :: .v (.int .i64 v3) :: .v (.int .i64 v4) :: .v (.int .i64 v5) :: .junk :: .junk :: .junk :: .junk :: .junk :: .junk :: .junk :: .junk :: .junk :: .junk :: .junk :: .junk :: .junk :: .junk :: .junk :: .junk :: .junk :: .junk :: .junk :: .junk :: .junk :: .junk :: .junk :: .junk :: .junk :: .junk :: .junk :: .junk :: .junk :: .junk :: .junk :: .junk :: .junk :: .junk :: .junk :: .junk :: .junk :: .junk :: .junk :: .junk :: .junk :: .junk :: .junk :: .junk :: .junk :: .junk :: .junk :: .junk :: .junk :: .junk :: .junk :: [],[]⟩) (fun v25=>(.exit 0,⟨.junk :: .junk :: .junk :: .v (.int .i64 v25) :: .junk :: .junk :: .junk :: .junk :: .junk :: .junk :: .junk :: .junk :: .junk :: .junk :: .junk :: .junk :: .junk :: .junk :: .junk :: .junk :: .junk :: .junk :: .junk :: .junk :: .junk :: .junk :: .junk :: .junk :: .junk :: .junk :: .junk :: .junk :: .junk :: .junk :: .junk :: .junk :: .junk :: .junk :: .junk :: .junk :: .junk :: .junk :: .junk :: .junk :: .junk :: .junk :: .junk :: .junk :: .junk :: .junk :: .junk :: .junk :: .junk :: .junk :: .junk :: .junk :: .junk :: [],[]⟩)) ?_ ?_ ?_ ?_
      · rintro ⟨v3,v4,v5⟩ v0 hr
        dsimp only [ref08_det_l1] at hr
        try dsimp only
        repeat (first|(with_reducible first|refine mv ?_|refine TO.nil ?_)|((with_reducible first|apply TO.mv|apply TO.len|apply TO.bin);(repeat (focus (show _ = _;first|exact k2 rfl|(simp only [zz,y37,tlen]<;>exact rfl))));(with_reducible apply TO.here))|((with_reducible apply TX.region);(focus (simp only []<;>exact rfl));(focus rfl);(try dsimp only)))
        rcases Bool.eq_false_or_eq_true ((decide (v5 < (v1.length : Int)))) with h21|h21
        · rw [if_pos h21] at hr
          repeat (first|(with_reducible first|refine mv ?_|refine TO.nil ?_)|((with_reducible apply TO.asg);(repeat (focus (show _ = _;first|exact k2 rfl|(simp only [zz,h21]<;>exact rfl))));(with_reducible apply TO.here))|((with_reducible apply TX.region);(focus (simp only []<;>exact rfl));(focus rfl);(try dsimp only))|((with_reducible apply TX.cond_true);(focus rfl);(focus ((simp only [z1,h21];done)))))
          apply TX.vt (α:=(List Int)) e_Li_ 6 1 rfl
          (repeat (focus (show _ = _;(simp only [zz]<;>exact rfl))))
          with_reducible apply TX.here
          obtain ⟨v41,h36,hr⟩:=Option.bind_eq_some_iff.1 hr
          try dsimp only at hr
          refine TX.loopE (step:=ref08_det_l2 v1 v5) (x:=(([] : List (List Int)),1)) h36 (fun (v26,v27)=>⟨.list 1 (v1.map e_Li_) :: .junk :: .junk :: .v (.int .i64 v3) :: .v (.int .i64 v4) :: .v (.int .i64 v5) :: .lsl 0 0 v26.length :: .v (.int .i64 v27) :: .junk :: .junk :: .junk :: .junk :: .junk :: .junk :: .junk :: .junk :: .junk :: .junk :: .junk :: .junk :: .junk :: .junk :: .junk :: .junk :: .junk :: .junk :: .junk :: .junk :: .junk :: .junk :: .junk :: .junk :: .junk :: .junk :: .junk :: .junk :: .junk :: .junk :: .junk :: .junk :: .junk :: .junk :: .junk :: .junk :: .junk :: .junk :: .junk :: .junk :: .junk :: .junk :: .junk :: .junk :: .junk :: .junk :: .junk :: .junk :: .junk :: [],[.rows 1 (v26.map e_Li_)]⟩) (fun v34=>(.exit 2,⟨.list 1 (v1.map e_Li_) :: .junk :: .junk :: .v (.int .i64 v3) :: .v (.int .i64 v4) :: .v (.int .i64 v5) :: .lsl 0 0 v34.length :: .junk :: .junk :: .junk :: .junk :: .junk :: .junk :: .junk :: .junk :: .junk :: .junk :: .junk :: .junk :: .junk :: .junk :: .junk :: .junk :: .junk :: .junk :: .junk :: .junk :: .junk :: .junk :: .junk :: .junk :: .junk :: .junk :: .junk :: .junk :: .junk :: .junk :: .junk :: .junk :: .junk :: .junk :: .junk :: .junk :: .junk :: .junk :: .junk :: .junk :: .junk :: .junk :: .junk :: .junk :: .junk :: .junk :: .junk :: .junk :: .junk :: .junk :: [],[.rows 1 (v34.map e_Li_)]⟩)) ?_ ?_ ?_ ?_
          · rintro ⟨v26,v27⟩ v0 hr
            dsimp only [ref08_det_l2] at hr
            try dsimp only
            repeat (first|(with_reducible first|refine mv ?_|refine TO.nil ?_)|((with_reducible first|apply TO.mv|apply TO.len|apply TO.bin);(repeat (focus (show _ = _;first|exact k2 rfl|(simp only [zz,y37,tlen]<;>exact rfl))));(with_reducible apply TO.here))|((with_reducible apply TX.region);(focus (simp only []<;>exact rfl));(focus rfl);(try dsimp only)))
            rcases Bool.eq_false_or_eq_true ((decide (v27 < (v1.length : Int)))) with h29|h29
            · rw [if_pos h29] at hr
              repeat (first|with_reducible refine mv ?_|((with_reducible apply TD.mv);(repeat (focus (show _ = _;first|exact k2 rfl|(simp only [zz,h29]<;>exact rfl))));(with_reducible refine TD.here ?_))|((with_reducible apply TX.drawn);(focus decide +kernel);(focus (simp only []<;>exact rfl));(focus exact rfl);(try dsimp only))|((with_reducible apply TX.cond_true);(focus rfl);(focus ((simp only [z1,h29];done)))))
              obtain ⟨v35,h30,hr⟩:=Option.bind_eq_some_iff.1 hr
              try dsimp only at hr
              have h30m:=tidx_map (f:=e_Li_) h30
              have h30l:=getI_lt h30
              try simp only [List.length_set] at h30l
              have h30a:=getI_at h30
              repeat (first|((with_reducible first|apply TD.ia|apply TD.ld|apply TD.mv);(repeat (focus (show _ = _;first|exact k2 rfl|(simp only [zz,y37,e_Li_,tindexAddr,tload,rowOf,partT,h30m]<;>exact rfl)|exact rfl)));(with_reducible refine TD.here ?_)))
              obtain ⟨v36,h31,hr⟩:=Option.bind_eq_some_iff.1 hr
              try dsimp only at hr
              first|apply TD.sb e_i h31 (by first|rfl|(simp only [twant,z1,zp,zs,h1,h21,h29,h30m,h30l,h30a];done)) rfl rfl rfl so22 ok3 cs3 (by first|exact .inl ⟨rfl,rfl⟩|exact .inr ⟨_,rfl⟩) (by first|exact .inl ⟨rfl,rfl⟩|exact .inr ⟨_,rfl⟩)|apply TD.sbw e_i h31 (by first|rfl|(simp only [twant,z1,zp,zs,h1,h21,h29,h30m,h30l,h30a];done)) rfl rfl rfl so22 ok3 cs3 (by first|exact .inl ⟨rfl,rfl⟩|exact .inr ⟨_,rfl⟩) (by first|exact .inl ⟨rfl,rfl⟩|exact .inr ⟨_,rfl⟩) rfl
              (repeat (focus (show _ = _;(simp only [zz]<;>exact rfl))))
              with_reducible apply TD.here
              obtain ⟨v37,h32,hr⟩:=Option.bind_eq_some_iff.1 hr
              try dsimp only at hr
              first|apply TD.cal (by first|rfl|(simp only [twant,z1,zp,zs,h1,h21,h29,h30m,h30l,h30a];done)) rfl goFn45 (base_CopyInts_spec h32) rfl rfl rfl|apply TD.calw (by first|rfl|(simp only [twant,z1,zp,zs,h1,h21,h29,h30m,h30l,h30a];done)) rfl goFn45 (base_CopyInts_spec h32) rfl rfl rfl rfl
              (repeat (focus (show _ = _;(simp only [zz,Nat.reduceAdd,shift]<;>exact rfl))))
              with_reducible apply TD.here
              repeat (first|((with_reducible first|apply TD.mv|apply TD.ia|apply TD.ld|apply TD.bin);(repeat (focus (show _ = _;first|exact k2 rfl|(simp only [zz,y37,e_Li_,tindexAddr,tload,rowOf,partT,h30m]<;>exact rfl)|exact rfl)));(with_reducible refine TD.here ?_)))
              obtain ⟨v38,h33,hr⟩:=Option.bind_eq_some_iff.1 hr
              try dsimp only at hr
              first|apply TD.sb e_i h33 (by first|rfl|(simp only [twant,z1,zp,zs,h1,h21,h29,h30m,h30l,h30a];done)) rfl rfl rfl so22 ok3 cs3 (by first|exact .inl ⟨rfl,rfl⟩|exact .inr ⟨_,rfl⟩) (by first|exact .inl ⟨rfl,rfl⟩|exact .inr ⟨_,rfl⟩)|apply TD.sbw e_i h33 (by first|rfl|(simp only [twant,z1,zp,zs,h1,h21,h29,h30m,h30l,h30a];done)) rfl rfl rfl so22 ok3 cs3 (by first|exact .inl ⟨rfl,rfl⟩|exact .inr ⟨_,rfl⟩) (by first|exact .inl ⟨rfl,rfl⟩|exact .inr ⟨_,rfl⟩) rfl
              (repeat (focus (show _ = _;(simp only [zz]<;>exact rfl))))
              with_reducible apply TD.here
              obtain ⟨v39,h34,hr⟩:=Option.bind_eq_some_iff.1 hr
              try dsimp only at hr
              apply TD.ap (f:=e_i) (xs:=v37) (ys:=v38) (by first|rfl|(simp only [twant,z1,zp,zs,h1,h21,h29,h30m,h30l,h30a];done)) rfl rfl (by first|rfl|simp only [List.length_set]) rfl rfl so22 ni22 zc3 rfl (by rw [by3];exact h34) (fun _=>⟨rfl,rfl,rfl⟩) rfl
              (repeat (focus (show _ = _;(simp only [zz,Nat.reduceAdd,Nat.reduceEqDiff,kill,killB]<;>exact rfl))))
              with_reducible apply TD.here
              apply TD.frz 1 rfl rfl
              (repeat (focus (show _ = _;(simp only [zz,Nat.reduceEqDiff,frz,frzB,tmlc]<;>exact rfl))))
              with_reducible apply TD.here
              first|apply TD.bm e_Li_ ([v39] : List (List Int)) (by first|rfl|(simp only [twant,z1,zp,zs,h1,h21,h29,h30m,h30l,h30a];done)) rfl (by simp only [zz,y37,e_Li_,e_i,Nat.reduceAdd,Nat.reduceMul,Nat.reduceLeDiff,Nat.reduceEqDiff,tslice,tparts,h1,h21,h29,h30m,h30l,h30a];exact rfl) rfl|apply TD.bmw e_Li_ ([v39] : List (List Int)) (by first|rfl|(simp only [twant,z1,zp,zs,h1,h21,h29,h30m,h30l,h30a];done)) rfl (by simp only [zz,y37,e_Li_,Nat.reduceAdd,Nat.reduceMul,tslice,tparts];exact rfl) rfl rfl
              (repeat (focus (show _ = _;(simp only [zz,e_Li_]<;>exact rfl))))
              with_reducible apply TD.here
              obtain ⟨v40,h35,hr⟩:=Option.bind_eq_some_iff.1 hr
              try dsimp only at hr
              apply TD.ap (f:=e_Li_) (xs:=v26) (ys:=([v39] : List (List Int))) (by first|rfl|(simp only [twant,z1,zp,zs,h1,h21,h29,h30m,h30l,h30a];done)) rfl rfl (by first|rfl|simp only [List.length_set]) rfl rfl so81 ni81 zc22 rfl (by rw [by22];exact h35) (fun _=>⟨rfl,rfl,rfl⟩) rfl
              (repeat (focus (show _ = _;(simp only [zz,Nat.reduceAdd,kill,killB]<;>exact rfl))))
              with_reducible apply TD.here
              repeat (first|(with_reducible first|refine mv ?_|refine TO.nil ?_)|((with_reducible first|apply TO.mv|apply TO.bin|apply TO.asg);(repeat (focus (show _ = _;first|exact k2 rfl|(simp only [zz]<;>exact rfl))));(with_reducible apply TO.here))|((with_reducible apply TX.region);(focus (simp only []<;>exact rfl));(focus rfl);(try dsimp only))|with_reducible refine TD.nil ?_|((with_reducible apply TD.asg);(repeat (focus (show _ = _;first|exact k2 rfl|(simp only [zz]<;>exact rfl))));(with_reducible refine TD.here ?_)))
              cases hr
              refine ⟨rfl,?_⟩
              exact Wk.ren [some 0] rfl (.rows .nil rfl rfl) (by (repeat (first|exact RNs.nil|refine RNs.cons .junk ?_|refine RNs.cons (.keep rfl rfl) ?_|refine RNs.cons (.lsl rfl rfl) ?_|refine RNs.cons (.lsl rfl (by simp only [List.length_set])) ?_|refine RNs.cons (.lptr rfl) ?_|refine RNs.cons (.nil rfl) ?_|refine RNs.cons .nl ?_|refine RNs.cons (.keep (by simp only [h1,h21,h29]) rfl) ?_|refine RNs.cons (.tuple' ?_) ?_|refine RNs.cons (.agg' ?_) ?_)))
            · rw [if_neg (by rw [h29];exact Bool.false_ne_true)] at hr
              repeat (first|with_reducible refine mv ?_|((with_reducible apply TX.cond_false);(focus rfl);(focus ((simp only [z1,h29];done)))))
              cases hr
              refine ⟨rfl,?_⟩
              exact Wk.ren [some 0] rfl (.rows .nil rfl rfl) (by (repeat (first|exact RNs.nil|refine RNs.cons .junk ?_|refine RNs.cons (.keep rfl rfl) ?_|refine RNs.cons (.lsl rfl rfl) ?_|refine RNs.cons (.lsl rfl (by simp only [List.length_set])) ?_|refine RNs.cons (.lptr rfl) ?_|refine RNs.cons (.nil rfl) ?_|refine RNs.cons .nl ?_|refine RNs.cons (.keep (by simp only [h1,h21,h29]) rfl) ?_|refine RNs.cons (.tuple' ?_) ?_|refine RNs.cons (.agg' ?_) ?_)))
          · intro e h;cases h
          · try dsimp only
            repeat (first|with_reducible refine mv ?_|((with_reducible apply TD.mv);(repeat (focus (show _ = _;first|exact k2 rfl|(simp only [zz]<;>exact rfl))));(with_reducible refine TD.here ?_))|((with_reducible apply TX.drawn);(focus decide +kernel);(focus (simp only []<;>exact rfl));(focus exact rfl);(try dsimp only)))
            obtain ⟨v42,h37,hr⟩:=Option.bind_eq_some_iff.1 hr
            try dsimp only at hr
            have h37m:=tidx_map (f:=e_Li_) h37
            have h37l:=getI_lt h37
            try simp only [List.length_set] at h37l
            have h37a:=getI_at h37
            repeat (first|((with_reducible first|apply TD.ia|apply TD.ld|apply TD.mv);(repeat (focus (show _ = _;first|exact k2 rfl|(simp only [zz,y37,e_Li_,tindexAddr,tload,rowOf,partT,h37m]<;>exact rfl)|exact rfl)));(with_reducible refine TD.here ?_)))
            obtain ⟨v43,h38,hr⟩:=Option.bind_eq_some_iff.1 hr
            try dsimp only at hr
            have h38m:=tidx_map (f:=e_i) h38
            have h38l:=getI_lt h38
            try simp only [List.length_set] at h38l
            have h38a:=getI_at h38
            repeat (first|((with_reducible first|apply TD.ia|apply TD.ld|apply TD.bin|apply TD.mv);(repeat (focus (show _ = _;first|exact k2 rfl|(simp only [zz,y37,e_i,tindexAddr,tload,rowOf,partT,h38m]<;>exact rfl)|exact rfl)));(with_reducible refine TD.here ?_)))
            obtain ⟨v44,h39,hr⟩:=Option.bind_eq_some_iff.1 hr
            try dsimp only at hr
            first|apply TD.lok (by first|rfl|(simp only [twant,z1,zp,zs,h1,h21,h37m,h37l,h37a,h38m,h38l,h38a];done)) rfl goFn96 (rch h39) (by simp only [view,z1,z3,tmlc]<;>rfl) rfl rfl (by simp [])|apply TD.lokw (by first|rfl|(simp only [twant,z1,zp,zs,h1,h21,h37m,h37l,h37a,h38m,h38l,h38a];done)) rfl goFn96 (rch h39) (by simp only [view,z1,z3,zl,tml,tmlc,List.length_set,Nat.reduceEqDiff,if_false]<;>rfl) rfl rfl (by simp [clTB,cl,e_ii,e_i,e_Li_]) rfl
            (repeat (focus (show _ = _;(simp only [zz,shift]<;>exact rfl))))
            with_reducible apply TD.here
            repeat (first|((with_reducible first|apply TD.bin|apply TD.mv);(repeat (focus (show _ = _;first|exact k2 rfl|(simp only [zz]<;>exact rfl))));(with_reducible refine TD.here ?_)))
            apply TD.pop1 (by first|rfl|(simp only [twant,z1,zp,zs,h1,h21,h37m,h37l,h37a,h38m,h38l,h38a];done)) (pop_neg rfl)
            (repeat (focus (show _ = _;(simp only [zz]<;>exact rfl))))
            with_reducible apply TD.here
            repeat (first|(with_reducible first|refine mv ?_|refine TO.nil ?_)|((with_reducible first|apply TO.mv|apply TO.bin|apply TO.asg);(repeat (focus (show _ = _;first|exact k2 rfl|(simp only [zz]<;>exact rfl))));(with_reducible apply TO.here))|((with_reducible apply TX.region);(focus (simp only []<;>exact rfl));(focus rfl);(try dsimp only))|with_reducible refine TD.nil ?_|((with_reducible apply TD.asg);(repeat (focus (show _ = _;first|exact k2 rfl|(simp only [zz]<;>exact rfl))));(with_reducible refine TD.here ?_)))
            cases hr
            refine ⟨rfl,?_⟩
            exact Wk.ren [] rfl .nil (by (repeat (first|exact RNs.nil|refine RNs.cons .junk ?_|refine RNs.cons (.keep rfl rfl) ?_|refine RNs.cons (.lsl rfl rfl) ?_|refine RNs.cons (.lsl rfl (by simp only [List.length_set])) ?_|refine RNs.cons (.lptr rfl) ?_|refine RNs.cons (.nil rfl) ?_|refine RNs.cons .nl ?_|refine RNs.cons (.keep (by simp only [h1,h21]) rfl) ?_|refine RNs.cons (.tuple' ?_) ?_|refine RNs.cons (.agg' ?_) ?_)))
          · try dsimp only
            exact Wk.ren [some 0] rfl (.rows .nil rfl rfl) (by (repeat (first|exact RNs.nil|refine RNs.cons .junk ?_|refine RNs.cons (.keep rfl rfl) ?_|refine RNs.cons (.lsl rfl rfl) ?_|refine RNs.cons (.lsl rfl (by simp only [List.length_set])) ?_|refine RNs.cons (.lptr rfl) ?_|refine RNs.cons (.nil rfl) ?_|refine RNs.cons .nl ?_|refine RNs.cons (.keep (by simp only [h1,h21]) rfl) ?_|refine RNs.cons (.tuple' ?_) ?_|refine RNs.cons (.agg' ?_) ?_)))
        · rw [if_neg (by rw [h21];exact Bool.false_ne_true)] at hr
          repeat (first|with_reducible refine mv ?_|((with_reducible apply TX.cond_false);(focus rfl);(focus ((simp only [z1,h21];done)))))
          cases hr
          refine ⟨rfl,?_⟩
          exact Wk.ren [] rfl .nil (by (repeat (first|exact RNs.nil|refine RNs.cons .junk ?_|refine RNs.cons (.keep rfl rfl) ?_|refine RNs.cons (.lsl rfl rfl) ?_|refine RNs.cons (.lsl rfl (by simp only [List.length_set])) ?_|refine RNs.cons (.lptr rfl) ?_|refine RNs.cons (.nil rfl) ?_|refine RNs.cons .nl ?_|refine RNs.cons (.keep (by simp only [h1,h21]) rfl) ?_|refine RNs.cons (.tuple' ?_) ?_|refine RNs.cons (.agg' ?_) ?_)))
      · intro e h;cases h
      · try dsimp only
        repeat (first|(with_reducible first|refine mv ?_|refine TO.nil ?_)|((with_reducible first|apply TO.mv|apply TO.asg);(repeat (focus (show _ = _;first|exact k2 rfl|(simp only [zz]<;>exact rfl))));(with_reducible apply TO.here))|((with_reducible apply TX.region);(focus (simp only []<;>exact rfl));(focus rfl);(try dsimp only)))
        cases hr
        refine ⟨.inr rfl,_,(by simp only [];exact rfl),?_⟩
        exact Wk.ren [] rfl .nil (by (repeat (first|exact RNs.nil|refine RNs.cons .junk ?_|refine RNs.cons (.keep rfl rfl) ?_|refine RNs.cons (.lsl rfl rfl) ?_|refine RNs.cons (.lsl rfl (by simp only [List.length_set])) ?_|refine RNs.cons (.lptr rfl) ?_|refine RNs.cons (.nil rfl) ?_|refine RNs.cons .nl ?_|refine RNs.cons (.keep (by simp only [h1]) rfl) ?_|refine RNs.cons (.tuple' ?_) ?_|refine RNs.cons (.agg' ?_) ?_)))
      · try dsimp only
        exact Wk.ren [] rfl .nil (by (repeat (first|exact RNs.nil|refine RNs.cons .junk ?_|refine RNs.cons (.keep rfl rfl) ?_|refine RNs.cons (.lsl rfl rfl) ?_|refine RNs.cons (.lsl rfl (by simp only [List.length_set])) ?_|refine RNs.cons (.lptr rfl) ?_|refine RNs.cons (.nil rfl) ?_|refine RNs.cons .nl ?_|refine RNs.cons (.keep (by simp only [h1]) rfl) ?_|refine RNs.cons (.tuple' ?_) ?_|refine RNs.cons (.agg' ?_) ?_)))
  rfl
theorem ref08_det_n_spec : ∀ (k : Nat) {v1 : (List (List Int))} {v2 : Int},ref08_det_n k v1 = some (v2) → Spec (lim Try.prog) 96 [.list 1 (v1.map e_Li_)] ⟨[.v (.int .i64 v2)],[]⟩
  | 0,_,_,hr=>by cases hr
  | k + 1,_,_,hr=>ref08_det_b_spec (ref08_det_n_spec k) hr
theorem ref08_det_spec {v1 : (List (List Int))} {v2 : Int} (hr : ref08_det v1 = some (v2)) : Spec (lim Try.prog) 96 [.list 1 (v1.map e_Li_)] ⟨[.v (.int .i64 v2)],[]⟩:=ref08_det_n_spec 64 hr

end Go.Rex
