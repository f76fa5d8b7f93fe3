/- Proofs that the program's functions do what these plain functions say. -/
import Derived.Test.YtllnpjkkpebplaaGB
import Derived.Test.YtllnpjkkpebplaaS
import Derived.Test.YtllnpjkkpebplaaG1
import Derived.Test.YtllnpjkkpebplaaRexG8
import Derived.Test.YtllnpjkkpebplaaM
set_option linter.unusedSimpArgs false
set_option linter.unusedVariables false
set_option linter.defProp false
namespace Go.Rex
open Go.Proofs
open Go Go.Rex Go.RowKit
set_option maxRecDepth 100000
set_option maxHeartbeats 200000
theorem base_Floor_spec {v1 : Int} {v2 : Int} {v3 : Int} (hr : base_Floor v1 v2 = some (v3)) : Spec (lim Try.prog) 51 [.v (.int .i64 v1),.v (.int .i64 v2)] ⟨[.v (.int .i64 v3)],[]⟩:=by
  unfold base_Floor at hr
  apply Spec.fn Try.func51 rfl
  focus (simp [Try.f51]<;>exact rfl)
  focus
    repeat (first|(with_reducible first|refine mv ?_|refine TO.nil ?_)|((with_reducible first|apply TO.asg|apply TO.mv);(repeat (focus (show _ = _;first|exact k2 rfl|(simp only [zz]<;>exact rfl))));(with_reducible apply TO.here))|((with_reducible apply TX.region);(focus (simp only []<;>exact rfl));(focus rfl);(try dsimp only)))
    by_cases h1 : v2 = 0
    · rw [if_pos h1] at hr
      cases hr
    · rw [if_neg h1] at hr
      repeat (first|(with_reducible first|refine mv ?_|refine TO.nil ?_)|((with_reducible first|apply TO.bin|apply TO.asg|apply TO.mv);(repeat (focus (show _ = _;first|exact k2 rfl|(simp only [zz,h1]<;>exact rfl))));(with_reducible apply TO.here))|((with_reducible apply TX.region);(focus (simp only []<;>exact rfl));(focus rfl);(try dsimp only)))
      rcases Bool.eq_false_or_eq_true ((decide ((v1.tmod v2) < 0))) with h2|h2
      · rw [if_pos h2] at hr
        repeat (first|(with_reducible first|refine mv ?_|refine TO.nil ?_)|((with_reducible first|apply TO.mv|apply TO.bin|apply TO.asg);(repeat (focus (show _ = _;first|exact k2 rfl|(simp only [zz,h2]<;>exact rfl))));(with_reducible apply TO.here))|((with_reducible apply TX.region);(focus (simp only []<;>exact rfl));(focus rfl);(try dsimp only))|((with_reducible apply TX.cond_true);(focus rfl);(focus ((simp only [z1,h2];done)))))
        cases hr
        refine ⟨.inr rfl,_,(by simp only [];exact rfl),?_⟩
        exact Wk.ren [] rfl .nil (by (repeat (first|exact RNs.nil|refine RNs.cons .junk ?_|refine RNs.cons (.keep rfl rfl) ?_|refine RNs.cons (.lsl rfl rfl) ?_|refine RNs.cons (.lsl rfl (by simp only [List.length_set])) ?_|refine RNs.cons (.lptr rfl) ?_|refine RNs.cons (.nil rfl) ?_|refine RNs.cons .nl ?_|refine RNs.cons (.keep (by simp only [h2]) rfl) ?_|refine RNs.cons (.tuple' ?_) ?_|refine RNs.cons (.agg' ?_) ?_)))
      · rw [if_neg (by rw [h2];exact Bool.false_ne_true)] at hr
        repeat (first|(with_reducible first|refine mv ?_|refine TO.nil ?_)|((with_reducible first|apply TO.mv|apply TO.asg);(repeat (focus (show _ = _;first|exact k2 rfl|(simp only [zz,h2]<;>exact rfl))));(with_reducible apply TO.here))|((with_reducible apply TX.region);(focus (simp only []<;>exact rfl));(focus rfl);(try dsimp only))|((with_reducible apply TX.cond_false);(focus rfl);(focus ((simp only [z1,h2];done)))))
        cases hr
        refine ⟨.inr rfl,_,(by simp only [];exact rfl),?_⟩
        exact Wk.ren [] rfl .nil (by (repeat (first|exact RNs.nil|refine RNs.cons .junk ?_|refine RNs.cons (.keep rfl rfl) ?_|refine RNs.cons (.lsl rfl rfl) ?_|refine RNs.cons (.lsl rfl (by simp only [List.length_set])) ?_|refine RNs.cons (.lptr rfl) ?_|refine RNs.cons (.nil rfl) ?_|refine RNs.cons .nl ?_|refine RNs.cons (.keep (by simp only [h2]) rfl) ?_|refine RNs.cons (.tuple' ?_) ?_|refine RNs.cons (.agg' ?_) ?_)))
  rfl

end Go.Rex

namespace Go.Rex
open Go.Proofs
open Go Go.Rex Go.RowKit
set_option maxRecDepth 100000
set_option maxHeartbeats 200000
theorem base_Ceil_spec {v1 : Int} {v2 : Int} {v3 : Int} (hr : base_Ceil v1 v2 = some (v3)) : Spec (lim Try.prog) 70 [.v (.int .i64 v1),.v (.int .i64 v2)] ⟨[.v (.int .i64 v3)],[]⟩:=by
  unfold base_Ceil at hr
  apply Spec.fn Try.func70 rfl
  focus (simp [Try.f70]<;>exact rfl)
  focus
    repeat (first|(with_reducible first|refine mv ?_|refine TO.nil ?_)|((with_reducible first|apply TO.asg|apply TO.mv);(repeat (focus (show _ = _;first|exact k2 rfl|(simp only [zz]<;>exact rfl))));(with_reducible apply TO.here))|((with_reducible apply TX.region);(focus (simp only []<;>exact rfl));(focus rfl);(try dsimp only)))
    apply TO.pop1 (by first|rfl|(simp only [twant,z1,zp,zs];done)) (pop_neg rfl)
    (repeat (focus (show _ = _;(simp only [zz]<;>exact rfl))))
    with_reducible apply TO.here
    repeat (first|((with_reducible apply TO.mv);(repeat (focus (show _ = _;first|exact k2 rfl|(simp only [zz]<;>exact rfl))));(with_reducible apply TO.here)))
    obtain ⟨v4,h1,hr⟩:=Option.bind_eq_some_iff.1 hr
    try dsimp only at hr
    apply TO.cal (by first|rfl|(simp only [twant,z1,zp,zs];done)) rfl goFn51 (base_Floor_spec h1) rfl rfl rfl
    (repeat (focus (show _ = _;(simp only [zz,shift]<;>exact rfl))))
    with_reducible apply TO.here
    apply TO.pop1 (by first|rfl|(simp only [twant,z1,zp,zs];done)) (pop_neg rfl)
    (repeat (focus (show _ = _;(simp only [zz]<;>exact rfl))))
    with_reducible apply TO.here
    repeat (first|(with_reducible first|refine mv ?_|refine TO.nil ?_)|((with_reducible apply TO.asg);(repeat (focus (show _ = _;first|exact k2 rfl|(simp only [zz]<;>exact rfl))));(with_reducible apply TO.here)))
    cases hr
    refine ⟨.inr rfl,_,(by simp only [];exact rfl),?_⟩
    exact wr [] rfl .nil
  rfl

end Go.Rex

namespace Go.Rex
open Go.Proofs
open Go Go.Rex Go.RowKit
set_option maxRecDepth 100000
set_option maxHeartbeats 200000
def y21:=an @ag22 <| an @ag3 <| an @cs3 <| an @fd24_0 <| an @fd24_1 <| an @ok3 <| an @so22 <| @wi64_0a1
theorem ref08_SizeOf_spec {v1 : (List Int)} {v2 : Int} {v3 : Int} (hr : ref08_SizeOf v1 v2 = some (v3)) : Spec (lim Try.prog) 22 [.agg [.list 1 (v1.map e_i),.v (.int .i64 v2)]] ⟨[.v (.int .i64 v3)],[]⟩:=by
  unfold ref08_SizeOf at hr
  apply Spec.fn Try.func22 rfl
  focus (simp [Try.f22]<;>exact rfl)
  focus
    repeat (first|(with_reducible first|refine mv ?_|refine TO.nil ?_)|((with_reducible first|apply TO.bf|apply TO.asg);(repeat (focus (show _ = _;first|exact k1 rfl|exact k2 rfl|(simp only [zz]<;>exact rfl)|exact rfl)));(with_reducible apply TO.here))|((with_reducible apply TX.region);(focus (simp only []<;>exact rfl));(focus rfl);(try dsimp only)))
    obtain ⟨v11,h7,hr⟩:=Option.bind_eq_some_iff.1 hr
    try dsimp only at hr
    refine TX.loopE (step:=ref08_SizeOf_l1 v1) (x:=(0,0)) h7 (fun (v4,v5)=>⟨.junk :: .fptr true [.list 1 (v1.map e_i),.v (.int .i64 v2)] 0 :: .junk :: .v (.int .i64 v4) :: .v (.int .i64 v5) :: .junk :: .junk :: .junk :: .junk :: .junk :: .junk :: .junk :: .junk :: .junk :: .junk :: .junk :: .junk :: .junk :: .junk :: .junk :: .junk :: .junk :: .junk :: .junk :: .junk :: [],[]⟩) (fun v8=>(.exit 0,⟨.junk :: .fptr true [.list 1 (v1.map e_i),.v (.int .i64 v2)] 0 :: .junk :: .v (.int .i64 v8) :: .junk :: .junk :: .junk :: .junk :: .junk :: .junk :: .junk :: .junk :: .junk :: .junk :: .junk :: .junk :: .junk :: .junk :: .junk :: .junk :: .junk :: .junk :: .junk :: .junk :: .junk :: [],[]⟩)) ?_ ?_ ?_ ?_
    · rintro ⟨v4,v5⟩ v0 hr
      dsimp only [ref08_SizeOf_l1] at hr
      try dsimp only
      repeat (first|(with_reducible first|refine mv ?_|refine TO.nil ?_)|((with_reducible first|apply TO.mv|apply TO.fa|apply TO.ld|apply TO.len|apply TO.bin);(repeat (focus (show _ = _;first|exact k2 rfl|(simp only [zz,y21,Nat.reduceAdd,tfieldAddr,tload,rowOf,partT,tlen]<;>exact rfl)|exact rfl)));(with_reducible apply TO.here))|((with_reducible apply TX.region);(focus (simp only []<;>exact rfl));(focus rfl);(try dsimp only)))
      rcases Bool.eq_false_or_eq_true ((decide (v5 < (v1.length : Int)))) with h4|h4
      · rw [if_pos h4] at hr
        repeat (first|with_reducible refine mv ?_|((with_reducible first|apply TO.mv|apply TO.fa|apply TO.ld);(repeat (focus (show _ = _;first|exact k2 rfl|(simp only [zz,y21,Nat.reduceAdd,tfieldAddr,tload,rowOf,partT,h4]<;>exact rfl)|exact rfl)));(with_reducible apply TO.here))|((with_reducible apply TX.region);(focus (simp only []<;>exact rfl));(focus rfl);(try dsimp only))|((with_reducible apply TX.cond_true);(focus rfl);(focus ((simp only [z1,h4];done)))))
        obtain ⟨v9,h5,hr⟩:=Option.bind_eq_some_iff.1 hr
        try dsimp only at hr
        have h5m:=tidx_map (f:=e_i) h5
        have h5l:=getI_lt h5
        try simp only [List.length_set] at h5l
        have h5a:=getI_at h5
        repeat (first|((with_reducible first|apply TO.ia|apply TO.ld);(repeat (focus (show _ = _;first|exact k2 rfl|(simp only [zz,y21,e_i,tindexAddr,tload,rowOf,partT,h5m]<;>exact rfl)|exact rfl)));(with_reducible apply TO.here)))
        obtain ⟨v10,h6,hr⟩:=Option.bind_eq_some_iff.1 hr
        try dsimp only at hr
        apply TO.cal (by first|rfl|(simp only [twant,z1,zp,zs,h4,h5m,h5l,h5a];done)) rfl goFn71 (base_Size_spec h6) rfl rfl rfl
        (repeat (focus (show _ = _;(simp only [zz,shift]<;>exact rfl))))
        with_reducible apply TO.here
        repeat (first|(with_reducible first|refine mv ?_|refine TO.nil ?_)|((with_reducible first|apply TO.bin|apply TO.asg|apply TO.mv);(repeat (focus (show _ = _;first|exact k2 rfl|(simp only [zz]<;>exact rfl))));(with_reducible apply TO.here))|((with_reducible apply TX.region);(focus (simp only []<;>exact rfl));(focus rfl);(try dsimp only)))
        cases hr
        refine ⟨rfl,?_⟩
        exact Wk.ren [] rfl .nil (by (repeat (first|exact RNs.nil|refine RNs.cons .junk ?_|refine RNs.cons (.keep rfl rfl) ?_|refine RNs.cons (.lsl rfl rfl) ?_|refine RNs.cons (.lsl rfl (by simp only [List.length_set])) ?_|refine RNs.cons (.lptr rfl) ?_|refine RNs.cons (.nil rfl) ?_|refine RNs.cons .nl ?_|refine RNs.cons (.keep (by simp only [h4]) rfl) ?_|refine RNs.cons (.tuple' ?_) ?_|refine RNs.cons (.agg' ?_) ?_)))
      · rw [if_neg (by rw [h4];exact Bool.false_ne_true)] at hr
        repeat (first|with_reducible refine mv ?_|((with_reducible apply TX.cond_false);(focus rfl);(focus ((simp only [z1,h4];done)))))
        cases hr
        refine ⟨rfl,?_⟩
        exact Wk.ren [] rfl .nil (by (repeat (first|exact RNs.nil|refine RNs.cons .junk ?_|refine RNs.cons (.keep rfl rfl) ?_|refine RNs.cons (.lsl rfl rfl) ?_|refine RNs.cons (.lsl rfl (by simp only [List.length_set])) ?_|refine RNs.cons (.lptr rfl) ?_|refine RNs.cons (.nil rfl) ?_|refine RNs.cons .nl ?_|refine RNs.cons (.keep (by simp only [h4]) rfl) ?_|refine RNs.cons (.tuple' ?_) ?_|refine RNs.cons (.agg' ?_) ?_)))
    · intro e h;cases h
    · try dsimp only
      repeat (first|with_reducible refine mv ?_|((with_reducible first|apply TO.mv|apply TO.fa|apply TO.ld|apply TO.bin);(repeat (focus (show _ = _;first|exact k2 rfl|(simp only [zz,y21,Nat.reduceAdd,tfieldAddr,tload,rowOf,partT]<;>exact rfl)|exact rfl)));(with_reducible apply TO.here))|((with_reducible apply TX.region);(focus (simp only []<;>exact rfl));(focus rfl);(try dsimp only)))
      obtain ⟨v12,h8,hr⟩:=Option.bind_eq_some_iff.1 hr
      try dsimp only at hr
      apply TO.cal (by first|rfl|(simp only [twant,z1,zp,zs];done)) rfl goFn70 (base_Ceil_spec h8) rfl rfl rfl
      (repeat (focus (show _ = _;(simp only [zz,shift]<;>exact rfl))))
      with_reducible apply TO.here
      repeat (first|(with_reducible first|refine mv ?_|refine TO.nil ?_)|((with_reducible apply TO.asg);(repeat (focus (show _ = _;first|exact k2 rfl|(simp only [zz]<;>exact rfl))));(with_reducible apply TO.here)))
      cases hr
      refine ⟨.inr rfl,_,(by simp only [];exact rfl),?_⟩
      exact wr [] rfl .nil
    · try dsimp only
      exact wr [] rfl .nil
  rfl

end Go.Rex

namespace Go.Rex
open Go.Proofs
open Go Go.Rex Go.RowKit
set_option maxRecDepth 100000
set_option maxHeartbeats 200000
def y22:=an @ag24 <| an @cs24 <| @ok24
theorem ref08_EchoBound_spec {v1 : (List Int)} {v2 : Int} {v3 : Int} {v4 : Int} {v5 : Int} (hr : ref08_EchoBound v1 v2 v3 = some (v4,v5)) : Spec (lim Try.prog) 49 [.agg [.list 1 (v1.map e_i),.v (.int .i64 v2)],.v (.int .i64 v3)] ⟨[.tuple [.v (.int .i64 v4),.v (.int .i64 v5)]],[]⟩:=by
  unfold ref08_EchoBound at hr
  apply Spec.fn Try.func49 rfl
  focus (simp [Try.f49]<;>exact rfl)
  focus
    repeat (first|(with_reducible first|refine mv ?_|refine TO.nil ?_)|((with_reducible first|apply TO.bf|apply TO.asg|apply TO.ld);(repeat (focus (show _ = _;first|exact k1 rfl|exact k2 rfl|(simp only [zz,y22,Nat.reduceAdd,Nat.reduceLeDiff,tload,rowOf,partT]<;>exact rfl)|exact rfl)));(with_reducible apply TO.here))|((with_reducible apply TX.region);(focus (simp only []<;>exact rfl));(focus rfl);(try dsimp only)))
    obtain ⟨v6,h1,hr⟩:=Option.bind_eq_some_iff.1 hr
    try dsimp only at hr
    apply TO.cal (by first|rfl|(simp only [twant,z1,zp,zs];done)) rfl goFn22 (ref08_SizeOf_spec h1) rfl rfl rfl
    (repeat (focus (show _ = _;(simp only [zz,shift]<;>exact rfl))))
    with_reducible apply TO.here
    repeat (first|(with_reducible first|refine mv ?_|refine TO.nil ?_)|((with_reducible first|apply TO.asg|apply TO.mv|apply TO.bin);(repeat (focus (show _ = _;first|exact k2 rfl|(simp only [zz]<;>exact rfl))));(with_reducible apply TO.here))|((with_reducible apply TX.region);(focus (simp only []<;>exact rfl));(focus rfl);(try dsimp only)))
    rcases Bool.eq_false_or_eq_true ((decide (v6 ≥ 1000))) with h2|h2
    · rw [if_pos h2] at hr
      repeat (first|(with_reducible first|refine mv ?_|refine TO.nil ?_)|((with_reducible apply TO.asg);(repeat (focus (show _ = _;first|exact k2 rfl|(simp only [zz,h2]<;>exact rfl))));(with_reducible apply TO.here))|((with_reducible apply TX.region);(focus (simp only []<;>exact rfl));(focus rfl);(try dsimp only))|((with_reducible apply TX.cond_true);(focus rfl);(focus ((simp only [z1,h2];done)))))
      cases hr
      refine ⟨.inr rfl,_,(by simp only [];exact rfl),?_⟩
      exact Wk.ren [] rfl .nil (by (repeat (first|exact RNs.nil|refine RNs.cons .junk ?_|refine RNs.cons (.keep rfl rfl) ?_|refine RNs.cons (.lsl rfl rfl) ?_|refine RNs.cons (.lsl rfl (by simp only [List.length_set])) ?_|refine RNs.cons (.lptr rfl) ?_|refine RNs.cons (.nil rfl) ?_|refine RNs.cons .nl ?_|refine RNs.cons (.keep (by simp only [h2]) rfl) ?_|refine RNs.cons (.tuple' ?_) ?_|refine RNs.cons (.agg' ?_) ?_)))
    · rw [if_neg (by rw [h2];exact Bool.false_ne_true)] at hr
      repeat (first|with_reducible refine mv ?_|((with_reducible apply TO.mv);(repeat (focus (show _ = _;first|exact k2 rfl|(simp only [zz,h2]<;>exact rfl))));(with_reducible apply TO.here))|((with_reducible apply TX.region);(focus (simp only []<;>exact rfl));(focus rfl);(try dsimp only))|((with_reducible apply TX.cond_false);(focus rfl);(focus ((simp only [z1,h2];done)))))
      obtain ⟨v7,h3,hr⟩:=Option.bind_eq_some_iff.1 hr
      try dsimp only at hr
      apply TO.cal (by first|rfl|(simp only [twant,z1,zp,zs,h2];done)) rfl goFn71 (base_Size_spec h3) rfl rfl rfl
      (repeat (focus (show _ = _;(simp only [zz,shift]<;>exact rfl))))
      with_reducible apply TO.here
      repeat (first|((with_reducible first|apply TO.bin|apply TO.mv);(repeat (focus (show _ = _;first|exact k2 rfl|(simp only [zz]<;>exact rfl))));(with_reducible apply TO.here)))
      obtain ⟨v8,h4,hr⟩:=Option.bind_eq_some_iff.1 hr
      try dsimp only at hr
      apply TO.cal (by first|rfl|(simp only [twant,z1,zp,zs,h2];done)) rfl goFn51 (base_Floor_spec h4) rfl rfl rfl
      (repeat (focus (show _ = _;(simp only [zz,shift]<;>exact rfl))))
      with_reducible apply TO.here
      repeat (first|(with_reducible first|refine mv ?_|refine TO.nil ?_)|((with_reducible apply TO.asg);(repeat (focus (show _ = _;first|exact k2 rfl|(simp only [zz]<;>exact rfl))));(with_reducible apply TO.here)))
      cases hr
      refine ⟨.inr rfl,_,(by simp only [];exact rfl),?_⟩
      exact Wk.ren [] rfl .nil (by (repeat (first|exact RNs.nil|refine RNs.cons .junk ?_|refine RNs.cons (.keep rfl rfl) ?_|refine RNs.cons (.lsl rfl rfl) ?_|refine RNs.cons (.lsl rfl (by simp only [List.length_set])) ?_|refine RNs.cons (.lptr rfl) ?_|refine RNs.cons (.nil rfl) ?_|refine RNs.cons .nl ?_|refine RNs.cons (.keep (by simp only [h2]) rfl) ?_|refine RNs.cons (.tuple' ?_) ?_|refine RNs.cons (.agg' ?_) ?_)))
  rfl

end Go.Rex

namespace Go.Rex
open Go.Proofs
open Go Go.Rex Go.RowKit
set_option maxRecDepth 100000
set_option maxHeartbeats 200000
theorem ref08_round_spec {v1 : Int} {v2 : Int} {v3 : Int} (hr : ref08_round v1 v2 = some (v3)) : Spec (lim Try.prog) 74 [.v (.int .i64 v1),.v (.int .i64 v2)] ⟨[.v (.int .i64 v3)],[]⟩:=by
  unfold ref08_round at hr
  apply Spec.fn Try.func74 rfl
  focus (simp [Try.f74]<;>exact rfl)
  focus
    repeat (first|(with_reducible first|refine mv ?_|refine TO.nil ?_)|((with_reducible first|apply TO.asg|apply TO.mv|apply TO.bin);(repeat (focus (show _ = _;first|exact k2 rfl|(simp only [zz]<;>exact rfl))));(with_reducible apply TO.here))|((with_reducible apply TX.region);(focus (simp only []<;>exact rfl));(focus rfl);(try dsimp only)))
    obtain ⟨v4,h1,hr⟩:=Option.bind_eq_some_iff.1 hr
    try dsimp only at hr
    apply TO.cal (by first|rfl|(simp only [twant,z1,zp,zs];done)) rfl goFn51 (base_Floor_spec h1) rfl rfl rfl
    (repeat (focus (show _ = _;(simp only [zz,shift]<;>exact rfl))))
    with_reducible apply TO.here
    repeat (first|(with_reducible first|refine mv ?_|refine TO.nil ?_)|((with_reducible apply TO.asg);(repeat (focus (show _ = _;first|exact k2 rfl|(simp only [zz]<;>exact rfl))));(with_reducible apply TO.here)))
    cases hr
    refine ⟨.inr rfl,_,(by simp only [];exact rfl),?_⟩
    exact wr [] rfl .nil
  rfl

end Go.Rex

namespace Go.Rex
open Go.Proofs
open Go Go.Rex Go.RowKit
set_option maxRecDepth 100000
set_option maxHeartbeats 1000000
def y23:=an @ag22 <| an @ag3 <| an @by3 <| an @cs3 <| an @fd24_0 <| an @fd24_1 <| an @ni22 <| an @ok3 <| an @so22 <| an @zc3 <| an @wi64_0a1 <| @wi64_1a1
theorem ref08_Echoes_spec {v1 : (List Int)} {v2 : Int} {v3 : Int} {v4 : Int} {v5 : (List Int)} (hr : ref08_Echoes v1 v2 v3 v4 = some (v5)) : Spec (lim Try.prog) 50 [.agg [.list 1 (v1.map e_i),.v (.int .i64 v2)],.v (.int .i64 v3),.v (.int .i64 v4)] ⟨[.lsl 0 0 v5.length],[.rows 1 (v5.map e_i)]⟩:=by
  unfold ref08_Echoes at hr
  apply Spec.fn Try.func50 rfl
  focus (simp [Try.f50]<;>exact rfl)
  focus
    repeat (first|(with_reducible first|refine mv ?_|refine TO.nil ?_)|((with_reducible first|apply TO.bf|apply TO.asg);(repeat (focus (show _ = _;first|exact k1 rfl|exact k2 rfl|(simp only [zz]<;>exact rfl)|exact rfl)));(with_reducible apply TO.here))|((with_reducible apply TX.region);(focus (simp only []<;>exact rfl));(focus rfl);(try dsimp only)))
    apply TX.vt (α:=Int) e_i 7 1 rfl
    (repeat (focus (show _ = _;(simp only [zz]<;>exact rfl))))
    with_reducible apply TX.here
    obtain ⟨v31,h29,hr⟩:=Option.bind_eq_some_iff.1 hr
    try dsimp only at hr
    refine TX.loopE (step:=ref08_Echoes_l1 v1 v2 v3 v4) (x:=(([] : List Int),0)) h29 (fun (v6,v7)=>⟨.junk :: .v (.int .i64 v3) :: .v (.int .i64 v4) :: .fptr true [.list 1 (v1.map e_i),.v (.int .i64 v2)] 0 :: .junk :: .junk :: .junk :: .lsl 0 0 v6.length :: .v (.int .i64 v7) :: .junk :: .junk :: .junk :: .junk :: .junk :: .junk :: .junk :: .junk :: .junk :: .junk :: .junk :: .junk :: .junk :: .junk :: .junk :: .junk :: .junk :: .junk :: .junk :: .junk :: .junk :: .junk :: .junk :: .junk :: .junk :: .junk :: .junk :: .junk :: .junk :: .junk :: .junk :: .junk :: .junk :: .junk :: .junk :: .junk :: .junk :: .junk :: .junk :: .junk :: .junk :: .junk :: .junk :: .junk :: .junk :: .junk :: .junk :: .junk :: .junk :: .junk :: [],[.rows 1 (v6.map e_i)]⟩) (fun v19=>(.exit 0,⟨.junk :: .junk :: .junk :: .junk :: .junk :: .junk :: .junk :: .lsl 0 0 v19.length :: .junk :: .junk :: .junk :: .junk :: .junk :: .junk :: .junk :: .junk :: .junk :: .junk :: .junk :: .junk :: .junk :: .junk :: .junk :: .junk :: .junk :: .junk :: .junk :: .junk :: .junk :: .junk :: .junk :: .junk :: .junk :: .junk :: .junk :: .junk :: .junk :: .junk :: .junk :: .junk :: .junk :: .junk :: .junk :: .junk :: .junk :: .junk :: .junk :: .junk :: .junk :: .junk :: .junk :: .junk :: .junk :: .junk :: .junk :: .junk :: .junk :: .junk :: .junk :: [],[.rows 1 (v19.map e_i)]⟩)) ?_ ?_ ?_ ?_
    · rintro ⟨v6,v7⟩ v0 hr
      dsimp only [ref08_Echoes_l1] at hr
      try dsimp only
      repeat (first|(with_reducible first|refine mv ?_|refine TO.nil ?_)|((with_reducible first|apply TO.mv|apply TO.bin);(repeat (focus (show _ = _;first|exact k2 rfl|(simp only [zz]<;>exact rfl))));(with_reducible apply TO.here))|((with_reducible apply TX.region);(focus (simp only []<;>exact rfl));(focus rfl);(try dsimp only)))
      rcases Bool.eq_false_or_eq_true ((decide (v7 < v4))) with h15|h15
      · rw [if_pos h15] at hr
        repeat (first|(with_reducible first|refine mv ?_|refine TO.nil ?_)|((with_reducible first|apply TO.mv|apply TO.bin);(repeat (focus (show _ = _;first|exact k2 rfl|(simp only [zz,h15]<;>exact rfl))));(with_reducible apply TO.here))|((with_reducible apply TX.region);(focus (simp only []<;>exact rfl));(focus rfl);(try dsimp only))|((with_reducible apply TX.cond_true);(focus rfl);(focus ((simp only [z1,h15];done)))))
        rcases Bool.eq_false_or_eq_true ((decide (v7 = 0))) with h16|h16
        · rw [if_pos h16] at hr
          repeat (first|with_reducible refine mv ?_|((with_reducible apply TO.mv);(repeat (focus (show _ = _;first|exact k2 rfl|(simp only [zz,h16]<;>exact rfl))));(with_reducible apply TO.here))|((with_reducible apply TX.region);(focus (simp only []<;>exact rfl));(focus rfl);(try dsimp only))|((with_reducible apply TX.cond_true);(focus rfl);(focus ((simp only [z1,h16];done)))))
          apply TO.bm e_i ([v3] : List Int) (by first|rfl|(simp only [twant,z1,zp,zs,h15,h16];done)) rfl (by simp only [zz,y23,e_i,Nat.reduceAdd,Nat.reduceMul,tslice,tparts];exact rfl) rfl
          (repeat (focus (show _ = _;(simp only [zz,e_i]<;>exact rfl))))
          with_reducible apply TO.here
          obtain ⟨v20,h17,hr⟩:=Option.bind_eq_some_iff.1 hr
          try dsimp only at hr
          apply TO.ap (f:=e_i) (xs:=v6) (ys:=([v3] : List Int)) (by first|rfl|(simp only [twant,z1,zp,zs,h15,h16];done)) rfl rfl (by first|rfl|simp only [List.length_set]) rfl rfl so22 ni22 zc3 rfl (by rw [by3];exact h17) (fun _=>⟨rfl,rfl,rfl⟩)
          (repeat (focus (show _ = _;(simp only [zz,Nat.reduceAdd,kill,killB]<;>exact rfl))))
          with_reducible apply TO.here
          repeat (first|(with_reducible first|refine mv ?_|refine TO.nil ?_)|((with_reducible first|apply TO.asg|apply TO.mv|apply TO.bin);(repeat (focus (show _ = _;first|exact k2 rfl|(simp only [zz]<;>exact rfl))));(with_reducible apply TO.here))|((with_reducible apply TX.region);(focus (simp only []<;>exact rfl));(focus rfl);(try dsimp only)))
          cases hr
          refine ⟨rfl,?_⟩
          exact Wk.ren [some 0] rfl (.rows .nil rfl rfl) (by (repeat (first|exact RNs.nil|refine RNs.cons .junk ?_|refine RNs.cons (.keep rfl rfl) ?_|refine RNs.cons (.lsl rfl rfl) ?_|refine RNs.cons (.lsl rfl (by simp only [List.length_set])) ?_|refine RNs.cons (.lptr rfl) ?_|refine RNs.cons (.nil rfl) ?_|refine RNs.cons .nl ?_|refine RNs.cons (.keep (by simp only [h15,h16]) rfl) ?_|refine RNs.cons (.tuple' ?_) ?_|refine RNs.cons (.agg' ?_) ?_)))
        · rw [if_neg (by rw [h16];exact Bool.false_ne_true)] at hr
          repeat (first|(with_reducible first|refine mv ?_|refine TO.nil ?_)|((with_reducible apply TO.asg);(repeat (focus (show _ = _;first|exact k2 rfl|(simp only [zz,h16]<;>exact rfl))));(with_reducible apply TO.here))|((with_reducible apply TX.region);(focus (simp only []<;>exact rfl));(focus rfl);(try dsimp only))|((with_reducible apply TX.cond_false);(focus rfl);(focus ((simp only [z1,h16];done)))))
          obtain ⟨v28,h26,hr⟩:=Option.bind_eq_some_iff.1 hr
          try dsimp only at hr
          refine TX.loopE (step:=ref08_Echoes_l2 v1 v6 v7) (x:=(0,1)) h26 (fun (v21,v22)=>⟨.junk :: .v (.int .i64 v3) :: .v (.int .i64 v4) :: .fptr true [.list 1 (v1.map e_i),.v (.int .i64 v2)] 0 :: .junk :: .junk :: .junk :: .lsl 0 0 v6.length :: .v (.int .i64 v7) :: .v (.int .i64 v21) :: .v (.int .i64 v22) :: .junk :: .junk :: .junk :: .junk :: .junk :: .junk :: .junk :: .junk :: .junk :: .junk :: .junk :: .junk :: .junk :: .junk :: .junk :: .junk :: .junk :: .junk :: .junk :: .junk :: .junk :: .junk :: .junk :: .junk :: .junk :: .junk :: .junk :: .junk :: .junk :: .junk :: .junk :: .junk :: .junk :: .junk :: .junk :: .junk :: .junk :: .junk :: .junk :: .junk :: .junk :: .junk :: .junk :: .junk :: .junk :: .junk :: .junk :: .junk :: [],[.rows 1 (v6.map e_i)]⟩) (fun v25=>(.exit 2,⟨.junk :: .v (.int .i64 v3) :: .v (.int .i64 v4) :: .fptr true [.list 1 (v1.map e_i),.v (.int .i64 v2)] 0 :: .junk :: .junk :: .junk :: .lsl 0 0 v6.length :: .v (.int .i64 v7) :: .v (.int .i64 v25) :: .junk :: .junk :: .junk :: .junk :: .junk :: .junk :: .junk :: .junk :: .junk :: .junk :: .junk :: .junk :: .junk :: .junk :: .junk :: .junk :: .junk :: .junk :: .junk :: .junk :: .junk :: .junk :: .junk :: .junk :: .junk :: .junk :: .junk :: .junk :: .junk :: .junk :: .junk :: .junk :: .junk :: .junk :: .junk :: .junk :: .junk :: .junk :: .junk :: .junk :: .junk :: .junk :: .junk :: .junk :: .junk :: .junk :: .junk :: .junk :: .junk :: [],[.rows 1 (v6.map e_i)]⟩)) ?_ ?_ ?_ ?_
          · rintro ⟨v21,v22⟩ v0 hr
            dsimp only [ref08_Echoes_l2] at hr
            try dsimp only
            repeat (first|with_reducible refine mv ?_|((with_reducible first|apply TO.mv|apply TO.fa|apply TO.ld|apply TO.len|apply TO.bin);(repeat (focus (show _ = _;first|exact k2 rfl|(simp only [zz,y23,Nat.reduceAdd,tfieldAddr,tload,rowOf,partT,tlen]<;>exact rfl)|exact rfl)));(with_reducible apply TO.here))|((with_reducible apply TX.region);(focus (simp only []<;>exact rfl));(focus rfl);(try dsimp only)))
            rcases Bool.eq_false_or_eq_true ((decide (v22 < (v1.length : Int)))) with h22|h22
            · rw [if_pos h22] at hr
              repeat (first|(with_reducible first|refine mv ?_|refine TO.nil ?_)|((with_reducible first|apply TO.mv|apply TO.bin|apply TO.pk);(repeat (focus (show _ = _;first|exact k2 rfl|(simp only [zz,h22]<;>exact rfl))));(with_reducible apply TO.here)))
              rcases Bool.eq_false_or_eq_true ((decide (v22 ≤ v7))) with h23|h23
              · rw [if_pos h23] at hr
                repeat (first|with_reducible refine mv ?_|((with_reducible first|apply TD.mv|apply TD.fa|apply TD.ld);(repeat (focus (show _ = _;first|exact k2 rfl|(simp only [zz,y23,Nat.reduceAdd,tfieldAddr,tload,rowOf,partT,h23]<;>exact rfl)|exact rfl)));(with_reducible refine TD.here ?_))|((with_reducible apply TX.drawn);(focus decide +kernel);(focus (simp only []<;>exact rfl));(focus exact rfl);(try dsimp only))|((with_reducible apply TX.cond_true);(focus rfl);(focus ((simp only [z1,h23];done)))))
                obtain ⟨v26,h24,hr⟩:=Option.bind_eq_some_iff.1 hr
                try dsimp only at hr
                have h24m:=tidx_map (f:=e_i) h24
                have h24l:=getI_lt h24
                try simp only [List.length_set] at h24l
                have h24a:=getI_at h24
                repeat (first|((with_reducible first|apply TD.ia|apply TD.ld|apply TD.mv|apply TD.bin);(repeat (focus (show _ = _;first|exact k2 rfl|(simp only [zz,y23,e_i,tindexAddr,Nat.zero_add,tload,rowOf,partT,h24m]<;>exact rfl)|exact rfl)));(with_reducible refine TD.here ?_)))
                obtain ⟨v27,h25,hr⟩:=Option.bind_eq_some_iff.1 hr
                try dsimp only at hr
                have h25m:=tidx_map (f:=e_i) h25
                have h25l:=getI_lt h25
                try simp only [List.length_set] at h25l
                have h25a:=getI_at h25
                repeat (first|(with_reducible first|refine mv ?_|refine TO.nil ?_)|((with_reducible first|apply TO.mv|apply TO.bin|apply TO.asg);(repeat (focus (show _ = _;first|exact k2 rfl|(simp only [zz]<;>exact rfl))));(with_reducible apply TO.here))|((with_reducible apply TX.region);(focus (simp only []<;>exact rfl));(focus rfl);(try dsimp only))|with_reducible refine TD.nil ?_|((with_reducible first|apply TD.ia|apply TD.ld|apply TD.bin|apply TD.asg);(repeat (focus (show _ = _;first|exact k2 rfl|(simp only [zz,y23,e_i,tindexAddr,Nat.zero_add,tload,rowOf,partT,List.getElem?_map,h25l,h25a]<;>exact rfl)|exact rfl)));(with_reducible refine TD.here ?_)))
                cases hr
                refine ⟨rfl,?_⟩
                exact Wk.ren [some 0] rfl (.rows .nil rfl rfl) (by (repeat (first|exact RNs.nil|refine RNs.cons .junk ?_|refine RNs.cons (.keep rfl rfl) ?_|refine RNs.cons (.lsl rfl rfl) ?_|refine RNs.cons (.lsl rfl (by simp only [List.length_set])) ?_|refine RNs.cons (.lptr rfl) ?_|refine RNs.cons (.nil rfl) ?_|refine RNs.cons .nl ?_|refine RNs.cons (.keep (by simp only [h15,h16,h22,h23]) rfl) ?_|refine RNs.cons (.tuple' ?_) ?_|refine RNs.cons (.agg' ?_) ?_)))
              · rw [if_neg (by rw [h23];exact Bool.false_ne_true)] at hr
                repeat (first|with_reducible refine mv ?_|((with_reducible apply TX.cond_false);(focus rfl);(focus ((simp only [z1,h23];done)))))
                cases hr
                refine ⟨rfl,?_⟩
                exact Wk.ren [some 0] rfl (.rows .nil rfl rfl) (by (repeat (first|exact RNs.nil|refine RNs.cons .junk ?_|refine RNs.cons (.keep rfl rfl) ?_|refine RNs.cons (.lsl rfl rfl) ?_|refine RNs.cons (.lsl rfl (by simp only [List.length_set])) ?_|refine RNs.cons (.lptr rfl) ?_|refine RNs.cons (.nil rfl) ?_|refine RNs.cons .nl ?_|refine RNs.cons (.keep (by simp only [h15,h16,h22,h23]) rfl) ?_|refine RNs.cons (.tuple' ?_) ?_|refine RNs.cons (.agg' ?_) ?_)))
            · rw [if_neg (by rw [h22];exact Bool.false_ne_true)] at hr
              repeat (first|(with_reducible first|refine mv ?_|refine TO.nil ?_)|((with_reducible apply TO.pk);(repeat (focus (show _ = _;first|exact k2 rfl|(simp only [zz]<;>exact rfl))));(with_reducible apply TO.here))|((with_reducible apply TO.skip1);(repeat (focus (show _ = _;(simp only [zz,twant,zp,zs,h22]<;>exact rfl))));(with_reducible apply TO.here))|((with_reducible apply TX.cond_false);(focus rfl);(focus (rfl))))
              cases hr
              refine ⟨rfl,?_⟩
              exact Wk.ren [some 0] rfl (.rows .nil rfl rfl) (by (repeat (first|exact RNs.nil|refine RNs.cons .junk ?_|refine RNs.cons (.keep rfl rfl) ?_|refine RNs.cons (.lsl rfl rfl) ?_|refine RNs.cons (.lsl rfl (by simp only [List.length_set])) ?_|refine RNs.cons (.lptr rfl) ?_|refine RNs.cons (.nil rfl) ?_|refine RNs.cons .nl ?_|refine RNs.cons (.keep (by simp only [h15,h16,h22]) rfl) ?_|refine RNs.cons (.tuple' ?_) ?_|refine RNs.cons (.agg' ?_) ?_)))
          · intro e h;cases h
          · try dsimp only
            repeat (first|with_reducible refine mv ?_|((with_reducible first|apply TO.mv|apply TO.fa|apply TO.ld|apply TO.bin);(repeat (focus (show _ = _;first|exact k2 rfl|(simp only [zz,y23,Nat.reduceAdd,tfieldAddr,tload,rowOf,partT]<;>exact rfl)|exact rfl)));(with_reducible apply TO.here))|((with_reducible apply TX.region);(focus (simp only []<;>exact rfl));(focus rfl);(try dsimp only)))
            obtain ⟨v29,h27,hr⟩:=Option.bind_eq_some_iff.1 hr
            try dsimp only at hr
            apply TO.cal (by first|rfl|(simp only [twant,z1,zp,zs,h15,h16];done)) rfl goFn74 (ref08_round_spec h27) rfl rfl rfl
            (repeat (focus (show _ = _;(simp only [zz,shift]<;>exact rfl))))
            with_reducible apply TO.here
            apply TO.pop1 (by first|rfl|(simp only [twant,z1,zp,zs,h15,h16];done)) (pop_min rfl rfl)
            (repeat (focus (show _ = _;(simp only [zz]<;>exact rfl))))
            with_reducible apply TO.here
            apply TO.pop1 (by first|rfl|(simp only [twant,z1,zp,zs,h15,h16];done)) (pop_max rfl rfl)
            (repeat (focus (show _ = _;(simp only [zz]<;>exact rfl))))
            with_reducible apply TO.here
            apply TO.bm e_i ([(if (if v29 < 1000000000 then v29 else 1000000000) > (-1000000000) then (if v29 < 1000000000 then v29 else 1000000000) else (-1000000000))] : List Int) (by first|rfl|(simp only [twant,z1,zp,zs,h15,h16];done)) rfl (by simp only [zz,y23,e_i,Nat.reduceAdd,Nat.reduceMul,tslice,tparts];exact rfl) rfl
            (repeat (focus (show _ = _;(simp only [zz,e_i]<;>exact rfl))))
            with_reducible apply TO.here
            obtain ⟨v30,h28,hr⟩:=Option.bind_eq_some_iff.1 hr
            try dsimp only at hr
            apply TO.ap (f:=e_i) (xs:=v6) (ys:=([(if (if v29 < 1000000000 then v29 else 1000000000) > (-1000000000) then (if v29 < 1000000000 then v29 else 1000000000) else (-1000000000))] : List Int)) (by first|rfl|(simp only [twant,z1,zp,zs,h15,h16];done)) rfl rfl (by first|rfl|simp only [List.length_set]) rfl rfl so22 ni22 zc3 rfl (by rw [by3];exact h28) (fun _=>⟨rfl,rfl,rfl⟩)
            (repeat (focus (show _ = _;(simp only [zz,Nat.reduceAdd,kill,killB]<;>exact rfl))))
            with_reducible apply TO.here
            repeat (first|(with_reducible first|refine mv ?_|refine TO.nil ?_)|((with_reducible first|apply TO.asg|apply TO.mv|apply TO.bin);(repeat (focus (show _ = _;first|exact k2 rfl|(simp only [zz]<;>exact rfl))));(with_reducible apply TO.here))|((with_reducible apply TX.region);(focus (simp only []<;>exact rfl));(focus rfl);(try dsimp only)))
            cases hr
            refine ⟨rfl,?_⟩
            exact Wk.ren [some 0] rfl (.rows .nil rfl rfl) (by (repeat (first|exact RNs.nil|refine RNs.cons .junk ?_|refine RNs.cons (.keep rfl rfl) ?_|refine RNs.cons (.lsl rfl rfl) ?_|refine RNs.cons (.lsl rfl (by simp only [List.length_set])) ?_|refine RNs.cons (.lptr rfl) ?_|refine RNs.cons (.nil rfl) ?_|refine RNs.cons .nl ?_|refine RNs.cons (.keep (by simp only [h15,h16]) rfl) ?_|refine RNs.cons (.tuple' ?_) ?_|refine RNs.cons (.agg' ?_) ?_)))
          · try dsimp only
            exact Wk.ren [some 0] rfl (.rows .nil rfl rfl) (by (repeat (first|exact RNs.nil|refine RNs.cons .junk ?_|refine RNs.cons (.keep rfl rfl) ?_|refine RNs.cons (.lsl rfl rfl) ?_|refine RNs.cons (.lsl rfl (by simp only [List.length_set])) ?_|refine RNs.cons (.lptr rfl) ?_|refine RNs.cons (.nil rfl) ?_|refine RNs.cons .nl ?_|refine RNs.cons (.keep (by simp only [h15,h16]) rfl) ?_|refine RNs.cons (.tuple' ?_) ?_|refine RNs.cons (.agg' ?_) ?_)))
      · rw [if_neg (by rw [h15];exact Bool.false_ne_true)] at hr
        repeat (first|with_reducible refine mv ?_|((with_reducible apply TX.cond_false);(focus rfl);(focus ((simp only [z1,h15];done)))))
        cases hr
        refine ⟨rfl,?_⟩
        exact Wk.ren [some 0] rfl (.rows .nil rfl rfl) (by (repeat (first|exact RNs.nil|refine RNs.cons .junk ?_|refine RNs.cons (.keep rfl rfl) ?_|refine RNs.cons (.lsl rfl rfl) ?_|refine RNs.cons (.lsl rfl (by simp only [List.length_set])) ?_|refine RNs.cons (.lptr rfl) ?_|refine RNs.cons (.nil rfl) ?_|refine RNs.cons .nl ?_|refine RNs.cons (.keep (by simp only [h15]) rfl) ?_|refine RNs.cons (.tuple' ?_) ?_|refine RNs.cons (.agg' ?_) ?_)))
    · intro e h;cases h
    · try dsimp only
      repeat (first|(with_reducible first|refine mv ?_|refine TO.nil ?_)|((with_reducible first|apply TO.mv|apply TO.asg);(repeat (focus (show _ = _;first|exact k2 rfl|(simp only [zz]<;>exact rfl))));(with_reducible apply TO.here))|((with_reducible apply TX.region);(focus (simp only []<;>exact rfl));(focus rfl);(try dsimp only)))
      cases hr
      refine ⟨.inr rfl,_,(by simp only [];exact rfl),?_⟩
      exact wr [some 0] rfl (.rows .nil rfl rfl)
    · try dsimp only
      exact wr [some 0] rfl (.rows .nil rfl rfl)
  rfl

end Go.Rex

namespace Go.Rex
open Go.Proofs
open Go Go.Rex Go.RowKit
set_option maxRecDepth 100000
set_option maxHeartbeats 200000
def y24:=an @ag3 <| an @cs3 <| an @ok3 <| an @so22 <| @wi64_0a1
theorem base_Ints_spec {v1 : (List Int)} {v2 : (List Int)} {v3 : Bool} (hr : base_Ints v1 v2 = some (v3)) : Spec (lim Try.prog) 23 [.list 1 (v1.map e_i),.list 1 (v2.map e_i)] ⟨[.v (.bool v3)],[]⟩:=by
  unfold base_Ints at hr
  apply Spec.fn Try.func23 rfl
  focus (simp [Try.f23]<;>exact rfl)
  focus
    repeat (first|(with_reducible first|refine mv ?_|refine TO.nil ?_)|((with_reducible first|apply TO.asg|apply TO.mv|apply TO.len|apply TO.bin);(repeat (focus (show _ = _;first|exact k2 rfl|(simp only [zz,y24,tlen]<;>exact rfl))));(with_reducible apply TO.here))|((with_reducible apply TX.region);(focus (simp only []<;>exact rfl));(focus rfl);(try dsimp only)))
    rcases Bool.eq_false_or_eq_true ((decide ((v1.length : Int) ≠ (v2.length : Int)))) with h1|h1
    · rw [if_pos h1] at hr
      repeat (first|(with_reducible first|refine mv ?_|refine TO.nil ?_)|((with_reducible apply TO.asg);(repeat (focus (show _ = _;first|exact k2 rfl|(simp only [zz,h1]<;>exact rfl))));(with_reducible apply TO.here))|((with_reducible apply TX.region);(focus (simp only []<;>exact rfl));(focus rfl);(try dsimp only))|((with_reducible apply TX.cond_true);(focus rfl);(focus ((simp only [z1,h1];done)))))
      cases hr
      refine ⟨.inr rfl,_,(by simp only [];exact rfl),?_⟩
      exact Wk.ren [] rfl .nil (by (repeat (first|exact RNs.nil|refine RNs.cons .junk ?_|refine RNs.cons (.keep rfl rfl) ?_|refine RNs.cons (.lsl rfl rfl) ?_|refine RNs.cons (.lsl rfl (by simp only [List.length_set])) ?_|refine RNs.cons (.lptr rfl) ?_|refine RNs.cons (.nil rfl) ?_|refine RNs.cons .nl ?_|refine RNs.cons (.keep (by simp only [h1]) rfl) ?_|refine RNs.cons (.tuple' ?_) ?_|refine RNs.cons (.agg' ?_) ?_)))
    · rw [if_neg (by rw [h1];exact Bool.false_ne_true)] at hr
      repeat (first|(with_reducible first|refine mv ?_|refine TO.nil ?_)|((with_reducible apply TO.asg);(repeat (focus (show _ = _;first|exact k2 rfl|(simp only [zz,h1]<;>exact rfl))));(with_reducible apply TO.here))|((with_reducible apply TX.region);(focus (simp only []<;>exact rfl));(focus rfl);(try dsimp only))|((with_reducible apply TX.cond_false);(focus rfl);(focus ((simp only [z1,h1];done)))))
      obtain ⟨v9,h10,hr⟩:=Option.bind_eq_some_iff.1 hr
      refine TX.loopE (step:=base_Ints_l1 v1 v2) (x:=0) h10 (fun v4=>⟨.list 1 (v1.map e_i) :: .list 1 (v2.map e_i) :: .junk :: .junk :: .junk :: .v (.int .i64 v4) :: .junk :: .junk :: .junk :: .junk :: .junk :: .junk :: .junk :: .junk :: .junk :: .junk :: .junk :: .junk :: .junk :: .junk :: .junk :: .junk :: .junk :: .junk :: .junk :: .junk :: [],[]⟩) (fun e=>match e with|(.inl _)=>(.ret,⟨.junk :: .junk :: .junk :: .junk :: .v (.bool false) :: .junk :: .junk :: .junk :: .junk :: .junk :: .junk :: .junk :: .junk :: .junk :: .junk :: .junk :: .junk :: .junk :: .junk :: .junk :: .junk :: .junk :: .junk :: .junk :: .junk :: .junk :: [],[]⟩)|(.inr _)=>(.exit 0,⟨.junk :: .junk :: .junk :: .junk :: .junk :: .junk :: .junk :: .junk :: .junk :: .junk :: .junk :: .junk :: .junk :: .junk :: .junk :: .junk :: .junk :: .junk :: .junk :: .junk :: .junk :: .junk :: .junk :: .junk :: .junk :: .junk :: [],[]⟩)) ?_ ?_ ?_ ?_
      · rintro v4 v0 hr
        dsimp only [base_Ints_l1] at hr
        try dsimp only
        repeat (first|(with_reducible first|refine mv ?_|refine TO.nil ?_)|((with_reducible first|apply TO.mv|apply TO.len|apply TO.bin);(repeat (focus (show _ = _;first|exact k2 rfl|(simp only [zz,y24,tlen]<;>exact rfl))));(with_reducible apply TO.here))|((with_reducible apply TX.region);(focus (simp only []<;>exact rfl));(focus rfl);(try dsimp only)))
        rcases Bool.eq_false_or_eq_true ((decide (v4 < (v1.length : Int)))) with h6|h6
        · rw [if_pos h6] at hr
          repeat (first|with_reducible refine mv ?_|((with_reducible apply TD.mv);(repeat (focus (show _ = _;first|exact k2 rfl|(simp only [zz,h6]<;>exact rfl))));(with_reducible refine TD.here ?_))|((with_reducible apply TX.drawn);(focus decide +kernel);(focus (simp only []<;>exact rfl));(focus exact rfl);(try dsimp only))|((with_reducible apply TX.cond_true);(focus rfl);(focus ((simp only [z1,h6];done)))))
          obtain ⟨v7,h7,hr⟩:=Option.bind_eq_some_iff.1 hr
          try dsimp only at hr
          have h7m:=tidx_map (f:=e_i) h7
          have h7l:=getI_lt h7
          try simp only [List.length_set] at h7l
          have h7a:=getI_at h7
          repeat (first|((with_reducible first|apply TD.ia|apply TD.ld|apply TD.mv);(repeat (focus (show _ = _;first|exact k2 rfl|(simp only [zz,y24,e_i,tindexAddr,tload,rowOf,partT,h7m]<;>exact rfl)|exact rfl)));(with_reducible refine TD.here ?_)))
          obtain ⟨v8,h8,hr⟩:=Option.bind_eq_some_iff.1 hr
          try dsimp only at hr
          have h8m:=tidx_map (f:=e_i) h8
          have h8l:=getI_lt h8
          try simp only [List.length_set] at h8l
          have h8a:=getI_at h8
          repeat (first|(with_reducible first|refine mv ?_|refine TD.nil ?_)|((with_reducible first|apply TD.ia|apply TD.ld|apply TD.bin);(repeat (focus (show _ = _;first|exact k2 rfl|(simp only [zz,y24,e_i,tindexAddr,tload,rowOf,partT,h8m]<;>exact rfl)|exact rfl)));(with_reducible refine TD.here ?_)))
          rcases Bool.eq_false_or_eq_true ((decide (v7 ≠ v8))) with h9|h9
          · rw [if_pos h9] at hr
            repeat (first|(with_reducible first|refine mv ?_|refine TO.nil ?_)|((with_reducible apply TO.asg);(repeat (focus (show _ = _;first|exact k2 rfl|(simp only [zz,h9]<;>exact rfl))));(with_reducible apply TO.here))|((with_reducible apply TX.region);(focus (simp only []<;>exact rfl));(focus rfl);(try dsimp only))|((with_reducible apply TX.cond_true);(focus rfl);(focus ((simp only [z1,h9];done)))))
            cases hr
            refine ⟨rfl,?_⟩
            exact Wk.ren [] rfl .nil (by (repeat (first|exact RNs.nil|refine RNs.cons .junk ?_|refine RNs.cons (.keep rfl rfl) ?_|refine RNs.cons (.lsl rfl rfl) ?_|refine RNs.cons (.lsl rfl (by simp only [List.length_set])) ?_|refine RNs.cons (.lptr rfl) ?_|refine RNs.cons (.nil rfl) ?_|refine RNs.cons .nl ?_|refine RNs.cons (.keep (by simp only [h1,h6,h9]) rfl) ?_|refine RNs.cons (.tuple' ?_) ?_|refine RNs.cons (.agg' ?_) ?_)))
          · rw [if_neg (by rw [h9];exact Bool.false_ne_true)] at hr
            repeat (first|(with_reducible first|refine mv ?_|refine TO.nil ?_)|((with_reducible first|apply TO.mv|apply TO.bin|apply TO.asg);(repeat (focus (show _ = _;first|exact k2 rfl|(simp only [zz,h9]<;>exact rfl))));(with_reducible apply TO.here))|((with_reducible apply TX.region);(focus (simp only []<;>exact rfl));(focus rfl);(try dsimp only))|((with_reducible apply TX.cond_false);(focus rfl);(focus ((simp only [z1,h9];done)))))
            cases hr
            refine ⟨rfl,?_⟩
            exact Wk.ren [] rfl .nil (by (repeat (first|exact RNs.nil|refine RNs.cons .junk ?_|refine RNs.cons (.keep rfl rfl) ?_|refine RNs.cons (.lsl rfl rfl) ?_|refine RNs.cons (.lsl rfl (by simp only [List.length_set])) ?_|refine RNs.cons (.lptr rfl) ?_|refine RNs.cons (.nil rfl) ?_|refine RNs.cons .nl ?_|refine RNs.cons (.keep (by simp only [h1,h6,h9]) rfl) ?_|refine RNs.cons (.tuple' ?_) ?_|refine RNs.cons (.agg' ?_) ?_)))
        · rw [if_neg (by rw [h6];exact Bool.false_ne_true)] at hr
          repeat (first|with_reducible refine mv ?_|((with_reducible apply TX.cond_false);(focus rfl);(focus ((simp only [z1,h6];done)))))
          cases hr
          refine ⟨rfl,?_⟩
          exact Wk.ren [] rfl .nil (by (repeat (first|exact RNs.nil|refine RNs.cons .junk ?_|refine RNs.cons (.keep rfl rfl) ?_|refine RNs.cons (.lsl rfl rfl) ?_|refine RNs.cons (.lsl rfl (by simp only [List.length_set])) ?_|refine RNs.cons (.lptr rfl) ?_|refine RNs.cons (.nil rfl) ?_|refine RNs.cons .nl ?_|refine RNs.cons (.keep (by simp only [h1,h6]) rfl) ?_|refine RNs.cons (.tuple' ?_) ?_|refine RNs.cons (.agg' ?_) ?_)))
      · intro e h;rcases e with _|e<;>cases h
      · try dsimp only
        rcases v9 with _|_
        · try dsimp only at hr
          try dsimp only
          repeat (first|with_reducible refine mv ?_)
          cases hr
          refine ⟨.inr rfl,_,(by simp only [];exact rfl),?_⟩
          exact Wk.ren [] rfl .nil (by (repeat (first|exact RNs.nil|refine RNs.cons .junk ?_|refine RNs.cons (.keep rfl rfl) ?_|refine RNs.cons (.lsl rfl rfl) ?_|refine RNs.cons (.lsl rfl (by simp only [List.length_set])) ?_|refine RNs.cons (.lptr rfl) ?_|refine RNs.cons (.nil rfl) ?_|refine RNs.cons .nl ?_|refine RNs.cons (.keep (by simp only [h1]) rfl) ?_|refine RNs.cons (.tuple' ?_) ?_|refine RNs.cons (.agg' ?_) ?_)))
        · try dsimp only at hr
          try dsimp only
          repeat (first|(with_reducible first|refine mv ?_|refine TO.nil ?_)|((with_reducible apply TO.asg);(repeat (focus (show _ = _;first|exact k2 rfl|(simp only [zz]<;>exact rfl))));(with_reducible apply TO.here))|((with_reducible apply TX.region);(focus (simp only []<;>exact rfl));(focus rfl);(try dsimp only)))
          cases hr
          refine ⟨.inr rfl,_,(by simp only [];exact rfl),?_⟩
          exact Wk.ren [] rfl .nil (by (repeat (first|exact RNs.nil|refine RNs.cons .junk ?_|refine RNs.cons (.keep rfl rfl) ?_|refine RNs.cons (.lsl rfl rfl) ?_|refine RNs.cons (.lsl rfl (by simp only [List.length_set])) ?_|refine RNs.cons (.lptr rfl) ?_|refine RNs.cons (.nil rfl) ?_|refine RNs.cons .nl ?_|refine RNs.cons (.keep (by simp only [h1]) rfl) ?_|refine RNs.cons (.tuple' ?_) ?_|refine RNs.cons (.agg' ?_) ?_)))
      · try dsimp only
        exact Wk.ren [] rfl .nil (by (repeat (first|exact RNs.nil|refine RNs.cons .junk ?_|refine RNs.cons (.keep rfl rfl) ?_|refine RNs.cons (.lsl rfl rfl) ?_|refine RNs.cons (.lsl rfl (by simp only [List.length_set])) ?_|refine RNs.cons (.lptr rfl) ?_|refine RNs.cons (.nil rfl) ?_|refine RNs.cons .nl ?_|refine RNs.cons (.keep (by simp only [h1]) rfl) ?_|refine RNs.cons (.tuple' ?_) ?_|refine RNs.cons (.agg' ?_) ?_)))
  rfl

end Go.Rex

namespace Go.Rex
open Go.Proofs
open Go Go.Rex Go.RowKit
set_option maxRecDepth 100000
set_option maxHeartbeats 200000
def y25:=an @ag135 <| an @ag3 <| an @cs135 <| an @fd135_0 <| an @fd135_1 <| an @ok135 <| an @st135 <| @zc135
theorem loop_direction_turned_spec {v1 : Int} {v2 : Int} {v3 : Int} {v4 : Int} (hr : loop_direction_turned v1 v2 = some (v3,v4)) : Spec (lim Try.prog) 104 [.agg [.v (.int .i64 v1),.v (.int .i64 v2)]] ⟨[.agg [.v (.int .i64 v3),.v (.int .i64 v4)]],[]⟩:=by
  unfold loop_direction_turned at hr
  apply Spec.fn Try.func104 rfl
  focus (simp [Try.f104]<;>exact rfl)
  focus
    repeat (first|(with_reducible first|refine mv ?_|refine TO.nil ?_)|((with_reducible first|apply TO.bf|apply TO.al|apply TO.fa|apply TO.ld);(repeat (focus (show _ = _;first|exact k1 rfl|exact k2 rfl|(simp only [zz,y25,Nat.reduceAdd,tfieldAddr,tload,rowOf,partT]<;>exact rfl)|exact rfl)));(with_reducible apply TO.here))|((with_reducible apply TX.region);(focus (simp only []<;>exact rfl));(focus rfl);(try dsimp only)))
    apply TO.pop1 (by first|rfl|(simp only [twant,z1,zp,zs];done)) (pop_neg rfl)
    (repeat (focus (show _ = _;(simp only [zz]<;>exact rfl))))
    with_reducible apply TO.here
    repeat (first|(with_reducible first|refine mv ?_|refine TO.nil ?_)|((with_reducible first|apply TO.fa|apply TO.ld|apply TO.bld|apply TO.sv);(repeat (focus (show _ = _;first|exact k1 rfl|exact k2 rfl|(simp only [zz,y25,Nat.reduceAdd,Nat.reduceLeDiff,tfieldAddr,tload,rowOf,partT,tbuild,tfill]<;>exact rfl)|exact rfl)));(with_reducible apply TO.here)))
    cases hr
    refine ⟨.inr rfl,_,(by simp only [];exact rfl),?_⟩
    exact wr [] rfl .nil
  rfl

end Go.Rex

namespace Go.Rex
open Go.Proofs
open Go Go.Rex Go.RowKit
set_option maxRecDepth 100000
set_option maxHeartbeats 1000000
def y26:=an @un160 <| an @un3 <| an @un5 <| an @us9 <| an @wi64_0a16 <| an @wi64_0a8 <| an @wi64_16a8 <| an @wi64_32a16 <| an @wi64_32a8 <| @wi64_48a8
theorem math_bits_Len64_spec {v1 : Int} {v2 : Int} (hr : math_bits_Len64 v1 = some (v2)) : Spec (lim Try.prog) 147 [.v (.int .u64 v1)] ⟨[.v (.int .i64 v2)],[]⟩:=by
  unfold math_bits_Len64 at hr
  apply Spec.fn Try.func147 rfl
  focus (simp [Try.f147]<;>exact rfl)
  focus
    repeat (first|(with_reducible first|refine mv ?_|refine TO.nil ?_)|((with_reducible first|apply TO.asg|apply TO.mv|apply TO.bin);(repeat (focus (show _ = _;first|exact k2 rfl|(simp only [zz]<;>exact rfl))));(with_reducible apply TO.here))|((with_reducible apply TX.region);(focus (simp only []<;>exact rfl));(focus rfl);(try dsimp only)))
    rcases Bool.eq_false_or_eq_true ((decide (v1 ≥ 4294967296))) with h1|h1
    · rw [if_pos h1] at hr
      repeat (first|with_reducible refine mv ?_|((with_reducible apply TO.mv);(repeat (focus (show _ = _;first|exact k2 rfl|(simp only [zz,h1]<;>exact rfl))));(with_reducible apply TO.here))|((with_reducible apply TX.region);(focus (simp only []<;>exact rfl));(focus rfl);(try dsimp only))|((with_reducible apply TX.cond_true);(focus rfl);(focus ((simp only [z1,h1];done)))))
      obtain ⟨v3,h2,hr⟩:=Option.bind_eq_some_iff.1 hr
      try dsimp only at hr
      apply TO.pop1 (by first|rfl|(simp only [twant,z1,zp,zs,h1];done)) (pop_shift rfl rfl (by decide) (h2))
      (repeat (focus (show _ = _;(simp only [zz]<;>exact rfl))))
      with_reducible apply TO.here
      repeat (first|(with_reducible first|refine mv ?_|refine TO.nil ?_)|((with_reducible first|apply TO.asg|apply TO.mv|apply TO.bin);(repeat (focus (show _ = _;first|exact k2 rfl|(simp only [zz]<;>exact rfl))));(with_reducible apply TO.here))|((with_reducible apply TX.region);(focus (simp only []<;>exact rfl));(focus rfl);(try dsimp only)))
      rcases Bool.eq_false_or_eq_true ((decide (v3 ≥ 65536))) with h3|h3
      · rw [if_pos h3] at hr
        repeat (first|with_reducible refine mv ?_|((with_reducible apply TO.mv);(repeat (focus (show _ = _;first|exact k2 rfl|(simp only [zz,h3]<;>exact rfl))));(with_reducible apply TO.here))|((with_reducible apply TX.region);(focus (simp only []<;>exact rfl));(focus rfl);(try dsimp only))|((with_reducible apply TX.cond_true);(focus rfl);(focus ((simp only [z1,h3];done)))))
        obtain ⟨v4,h4,hr⟩:=Option.bind_eq_some_iff.1 hr
        try dsimp only at hr
        apply TO.pop1 (by first|rfl|(simp only [twant,z1,zp,zs,h1,h3];done)) (pop_shift rfl rfl (by decide) (h4))
        (repeat (focus (show _ = _;(simp only [zz]<;>exact rfl))))
        with_reducible apply TO.here
        repeat (first|(with_reducible first|refine mv ?_|refine TO.nil ?_)|((with_reducible first|apply TO.asg|apply TO.mv|apply TO.bin);(repeat (focus (show _ = _;first|exact k2 rfl|(simp only [zz,y26]<;>exact rfl))));(with_reducible apply TO.here))|((with_reducible apply TX.region);(focus (simp only []<;>exact rfl));(focus rfl);(try dsimp only)))
        rcases Bool.eq_false_or_eq_true ((decide (v4 ≥ 256))) with h5|h5
        · rw [if_pos h5] at hr
          repeat (first|with_reducible refine mv ?_|((with_reducible apply TO.mv);(repeat (focus (show _ = _;first|exact k2 rfl|(simp only [zz,h5]<;>exact rfl))));(with_reducible apply TO.here))|((with_reducible apply TX.region);(focus (simp only []<;>exact rfl));(focus rfl);(try dsimp only))|((with_reducible apply TX.cond_true);(focus rfl);(focus ((simp only [z1,h5];done)))))
          obtain ⟨v5,h6,hr⟩:=Option.bind_eq_some_iff.1 hr
          try dsimp only at hr
          apply TO.pop1 (by first|rfl|(simp only [twant,z1,zp,zs,h1,h3,h5];done)) (pop_shift rfl rfl (by decide) (h6))
          (repeat (focus (show _ = _;(simp only [zz]<;>exact rfl))))
          with_reducible apply TO.here
          repeat (first|(with_reducible first|refine mv ?_|refine TO.nil ?_)|((with_reducible first|apply TO.asg|apply TO.mv|apply TO.bin);(repeat (focus (show _ = _;first|exact k2 rfl|(simp only [zz,y26]<;>exact rfl))));(with_reducible apply TO.here))|((with_reducible apply TX.region);(focus (simp only []<;>exact rfl));(focus rfl);(try dsimp only)))
          apply TO.pop1 (by first|rfl|(simp only [twant,z1,zp,zs,h1,h3,h5];done)) (cvt_int_int un160 un5 rfl)
          (repeat (focus (show _ = _;(simp only [zz]<;>exact rfl))))
          with_reducible apply TO.here
          obtain ⟨v6,h7,hr⟩:=Option.bind_eq_some_iff.1 hr
          try dsimp only at hr
          apply TO.pop1 (by first|rfl|(simp only [twant,z1,zp,zs,h1,h3,h5];done)) (pop_strix rfl rfl us9 h7)
          (repeat (focus (show _ = _;(simp only [zz]<;>exact rfl))))
          with_reducible apply TO.here
          apply TO.pop1 (by first|rfl|(simp only [twant,z1,zp,zs,h1,h3,h5];done)) (cvt_int_int un5 un3 rfl)
          (repeat (focus (show _ = _;(simp only [zz]<;>exact rfl))))
          with_reducible apply TO.here
          repeat (first|(with_reducible first|refine mv ?_|refine TO.nil ?_)|((with_reducible first|apply TO.bin|apply TO.asg);(repeat (focus (show _ = _;first|exact k2 rfl|(simp only [zz]<;>exact rfl))));(with_reducible apply TO.here)))
          cases hr
          refine ⟨.inr rfl,_,(by simp only [];exact rfl),?_⟩
          exact Wk.ren [] rfl .nil (by (repeat (first|exact RNs.nil|refine RNs.cons .junk ?_|refine RNs.cons (.keep rfl rfl) ?_|refine RNs.cons (.lsl rfl rfl) ?_|refine RNs.cons (.lsl rfl (by simp only [List.length_set])) ?_|refine RNs.cons (.lptr rfl) ?_|refine RNs.cons (.nil rfl) ?_|refine RNs.cons .nl ?_|refine RNs.cons (.keep (by simp only [h1,h3,h5]) rfl) ?_|refine RNs.cons (.tuple' ?_) ?_|refine RNs.cons (.agg' ?_) ?_)))
        · rw [if_neg (by rw [h5];exact Bool.false_ne_true)] at hr
          repeat (first|with_reducible refine mv ?_|((with_reducible apply TO.mv);(repeat (focus (show _ = _;first|exact k2 rfl|(simp only [zz,h5]<;>exact rfl))));(with_reducible apply TO.here))|((with_reducible apply TX.region);(focus (simp only []<;>exact rfl));(focus rfl);(try dsimp only))|((with_reducible apply TX.cond_false);(focus rfl);(focus ((simp only [z1,h5];done)))))
          apply TO.pop1 (by first|rfl|(simp only [twant,z1,zp,zs,h1,h3,h5];done)) (cvt_int_int un160 un5 rfl)
          (repeat (focus (show _ = _;(simp only [zz]<;>exact rfl))))
          with_reducible apply TO.here
          obtain ⟨v7,h8,hr⟩:=Option.bind_eq_some_iff.1 hr
          try dsimp only at hr
          apply TO.pop1 (by first|rfl|(simp only [twant,z1,zp,zs,h1,h3,h5];done)) (pop_strix rfl rfl us9 h8)
          (repeat (focus (show _ = _;(simp only [zz]<;>exact rfl))))
          with_reducible apply TO.here
          apply TO.pop1 (by first|rfl|(simp only [twant,z1,zp,zs,h1,h3,h5];done)) (cvt_int_int un5 un3 rfl)
          (repeat (focus (show _ = _;(simp only [zz]<;>exact rfl))))
          with_reducible apply TO.here
          repeat (first|(with_reducible first|refine mv ?_|refine TO.nil ?_)|((with_reducible first|apply TO.bin|apply TO.asg);(repeat (focus (show _ = _;first|exact k2 rfl|(simp only [zz]<;>exact rfl))));(with_reducible apply TO.here)))
          cases hr
          refine ⟨.inr rfl,_,(by simp only [];exact rfl),?_⟩
          exact Wk.ren [] rfl .nil (by (repeat (first|exact RNs.nil|refine RNs.cons .junk ?_|refine RNs.cons (.keep rfl rfl) ?_|refine RNs.cons (.lsl rfl rfl) ?_|refine RNs.cons (.lsl rfl (by simp only [List.length_set])) ?_|refine RNs.cons (.lptr rfl) ?_|refine RNs.cons (.nil rfl) ?_|refine RNs.cons .nl ?_|refine RNs.cons (.keep (by simp only [h1,h3,h5]) rfl) ?_|refine RNs.cons (.tuple' ?_) ?_|refine RNs.cons (.agg' ?_) ?_)))
      · rw [if_neg (by rw [h3];exact Bool.false_ne_true)] at hr
        repeat (first|(with_reducible first|refine mv ?_|refine TO.nil ?_)|((with_reducible first|apply TO.mv|apply TO.bin);(repeat (focus (show _ = _;first|exact k2 rfl|(simp only [zz,h3]<;>exact rfl))));(with_reducible apply TO.here))|((with_reducible apply TX.region);(focus (simp only []<;>exact rfl));(focus rfl);(try dsimp only))|((with_reducible apply TX.cond_false);(focus rfl);(focus ((simp only [z1,h3];done)))))
        rcases Bool.eq_false_or_eq_true ((decide (v3 ≥ 256))) with h9|h9
        · rw [if_pos h9] at hr
          repeat (first|with_reducible refine mv ?_|((with_reducible apply TO.mv);(repeat (focus (show _ = _;first|exact k2 rfl|(simp only [zz,h9]<;>exact rfl))));(with_reducible apply TO.here))|((with_reducible apply TX.region);(focus (simp only []<;>exact rfl));(focus rfl);(try dsimp only))|((with_reducible apply TX.cond_true);(focus rfl);(focus ((simp only [z1,h9];done)))))
          obtain ⟨v8,h10,hr⟩:=Option.bind_eq_some_iff.1 hr
          try dsimp only at hr
          apply TO.pop1 (by first|rfl|(simp only [twant,z1,zp,zs,h1,h3,h9];done)) (pop_shift rfl rfl (by decide) (h10))
          (repeat (focus (show _ = _;(simp only [zz]<;>exact rfl))))
          with_reducible apply TO.here
          repeat (first|(with_reducible first|refine mv ?_|refine TO.nil ?_)|((with_reducible first|apply TO.asg|apply TO.mv|apply TO.bin);(repeat (focus (show _ = _;first|exact k2 rfl|(simp only [zz,y26]<;>exact rfl))));(with_reducible apply TO.here))|((with_reducible apply TX.region);(focus (simp only []<;>exact rfl));(focus rfl);(try dsimp only)))
          apply TO.pop1 (by first|rfl|(simp only [twant,z1,zp,zs,h1,h3,h9];done)) (cvt_int_int un160 un5 rfl)
          (repeat (focus (show _ = _;(simp only [zz]<;>exact rfl))))
          with_reducible apply TO.here
          obtain ⟨v9,h11,hr⟩:=Option.bind_eq_some_iff.1 hr
          try dsimp only at hr
          apply TO.pop1 (by first|rfl|(simp only [twant,z1,zp,zs,h1,h3,h9];done)) (pop_strix rfl rfl us9 h11)
          (repeat (focus (show _ = _;(simp only [zz]<;>exact rfl))))
          with_reducible apply TO.here
          apply TO.pop1 (by first|rfl|(simp only [twant,z1,zp,zs,h1,h3,h9];done)) (cvt_int_int un5 un3 rfl)
          (repeat (focus (show _ = _;(simp only [zz]<;>exact rfl))))
          with_reducible apply TO.here
          repeat (first|(with_reducible first|refine mv ?_|refine TO.nil ?_)|((with_reducible first|apply TO.bin|apply TO.asg);(repeat (focus (show _ = _;first|exact k2 rfl|(simp only [zz]<;>exact rfl))));(with_reducible apply TO.here)))
          cases hr
          refine ⟨.inr rfl,_,(by simp only [];exact rfl),?_⟩
          exact Wk.ren [] rfl .nil (by (repeat (first|exact RNs.nil|refine RNs.cons .junk ?_|refine RNs.cons (.keep rfl rfl) ?_|refine RNs.cons (.lsl rfl rfl) ?_|refine RNs.cons (.lsl rfl (by simp only [List.length_set])) ?_|refine RNs.cons (.lptr rfl) ?_|refine RNs.cons (.nil rfl) ?_|refine RNs.cons .nl ?_|refine RNs.cons (.keep (by simp only [h1,h3,h9]) rfl) ?_|refine RNs.cons (.tuple' ?_) ?_|refine RNs.cons (.agg' ?_) ?_)))
        · rw [if_neg (by rw [h9];exact Bool.false_ne_true)] at hr
          repeat (first|with_reducible refine mv ?_|((with_reducible apply TO.mv);(repeat (focus (show _ = _;first|exact k2 rfl|(simp only [zz,h9]<;>exact rfl))));(with_reducible apply TO.here))|((with_reducible apply TX.region);(focus (simp only []<;>exact rfl));(focus rfl);(try dsimp only))|((with_reducible apply TX.cond_false);(focus rfl);(focus ((simp only [z1,h9];done)))))
          apply TO.pop1 (by first|rfl|(simp only [twant,z1,zp,zs,h1,h3,h9];done)) (cvt_int_int un160 un5 rfl)
          (repeat (focus (show _ = _;(simp only [zz]<;>exact rfl))))
          with_reducible apply TO.here
          obtain ⟨v10,h12,hr⟩:=Option.bind_eq_some_iff.1 hr
          try dsimp only at hr
          apply TO.pop1 (by first|rfl|(simp only [twant,z1,zp,zs,h1,h3,h9];done)) (pop_strix rfl rfl us9 h12)
          (repeat (focus (show _ = _;(simp only [zz]<;>exact rfl))))
          with_reducible apply TO.here
          apply TO.pop1 (by first|rfl|(simp only [twant,z1,zp,zs,h1,h3,h9];done)) (cvt_int_int un5 un3 rfl)
          (repeat (focus (show _ = _;(simp only [zz]<;>exact rfl))))
          with_reducible apply TO.here
          repeat (first|(with_reducible first|refine mv ?_|refine TO.nil ?_)|((with_reducible first|apply TO.bin|apply TO.asg);(repeat (focus (show _ = _;first|exact k2 rfl|(simp only [zz]<;>exact rfl))));(with_reducible apply TO.here)))
          cases hr
          refine ⟨.inr rfl,_,(by simp only [];exact rfl),?_⟩
          exact Wk.ren [] rfl .nil (by (repeat (first|exact RNs.nil|refine RNs.cons .junk ?_|refine RNs.cons (.keep rfl rfl) ?_|refine RNs.cons (.lsl rfl rfl) ?_|refine RNs.cons (.lsl rfl (by simp only [List.length_set])) ?_|refine RNs.cons (.lptr rfl) ?_|refine RNs.cons (.nil rfl) ?_|refine RNs.cons .nl ?_|refine RNs.cons (.keep (by simp only [h1,h3,h9]) rfl) ?_|refine RNs.cons (.tuple' ?_) ?_|refine RNs.cons (.agg' ?_) ?_)))
    · rw [if_neg (by rw [h1];exact Bool.false_ne_true)] at hr
      repeat (first|(with_reducible first|refine mv ?_|refine TO.nil ?_)|((with_reducible first|apply TO.mv|apply TO.bin);(repeat (focus (show _ = _;first|exact k2 rfl|(simp only [zz,h1]<;>exact rfl))));(with_reducible apply TO.here))|((with_reducible apply TX.region);(focus (simp only []<;>exact rfl));(focus rfl);(try dsimp only))|((with_reducible apply TX.cond_false);(focus rfl);(focus ((simp only [z1,h1];done)))))
      rcases Bool.eq_false_or_eq_true ((decide (v1 ≥ 65536))) with h13|h13
      · rw [if_pos h13] at hr
        repeat (first|with_reducible refine mv ?_|((with_reducible apply TO.mv);(repeat (focus (show _ = _;first|exact k2 rfl|(simp only [zz,h13]<;>exact rfl))));(with_reducible apply TO.here))|((with_reducible apply TX.region);(focus (simp only []<;>exact rfl));(focus rfl);(try dsimp only))|((with_reducible apply TX.cond_true);(focus rfl);(focus ((simp only [z1,h13];done)))))
        obtain ⟨v11,h14,hr⟩:=Option.bind_eq_some_iff.1 hr
        try dsimp only at hr
        apply TO.pop1 (by first|rfl|(simp only [twant,z1,zp,zs,h1,h13];done)) (pop_shift rfl rfl (by decide) (h14))
        (repeat (focus (show _ = _;(simp only [zz]<;>exact rfl))))
        with_reducible apply TO.here
        repeat (first|(with_reducible first|refine mv ?_|refine TO.nil ?_)|((with_reducible first|apply TO.asg|apply TO.mv|apply TO.bin);(repeat (focus (show _ = _;first|exact k2 rfl|(simp only [zz,y26]<;>exact rfl))));(with_reducible apply TO.here))|((with_reducible apply TX.region);(focus (simp only []<;>exact rfl));(focus rfl);(try dsimp only)))
        rcases Bool.eq_false_or_eq_true ((decide (v11 ≥ 256))) with h15|h15
        · rw [if_pos h15] at hr
          repeat (first|with_reducible refine mv ?_|((with_reducible apply TO.mv);(repeat (focus (show _ = _;first|exact k2 rfl|(simp only [zz,h15]<;>exact rfl))));(with_reducible apply TO.here))|((with_reducible apply TX.region);(focus (simp only []<;>exact rfl));(focus rfl);(try dsimp only))|((with_reducible apply TX.cond_true);(focus rfl);(focus ((simp only [z1,h15];done)))))
          obtain ⟨v12,h16,hr⟩:=Option.bind_eq_some_iff.1 hr
          try dsimp only at hr
          apply TO.pop1 (by first|rfl|(simp only [twant,z1,zp,zs,h1,h13,h15];done)) (pop_shift rfl rfl (by decide) (h16))
          (repeat (focus (show _ = _;(simp only [zz]<;>exact rfl))))
          with_reducible apply TO.here
          repeat (first|(with_reducible first|refine mv ?_|refine TO.nil ?_)|((with_reducible first|apply TO.asg|apply TO.mv|apply TO.bin);(repeat (focus (show _ = _;first|exact k2 rfl|(simp only [zz,y26]<;>exact rfl))));(with_reducible apply TO.here))|((with_reducible apply TX.region);(focus (simp only []<;>exact rfl));(focus rfl);(try dsimp only)))
          apply TO.pop1 (by first|rfl|(simp only [twant,z1,zp,zs,h1,h13,h15];done)) (cvt_int_int un160 un5 rfl)
          (repeat (focus (show _ = _;(simp only [zz]<;>exact rfl))))
          with_reducible apply TO.here
          obtain ⟨v13,h17,hr⟩:=Option.bind_eq_some_iff.1 hr
          try dsimp only at hr
          apply TO.pop1 (by first|rfl|(simp only [twant,z1,zp,zs,h1,h13,h15];done)) (pop_strix rfl rfl us9 h17)
          (repeat (focus (show _ = _;(simp only [zz]<;>exact rfl))))
          with_reducible apply TO.here
          apply TO.pop1 (by first|rfl|(simp only [twant,z1,zp,zs,h1,h13,h15];done)) (cvt_int_int un5 un3 rfl)
          (repeat (focus (show _ = _;(simp only [zz]<;>exact rfl))))
          with_reducible apply TO.here
          repeat (first|(with_reducible first|refine mv ?_|refine TO.nil ?_)|((with_reducible first|apply TO.bin|apply TO.asg);(repeat (focus (show _ = _;first|exact k2 rfl|(simp only [zz]<;>exact rfl))));(with_reducible apply TO.here)))
          cases hr
          refine ⟨.inr rfl,_,(by simp only [];exact rfl),?_⟩
          exact Wk.ren [] rfl .nil (by (repeat (first|exact RNs.nil|refine RNs.cons .junk ?_|refine RNs.cons (.keep rfl rfl) ?_|refine RNs.cons (.lsl rfl rfl) ?_|refine RNs.cons (.lsl rfl (by simp only [List.length_set])) ?_|refine RNs.cons (.lptr rfl) ?_|refine RNs.cons (.nil rfl) ?_|refine RNs.cons .nl ?_|refine RNs.cons (.keep (by simp only [h1,h13,h15]) rfl) ?_|refine RNs.cons (.tuple' ?_) ?_|refine RNs.cons (.agg' ?_) ?_)))
        · rw [if_neg (by rw [h15];exact Bool.false_ne_true)] at hr
          repeat (first|with_reducible refine mv ?_|((with_reducible apply TO.mv);(repeat (focus (show _ = _;first|exact k2 rfl|(simp only [zz,h15]<;>exact rfl))));(with_reducible apply TO.here))|((with_reducible apply TX.region);(focus (simp only []<;>exact rfl));(focus rfl);(try dsimp only))|((with_reducible apply TX.cond_false);(focus rfl);(focus ((simp only [z1,h15];done)))))
          apply TO.pop1 (by first|rfl|(simp only [twant,z1,zp,zs,h1,h13,h15];done)) (cvt_int_int un160 un5 rfl)
          (repeat (focus (show _ = _;(simp only [zz]<;>exact rfl))))
          with_reducible apply TO.here
          obtain ⟨v14,h18,hr⟩:=Option.bind_eq_some_iff.1 hr
          try dsimp only at hr
          apply TO.pop1 (by first|rfl|(simp only [twant,z1,zp,zs,h1,h13,h15];done)) (pop_strix rfl rfl us9 h18)
          (repeat (focus (show _ = _;(simp only [zz]<;>exact rfl))))
          with_reducible apply TO.here
          apply TO.pop1 (by first|rfl|(simp only [twant,z1,zp,zs,h1,h13,h15];done)) (cvt_int_int un5 un3 rfl)
          (repeat (focus (show _ = _;(simp only [zz]<;>exact rfl))))
          with_reducible apply TO.here
          repeat (first|(with_reducible first|refine mv ?_|refine TO.nil ?_)|((with_reducible first|apply TO.bin|apply TO.asg);(repeat (focus (show _ = _;first|exact k2 rfl|(simp only [zz]<;>exact rfl))));(with_reducible apply TO.here)))
          cases hr
          refine ⟨.inr rfl,_,(by simp only [];exact rfl),?_⟩
          exact Wk.ren [] rfl .nil (by (repeat (first|exact RNs.nil|refine RNs.cons .junk ?_|refine RNs.cons (.keep rfl rfl) ?_|refine RNs.cons (.lsl rfl rfl) ?_|refine RNs.cons (.lsl rfl (by simp only [List.length_set])) ?_|refine RNs.cons (.lptr rfl) ?_|refine RNs.cons (.nil rfl) ?_|refine RNs.cons .nl ?_|refine RNs.cons (.keep (by simp only [h1,h13,h15]) rfl) ?_|refine RNs.cons (.tuple' ?_) ?_|refine RNs.cons (.agg' ?_) ?_)))
      · rw [if_neg (by rw [h13];exact Bool.false_ne_true)] at hr
        repeat (first|(with_reducible first|refine mv ?_|refine TO.nil ?_)|((with_reducible first|apply TO.mv|apply TO.bin);(repeat (focus (show _ = _;first|exact k2 rfl|(simp only [zz,h13]<;>exact rfl))));(with_reducible apply TO.here))|((with_reducible apply TX.region);(focus (simp only []<;>exact rfl));(focus rfl);(try dsimp only))|((with_reducible apply TX.cond_false);(focus rfl);(focus ((simp only [z1,h13];done)))))
        rcases Bool.eq_false_or_eq_true ((decide (v1 ≥ 256))) with h19|h19
        · rw [if_pos h19] at hr
          repeat (first|with_reducible refine mv ?_|((with_reducible apply TO.mv);(repeat (focus (show _ = _;first|exact k2 rfl|(simp only [zz,h19]<;>exact rfl))));(with_reducible apply TO.here))|((with_reducible apply TX.region);(focus (simp only []<;>exact rfl));(focus rfl);(try dsimp only))|((with_reducible apply TX.cond_true);(focus rfl);(focus ((simp only [z1,h19];done)))))
          obtain ⟨v15,h20,hr⟩:=Option.bind_eq_some_iff.1 hr
          try dsimp only at hr
          apply TO.pop1 (by first|rfl|(simp only [twant,z1,zp,zs,h1,h13,h19];done)) (pop_shift rfl rfl (by decide) (h20))
          (repeat (focus (show _ = _;(simp only [zz]<;>exact rfl))))
          with_reducible apply TO.here
          repeat (first|(with_reducible first|refine mv ?_|refine TO.nil ?_)|((with_reducible first|apply TO.asg|apply TO.mv|apply TO.bin);(repeat (focus (show _ = _;first|exact k2 rfl|(simp only [zz,y26]<;>exact rfl))));(with_reducible apply TO.here))|((with_reducible apply TX.region);(focus (simp only []<;>exact rfl));(focus rfl);(try dsimp only)))
          apply TO.pop1 (by first|rfl|(simp only [twant,z1,zp,zs,h1,h13,h19];done)) (cvt_int_int un160 un5 rfl)
          (repeat (focus (show _ = _;(simp only [zz]<;>exact rfl))))
          with_reducible apply TO.here
          obtain ⟨v16,h21,hr⟩:=Option.bind_eq_some_iff.1 hr
          try dsimp only at hr
          apply TO.pop1 (by first|rfl|(simp only [twant,z1,zp,zs,h1,h13,h19];done)) (pop_strix rfl rfl us9 h21)
          (repeat (focus (show _ = _;(simp only [zz]<;>exact rfl))))
          with_reducible apply TO.here
          apply TO.pop1 (by first|rfl|(simp only [twant,z1,zp,zs,h1,h13,h19];done)) (cvt_int_int un5 un3 rfl)
          (repeat (focus (show _ = _;(simp only [zz]<;>exact rfl))))
          with_reducible apply TO.here
          repeat (first|(with_reducible first|refine mv ?_|refine TO.nil ?_)|((with_reducible first|apply TO.bin|apply TO.asg);(repeat (focus (show _ = _;first|exact k2 rfl|(simp only [zz]<;>exact rfl))));(with_reducible apply TO.here)))
          cases hr
          refine ⟨.inr rfl,_,(by simp only [];exact rfl),?_⟩
          exact Wk.ren [] rfl .nil (by (repeat (first|exact RNs.nil|refine RNs.cons .junk ?_|refine RNs.cons (.keep rfl rfl) ?_|refine RNs.cons (.lsl rfl rfl) ?_|refine RNs.cons (.lsl rfl (by simp only [List.length_set])) ?_|refine RNs.cons (.lptr rfl) ?_|refine RNs.cons (.nil rfl) ?_|refine RNs.cons .nl ?_|refine RNs.cons (.keep (by simp only [h1,h13,h19]) rfl) ?_|refine RNs.cons (.tuple' ?_) ?_|refine RNs.cons (.agg' ?_) ?_)))
        · rw [if_neg (by rw [h19];exact Bool.false_ne_true)] at hr
          repeat (first|with_reducible refine mv ?_|((with_reducible apply TO.mv);(repeat (focus (show _ = _;first|exact k2 rfl|(simp only [zz,h19]<;>exact rfl))));(with_reducible apply TO.here))|((with_reducible apply TX.region);(focus (simp only []<;>exact rfl));(focus rfl);(try dsimp only))|((with_reducible apply TX.cond_false);(focus rfl);(focus ((simp only [z1,h19];done)))))
          apply TO.pop1 (by first|rfl|(simp only [twant,z1,zp,zs,h1,h13,h19];done)) (cvt_int_int un160 un5 rfl)
          (repeat (focus (show _ = _;(simp only [zz]<;>exact rfl))))
          with_reducible apply TO.here
          obtain ⟨v17,h22,hr⟩:=Option.bind_eq_some_iff.1 hr
          try dsimp only at hr
          apply TO.pop1 (by first|rfl|(simp only [twant,z1,zp,zs,h1,h13,h19];done)) (pop_strix rfl rfl us9 h22)
          (repeat (focus (show _ = _;(simp only [zz]<;>exact rfl))))
          with_reducible apply TO.here
          apply TO.pop1 (by first|rfl|(simp only [twant,z1,zp,zs,h1,h13,h19];done)) (cvt_int_int un5 un3 rfl)
          (repeat (focus (show _ = _;(simp only [zz]<;>exact rfl))))
          with_reducible apply TO.here
          repeat (first|(with_reducible first|refine mv ?_|refine TO.nil ?_)|((with_reducible first|apply TO.bin|apply TO.asg);(repeat (focus (show _ = _;first|exact k2 rfl|(simp only [zz]<;>exact rfl))));(with_reducible apply TO.here)))
          cases hr
          refine ⟨.inr rfl,_,(by simp only [];exact rfl),?_⟩
          exact Wk.ren [] rfl .nil (by (repeat (first|exact RNs.nil|refine RNs.cons .junk ?_|refine RNs.cons (.keep rfl rfl) ?_|refine RNs.cons (.lsl rfl rfl) ?_|refine RNs.cons (.lsl rfl (by simp only [List.length_set])) ?_|refine RNs.cons (.lptr rfl) ?_|refine RNs.cons (.nil rfl) ?_|refine RNs.cons .nl ?_|refine RNs.cons (.keep (by simp only [h1,h13,h19]) rfl) ?_|refine RNs.cons (.tuple' ?_) ?_|refine RNs.cons (.agg' ?_) ?_)))
  rfl

end Go.Rex

namespace Go.Rex
open Go.Proofs
open Go Go.Rex Go.RowKit
set_option maxRecDepth 100000
set_option maxHeartbeats 200000
theorem math_bits_Len_spec {v1 : Int} {v2 : Int} (hr : math_bits_Len v1 = some (v2)) : Spec (lim Try.prog) 144 [.v (.int .u64 v1)] ⟨[.v (.int .i64 v2)],[]⟩:=by
  unfold math_bits_Len at hr
  apply Spec.fn Try.func144 rfl
  focus (simp [Try.f144]<;>exact rfl)
  focus
    repeat (first|(with_reducible first|refine mv ?_|refine TO.nil ?_)|((with_reducible first|apply TO.asg|apply TO.mv);(repeat (focus (show _ = _;first|exact k2 rfl|(simp only [zz]<;>exact rfl))));(with_reducible apply TO.here))|((with_reducible apply TX.region);(focus (simp only []<;>exact rfl));(focus rfl);(try dsimp only))|((with_reducible apply TX.cond_false);(focus rfl);(focus (rfl))))
    obtain ⟨v3,h1,hr⟩:=Option.bind_eq_some_iff.1 hr
    try dsimp only at hr
    apply TO.cal (by first|rfl|(simp only [twant,z1,zp,zs];done)) rfl goFn147 (math_bits_Len64_spec h1) rfl rfl rfl
    (repeat (focus (show _ = _;(simp only [zz,shift]<;>exact rfl))))
    with_reducible apply TO.here
    repeat (first|(with_reducible first|refine mv ?_|refine TO.nil ?_)|((with_reducible apply TO.asg);(repeat (focus (show _ = _;first|exact k2 rfl|(simp only [zz]<;>exact rfl))));(with_reducible apply TO.here)))
    cases hr
    refine ⟨.inr rfl,_,(by simp only [];exact rfl),?_⟩
    exact wr [] rfl .nil
  rfl

end Go.Rex

namespace Go.Rex
open Go.Proofs
open Go Go.Rex Go.RowKit
set_option maxRecDepth 100000
set_option maxHeartbeats 200000
def y27:=an @un155 <| @un3
theorem loop_root_spec {v1 : Int} {v2 : Int} (hr : loop_root v1 = some (v2)) : Spec (lim Try.prog) 136 [.v (.int .i64 v1)] ⟨[.v (.int .i64 v2)],[]⟩:=by
  unfold loop_root at hr
  apply Spec.fn Try.func136 rfl
  focus (simp [Try.f136]<;>exact rfl)
  focus
    repeat (first|(with_reducible first|refine mv ?_|refine TO.nil ?_)|((with_reducible first|apply TO.asg|apply TO.mv);(repeat (focus (show _ = _;first|exact k2 rfl|(simp only [zz]<;>exact rfl))));(with_reducible apply TO.here))|((with_reducible apply TX.region);(focus (simp only []<;>exact rfl));(focus rfl);(try dsimp only)))
    apply TO.pop1 (by first|rfl|(simp only [twant,z1,zp,zs];done)) (cvt_int_int un3 un155 rfl)
    (repeat (focus (show _ = _;(simp only [zz]<;>exact rfl))))
    with_reducible apply TO.here
    obtain ⟨v3,h1,hr⟩:=Option.bind_eq_some_iff.1 hr
    try dsimp only at hr
    apply TO.cal (by first|rfl|(simp only [twant,z1,zp,zs];done)) rfl goFn144 (math_bits_Len_spec h1) rfl rfl rfl
    (repeat (focus (show _ = _;(simp only [zz,shift]<;>exact rfl))))
    with_reducible apply TO.here
    repeat (first|((with_reducible apply TO.bin);(repeat (focus (show _ = _;first|exact k2 rfl|(simp only [zz]<;>exact rfl))));(with_reducible apply TO.here)))
    obtain ⟨v4,h2,hr⟩:=Option.bind_eq_some_iff.1 hr
    try dsimp only at hr
    apply TO.pop1 (by first|rfl|(simp only [twant,z1,zp,zs];done)) (pop_shift rfl rfl (by decide) (h2))
    (repeat (focus (show _ = _;(simp only [zz]<;>exact rfl))))
    with_reducible apply TO.here
    repeat (first|(with_reducible first|refine mv ?_|refine TO.nil ?_)|((with_reducible apply TO.asg);(repeat (focus (show _ = _;first|exact k2 rfl|(simp only [zz]<;>exact rfl))));(with_reducible apply TO.here)))
    obtain ⟨v7,h7,hr⟩:=Option.bind_eq_some_iff.1 hr
    try dsimp only at hr
    refine TX.loopE (step:=loop_root_l1 v1) (x:=v4) h7 (fun v5=>⟨.v (.int .i64 v1) :: .junk :: .junk :: .v (.int .i64 v5) :: .junk :: .junk :: .junk :: .junk :: .junk :: .junk :: .junk :: .junk :: .junk :: .junk :: .junk :: .junk :: .junk :: .junk :: .junk :: .junk :: .junk :: .junk :: [],[]⟩) (fun v6=>(.ret,⟨.junk :: .junk :: .v (.int .i64 v6) :: .junk :: .junk :: .junk :: .junk :: .junk :: .junk :: .junk :: .junk :: .junk :: .junk :: .junk :: .junk :: .junk :: .junk :: .junk :: .junk :: .junk :: .junk :: .junk :: [],[]⟩)) ?_ ?_ ?_ ?_
    · rintro v5 v0 hr
      dsimp only [loop_root_l1] at hr
      try dsimp only
      repeat (first|with_reducible refine mv ?_|((with_reducible apply TO.mv);(repeat (focus (show _ = _;first|exact k2 rfl|(simp only [zz]<;>exact rfl))));(with_reducible apply TO.here))|((with_reducible apply TX.region);(focus (simp only []<;>exact rfl));(focus rfl);(try dsimp only)))
      by_cases h5 : v5 = 0
      · rw [if_pos h5] at hr
        cases hr
      · rw [if_neg h5] at hr
        repeat (first|(with_reducible first|refine mv ?_|refine TO.nil ?_)|((with_reducible first|apply TO.bin|apply TO.asg|apply TO.mv);(repeat (focus (show _ = _;first|exact k2 rfl|(simp only [zz,h5]<;>exact rfl))));(with_reducible apply TO.here))|((with_reducible apply TX.region);(focus (simp only []<;>exact rfl));(focus rfl);(try dsimp only)))
        rcases Bool.eq_false_or_eq_true ((decide ((IntKind.i64.wrap ((IntKind.i64.wrap (v5 + (IntKind.i64.wrap (v1.tdiv v5)))).tdiv 2)) ≥ v5))) with h6|h6
        · rw [if_pos h6] at hr
          repeat (first|(with_reducible first|refine mv ?_|refine TO.nil ?_)|((with_reducible first|apply TO.mv|apply TO.asg);(repeat (focus (show _ = _;first|exact k2 rfl|(simp only [zz,h6]<;>exact rfl))));(with_reducible apply TO.here))|((with_reducible apply TX.region);(focus (simp only []<;>exact rfl));(focus rfl);(try dsimp only))|((with_reducible apply TX.cond_true);(focus rfl);(focus ((simp only [z1,h6];done)))))
          cases hr
          refine ⟨rfl,?_⟩
          exact Wk.ren [] rfl .nil (by (repeat (first|exact RNs.nil|refine RNs.cons .junk ?_|refine RNs.cons (.keep rfl rfl) ?_|refine RNs.cons (.lsl rfl rfl) ?_|refine RNs.cons (.lsl rfl (by simp only [List.length_set])) ?_|refine RNs.cons (.lptr rfl) ?_|refine RNs.cons (.nil rfl) ?_|refine RNs.cons .nl ?_|refine RNs.cons (.keep (by simp only [h6]) rfl) ?_|refine RNs.cons (.tuple' ?_) ?_|refine RNs.cons (.agg' ?_) ?_)))
        · rw [if_neg (by rw [h6];exact Bool.false_ne_true)] at hr
          repeat (first|(with_reducible first|refine mv ?_|refine TO.nil ?_)|((with_reducible first|apply TO.mv|apply TO.asg);(repeat (focus (show _ = _;first|exact k2 rfl|(simp only [zz,h6]<;>exact rfl))));(with_reducible apply TO.here))|((with_reducible apply TX.region);(focus (simp only []<;>exact rfl));(focus rfl);(try dsimp only))|((with_reducible apply TX.cond_false);(focus rfl);(focus ((simp only [z1,h6];done)))))
          cases hr
          refine ⟨rfl,?_⟩
          exact Wk.ren [] rfl .nil (by (repeat (first|exact RNs.nil|refine RNs.cons .junk ?_|refine RNs.cons (.keep rfl rfl) ?_|refine RNs.cons (.lsl rfl rfl) ?_|refine RNs.cons (.lsl rfl (by simp only [List.length_set])) ?_|refine RNs.cons (.lptr rfl) ?_|refine RNs.cons (.nil rfl) ?_|refine RNs.cons .nl ?_|refine RNs.cons (.keep (by simp only [h6]) rfl) ?_|refine RNs.cons (.tuple' ?_) ?_|refine RNs.cons (.agg' ?_) ?_)))
    · intro e h;cases h
    · try dsimp only
      repeat (first|with_reducible refine mv ?_)
      cases hr
      refine ⟨.inr rfl,_,(by simp only [];exact rfl),?_⟩
      exact wr [] rfl .nil
    · try dsimp only
      exact wr [] rfl .nil
  rfl

end Go.Rex

namespace Go.Rex
open Go.Proofs
open Go Go.Rex Go.RowKit
set_option maxRecDepth 100000
set_option maxHeartbeats 200000
def y28:=an @ag135 <| an @ag3 <| an @cs135 <| an @fd135_0 <| an @fd135_1 <| an @ok135 <| an @st135 <| @zc135
theorem loop_middle_spec {v1 : Int} {v2 : Int} {v3 : Int} {v4 : Int} {v5 : Int} {v6 : Int} (hr : loop_middle v1 v2 v3 v4 = some (v5,v6)) : Spec (lim Try.prog) 105 [.agg [.v (.int .i64 v1),.v (.int .i64 v2)],.agg [.v (.int .i64 v3),.v (.int .i64 v4)]] ⟨[.agg [.v (.int .i64 v5),.v (.int .i64 v6)]],[]⟩:=by
  unfold loop_middle at hr
  apply Spec.fn Try.func105 rfl
  focus (simp [Try.f105]<;>exact rfl)
  focus
    repeat (first|(with_reducible first|refine mv ?_|refine TO.nil ?_)|((with_reducible first|apply TO.bf|apply TO.al|apply TO.mv|apply TO.bin);(repeat (focus (show _ = _;first|exact k1 rfl|exact k2 rfl|(simp only [zz,y28]<;>exact rfl)|exact rfl)));(with_reducible apply TO.here))|((with_reducible apply TX.region);(focus (simp only []<;>exact rfl));(focus rfl);(try dsimp only))|with_reducible refine TD.nil ?_|((with_reducible first|apply TD.fa|apply TD.ld|apply TD.bin|apply TD.asg);(repeat (focus (show _ = _;first|exact k2 rfl|(simp only [zz,y28,Nat.reduceAdd,tfieldAddr,tload,rowOf,partT]<;>exact rfl)|exact rfl)));(with_reducible refine TD.here ?_))|((with_reducible apply TX.drawn);(focus decide +kernel);(focus (simp only []<;>exact rfl));(focus exact rfl);(try dsimp only)))
    obtain ⟨v7,h1,hr⟩:=Option.bind_eq_some_iff.1 hr
    try dsimp only at hr
    apply TO.cal (by first|rfl|(simp only [twant,z1,zp,zs];done)) rfl goFn136 (loop_root_spec h1) rfl rfl rfl
    (repeat (focus (show _ = _;(simp only [zz,shift]<;>exact rfl))))
    with_reducible apply TO.here
    repeat (first|(with_reducible first|refine mv ?_|refine TO.nil ?_)|((with_reducible first|apply TO.asg|apply TO.mv|apply TO.bin);(repeat (focus (show _ = _;first|exact k2 rfl|(simp only [zz]<;>exact rfl))));(with_reducible apply TO.here))|((with_reducible apply TX.region);(focus (simp only []<;>exact rfl));(focus rfl);(try dsimp only)))
    obtain ⟨v8,h2,hr⟩:=Option.bind_eq_some_iff.1 hr
    try dsimp only at hr
    apply TO.cal (by first|rfl|(simp only [twant,z1,zp,zs];done)) rfl goFn107 (loop_nearest_spec h2) rfl rfl rfl
    (repeat (focus (show _ = _;(simp only [zz,shift]<;>exact rfl))))
    with_reducible apply TO.here
    repeat (first|((with_reducible first|apply TO.mv|apply TO.bin);(repeat (focus (show _ = _;first|exact k2 rfl|(simp only [zz]<;>exact rfl))));(with_reducible apply TO.here)))
    obtain ⟨v9,h3,hr⟩:=Option.bind_eq_some_iff.1 hr
    try dsimp only at hr
    apply TO.cal (by first|rfl|(simp only [twant,z1,zp,zs];done)) rfl goFn107 (loop_nearest_spec h3) rfl rfl rfl
    (repeat (focus (show _ = _;(simp only [zz,shift]<;>exact rfl))))
    with_reducible apply TO.here
    repeat (first|(with_reducible first|refine mv ?_|refine TO.nil ?_)|((with_reducible first|apply TO.bld|apply TO.sv);(repeat (focus (show _ = _;first|exact k1 rfl|exact k2 rfl|(simp only [zz,y28,Nat.reduceAdd,Nat.reduceLeDiff,tbuild,tfill]<;>exact rfl))));(with_reducible apply TO.here)))
    cases hr
    refine ⟨.inr rfl,_,(by simp only [];exact rfl),?_⟩
    exact wr [] rfl .nil
  rfl

end Go.Rex

namespace Go.Rex
open Go.Proofs
open Go Go.Rex Go.RowKit
set_option maxRecDepth 100000
set_option maxHeartbeats 1000000
def y29:=an @ag135 <| an @by135 <| an @cs135 <| an @ok135 <| an @so105 <| an @st135 <| an @zc135 <| an @wi64_256a256 <| an @wi64_256a512 <| an @wi64_2m256 <| @wi64_256s256
theorem loop_newCircle_spec {v1 : (List (Int × Int))} (hr : loop_newCircle = some (v1)) : Spec (lim Try.prog) 72 [] ⟨[.lsl 0 0 v1.length],[.rows 2 (v1.map e_ii)]⟩:=by
  unfold loop_newCircle at hr
  apply Spec.fn Try.func72 rfl
  focus (simp [Try.f72]<;>exact rfl)
  focus
    repeat (first|(with_reducible first|refine mv ?_|refine TO.nil ?_)|((with_reducible apply TO.asg);(repeat (focus (show _ = _;first|exact k2 rfl|(simp only [zz]<;>exact rfl))));(with_reducible apply TO.here))|((with_reducible apply TX.region);(focus (simp only []<;>exact rfl));(focus rfl);(try dsimp only)))
    obtain ⟨v2,h1,hr⟩:=Option.bind_eq_some_iff.1 hr
    try dsimp only at hr
    apply TO.mk e_ii h1 (by first|rfl|(simp only [twant,z1,zp,zs];done)) rfl rfl so105 zc135 by135 rfl rfl rfl
    (repeat (focus (show _ = _;(simp only [zz,Nat.reduceAdd]<;>exact rfl))))
    with_reducible apply TO.here
    repeat (first|(with_reducible first|refine mv ?_|refine TO.nil ?_)|((with_reducible first|apply TO.asg|apply TO.mv|apply TO.bld);(repeat (focus (show _ = _;first|exact k2 rfl|(simp only [zz,y29,Nat.reduceAdd,Nat.reduceLeDiff,tbuild,tfill]<;>exact rfl))));(with_reducible apply TO.here))|((with_reducible apply TX.region);(focus (simp only []<;>exact rfl));(focus rfl);(try dsimp only)))
    obtain ⟨⟨v3,v4⟩,h2,hr⟩:=Option.bind_eq_some_iff.1 hr
    try dsimp only at hr
    have h2m:=tidx_map (f:=e_ii) h2
    have h2l:=getI_lt h2
    try simp only [List.length_set] at h2l
    have h2a:=getI_at h2
    repeat (first|((with_reducible apply TO.ia);(repeat (focus (show _ = _;first|exact k2 rfl|(simp only [zz,y29,tindexAddr,Nat.zero_add,h2l]<;>exact rfl))));(with_reducible apply TO.here)))
    apply TO.sr e_ii v2 (v3,v4) (67108864,0) h2a (by first|rfl|(simp only [twant,z1,zp,zs,h2m,h2l,h2a];done)) rfl rfl rfl rfl rfl ok135 (by rw [cs135];rfl) rfl rfl rfl rfl
    (repeat (focus (show _ = _;(simp only [zz]<;>exact rfl))))
    with_reducible apply TO.here
    repeat (first|(with_reducible first|refine mv ?_|refine TO.nil ?_)|((with_reducible first|apply TO.mv|apply TO.bld);(repeat (focus (show _ = _;first|exact k2 rfl|(simp only [zz,y29,Nat.reduceAdd,Nat.reduceLeDiff,tbuild,tfill]<;>exact rfl))));(with_reducible apply TO.here))|((with_reducible apply TX.region);(focus (simp only []<;>exact rfl));(focus rfl);(try dsimp only)))
    obtain ⟨⟨v5,v6⟩,h3,hr⟩:=Option.bind_eq_some_iff.1 hr
    try dsimp only at hr
    have h3m:=tidx_map (f:=e_ii) h3
    have h3l:=getI_lt h3
    try simp only [List.length_set] at h3l
    have h3a:=getI_at h3
    repeat (first|((with_reducible apply TO.ia);(repeat (focus (show _ = _;first|exact k2 rfl|(simp only [zz,y29,tindexAddr,Nat.zero_add,h3l]<;>exact rfl))));(with_reducible apply TO.here)))
    apply TO.sr e_ii (v2.set (0 : Int).toNat (67108864,0)) (v5,v6) (47453132,47453132) h3a (by first|rfl|(simp only [twant,z1,zp,zs,h2m,h2l,h2a,h3m,h3l,h3a];done)) rfl rfl rfl rfl rfl ok135 (by rw [cs135];rfl) rfl rfl rfl rfl
    (repeat (focus (show _ = _;(simp only [zz]<;>exact rfl))))
    with_reducible apply TO.here
    repeat (first|(with_reducible first|refine mv ?_|refine TO.nil ?_)|((with_reducible apply TO.mv);(repeat (focus (show _ = _;first|exact k2 rfl|(simp only [zz]<;>exact rfl))));(with_reducible apply TO.here))|((with_reducible apply TX.region);(focus (simp only []<;>exact rfl));(focus rfl);(try dsimp only)))
    obtain ⟨⟨v7,v8⟩,h4,hr⟩:=Option.bind_eq_some_iff.1 hr
    try dsimp only at hr
    have h4m:=tidx_map (f:=e_ii) h4
    have h4l:=getI_lt h4
    try simp only [List.length_set] at h4l
    have h4a:=getI_at h4
    repeat (first|((with_reducible first|apply TO.ia|apply TO.ld);(repeat (focus (show _ = _;first|exact k2 rfl|(simp only [zz,y29,e_ii,Nat.reduceAdd,Nat.reduceLeDiff,tindexAddr,Nat.zero_add,tload,rowOf,partT,List.getElem?_map,h2l,h4a]<;>exact rfl)|exact rfl)));(with_reducible apply TO.here)))
    obtain ⟨⟨v9,v10⟩,h5,hr⟩:=Option.bind_eq_some_iff.1 hr
    try dsimp only at hr
    apply TO.cal (by first|rfl|(simp only [twant,z1,zp,zs,h2m,h2l,h2a,h3m,h3l,h3a,h4m,h4l,h4a];done)) rfl goFn104 (loop_direction_turned_spec h5) rfl rfl rfl
    (repeat (focus (show _ = _;(simp only [zz,Nat.reduceAdd,shift]<;>exact rfl))))
    with_reducible apply TO.here
    obtain ⟨⟨v11,v12⟩,h6,hr⟩:=Option.bind_eq_some_iff.1 hr
    try dsimp only at hr
    have h6m:=tidx_map (f:=e_ii) h6
    have h6l:=getI_lt h6
    try simp only [List.length_set] at h6l
    have h6a:=getI_at h6
    repeat (first|((with_reducible apply TO.ia);(repeat (focus (show _ = _;first|exact k2 rfl|(simp only [zz,y29,tindexAddr,Nat.zero_add,h6l]<;>exact rfl))));(with_reducible apply TO.here)))
    apply TO.sr e_ii ((v2.set (0 : Int).toNat (67108864,0)).set (512 : Int).toNat (47453132,47453132)) (v11,v12) (v9,v10) h6a (by first|rfl|(simp only [twant,z1,zp,zs,h2m,h2l,h2a,h3m,h3l,h3a,h4m,h4l,h4a,h6m,h6l,h6a];done)) rfl rfl rfl rfl rfl ok135 (by rw [cs135];rfl) rfl rfl rfl rfl
    (repeat (focus (show _ = _;(simp only [zz]<;>exact rfl))))
    with_reducible apply TO.here
    repeat (first|(with_reducible first|refine mv ?_|refine TO.nil ?_)|((with_reducible apply TO.asg);(repeat (focus (show _ = _;first|exact k2 rfl|(simp only [zz]<;>exact rfl))));(with_reducible apply TO.here))|((with_reducible apply TX.region);(focus (simp only []<;>exact rfl));(focus rfl);(try dsimp only)))
    obtain ⟨v56,h31,hr⟩:=Option.bind_eq_some_iff.1 hr
    try dsimp only at hr
    refine TX.loopE (step:=loop_newCircle_l1) (x:=((((v2.set (0 : Int).toNat (67108864,0)).set (512 : Int).toNat (47453132,47453132)).set (1024 : Int).toNat (v9,v10)),256)) h31 (fun (v13,v14)=>⟨.junk :: .lsl 0 0 v13.length :: .v (.int .i64 v14) :: .junk :: .junk :: .junk :: .junk :: .junk :: .junk :: .junk :: .junk :: .junk :: .junk :: .junk :: .junk :: .junk :: .junk :: .junk :: .junk :: .junk :: .junk :: .junk :: .junk :: .junk :: .junk :: .junk :: .junk :: .junk :: .junk :: .junk :: .junk :: .junk :: .junk :: .junk :: .junk :: .junk :: .junk :: .junk :: .junk :: .junk :: .junk :: .junk :: .junk :: .junk :: .junk :: [],[.rows 2 (v13.map e_ii)]⟩) (fun v35=>(.exit 0,⟨.junk :: .lsl 0 0 v35.length :: .junk :: .junk :: .junk :: .junk :: .junk :: .junk :: .junk :: .junk :: .junk :: .junk :: .junk :: .junk :: .junk :: .junk :: .junk :: .junk :: .junk :: .junk :: .junk :: .junk :: .junk :: .junk :: .junk :: .junk :: .junk :: .junk :: .junk :: .junk :: .junk :: .junk :: .junk :: .junk :: .junk :: .junk :: .junk :: .junk :: .junk :: .junk :: .junk :: .junk :: .junk :: .junk :: .junk :: [],[.rows 2 (v35.map e_ii)]⟩)) ?_ ?_ ?_ ?_
    · rintro ⟨v13,v14⟩ v0 hr
      dsimp only [loop_newCircle_l1] at hr
      try dsimp only
      repeat (first|(with_reducible first|refine mv ?_|refine TO.nil ?_)|((with_reducible first|apply TO.mv|apply TO.bin);(repeat (focus (show _ = _;first|exact k2 rfl|(simp only [zz]<;>exact rfl))));(with_reducible apply TO.here))|((with_reducible apply TX.region);(focus (simp only []<;>exact rfl));(focus rfl);(try dsimp only)))
      rcases Bool.eq_false_or_eq_true ((decide (v14 > 0))) with h19|h19
      · rw [if_pos h19] at hr
        repeat (first|(with_reducible first|refine mv ?_|refine TO.nil ?_)|((with_reducible first|apply TO.mv|apply TO.asg);(repeat (focus (show _ = _;first|exact k2 rfl|(simp only [zz,h19]<;>exact rfl))));(with_reducible apply TO.here))|((with_reducible apply TX.region);(focus (simp only []<;>exact rfl));(focus rfl);(try dsimp only))|((with_reducible apply TX.cond_true);(focus rfl);(focus ((simp only [z1,h19];done)))))
        obtain ⟨v55,h30,hr⟩:=Option.bind_eq_some_iff.1 hr
        try dsimp only at hr
        refine TX.loopE (step:=loop_newCircle_l2 v14) (x:=(v13,v14)) h30 (fun (v36,v37)=>⟨.junk :: .lsl 0 0 v36.length :: .v (.int .i64 v14) :: .v (.int .i64 v37) :: .junk :: .junk :: .junk :: .junk :: .junk :: .junk :: .junk :: .junk :: .junk :: .junk :: .junk :: .junk :: .junk :: .junk :: .junk :: .junk :: .junk :: .junk :: .junk :: .junk :: .junk :: .junk :: .junk :: .junk :: .junk :: .junk :: .junk :: .junk :: .junk :: .junk :: .junk :: .junk :: .junk :: .junk :: .junk :: .junk :: .junk :: .junk :: .junk :: .junk :: .junk :: [],[.rows 2 (v36.map e_ii)]⟩) (fun v46=>(.exit 2,⟨.junk :: .lsl 0 0 v46.length :: .v (.int .i64 v14) :: .junk :: .junk :: .junk :: .junk :: .junk :: .junk :: .junk :: .junk :: .junk :: .junk :: .junk :: .junk :: .junk :: .junk :: .junk :: .junk :: .junk :: .junk :: .junk :: .junk :: .junk :: .junk :: .junk :: .junk :: .junk :: .junk :: .junk :: .junk :: .junk :: .junk :: .junk :: .junk :: .junk :: .junk :: .junk :: .junk :: .junk :: .junk :: .junk :: .junk :: .junk :: .junk :: [],[.rows 2 (v46.map e_ii)]⟩)) ?_ ?_ ?_ ?_
        · rintro ⟨v36,v37⟩ v0 hr
          dsimp only [loop_newCircle_l2] at hr
          try dsimp only
          repeat (first|(with_reducible first|refine mv ?_|refine TO.nil ?_)|((with_reducible first|apply TO.mv|apply TO.bin);(repeat (focus (show _ = _;first|exact k2 rfl|(simp only [zz]<;>exact rfl))));(with_reducible apply TO.here))|((with_reducible apply TX.region);(focus (simp only []<;>exact rfl));(focus rfl);(try dsimp only)))
          rcases Bool.eq_false_or_eq_true ((decide (v37 < 1024))) with h25|h25
          · rw [if_pos h25] at hr
            repeat (first|with_reducible refine mv ?_|((with_reducible first|apply TD.mv|apply TD.bin);(repeat (focus (show _ = _;first|exact k2 rfl|(simp only [zz,h25]<;>exact rfl))));(with_reducible refine TD.here ?_))|((with_reducible apply TX.drawn);(focus decide +kernel);(focus (simp only []<;>exact rfl));(focus exact rfl);(try dsimp only))|((with_reducible apply TX.cond_true);(focus rfl);(focus ((simp only [z1,h25];done)))))
            obtain ⟨⟨v47,v48⟩,h26,hr⟩:=Option.bind_eq_some_iff.1 hr
            try dsimp only at hr
            have h26m:=tidx_map (f:=e_ii) h26
            have h26l:=getI_lt h26
            try simp only [List.length_set] at h26l
            have h26a:=getI_at h26
            repeat (first|((with_reducible first|apply TD.ia|apply TD.ld|apply TD.mv|apply TD.bin);(repeat (focus (show _ = _;first|exact k2 rfl|(simp only [zz,y29,e_ii,Nat.reduceAdd,Nat.reduceLeDiff,tindexAddr,Nat.zero_add,tload,rowOf,partT,List.getElem?_map,h26l,h26a]<;>exact rfl)|exact rfl)));(with_reducible refine TD.here ?_)))
            obtain ⟨⟨v49,v50⟩,h27,hr⟩:=Option.bind_eq_some_iff.1 hr
            try dsimp only at hr
            have h27m:=tidx_map (f:=e_ii) h27
            have h27l:=getI_lt h27
            try simp only [List.length_set] at h27l
            have h27a:=getI_at h27
            repeat (first|((with_reducible first|apply TD.ia|apply TD.ld);(repeat (focus (show _ = _;first|exact k2 rfl|(simp only [zz,y29,e_ii,Nat.reduceAdd,Nat.reduceLeDiff,tindexAddr,Nat.zero_add,tload,rowOf,partT,List.getElem?_map,h27l,h27a]<;>exact rfl)|exact rfl)));(with_reducible refine TD.here ?_)))
            obtain ⟨⟨v51,v52⟩,h28,hr⟩:=Option.bind_eq_some_iff.1 hr
            try dsimp only at hr
            first|apply TD.cal (by first|rfl|(simp only [twant,z1,zp,zs,h2m,h2l,h2a,h3m,h3l,h3a,h4m,h4l,h4a,h6m,h6l,h6a,h19,h25,h26m,h26l,h26a,h27m,h27l,h27a];done)) rfl goFn105 (loop_middle_spec h28) rfl rfl rfl|apply TD.calw (by first|rfl|(simp only [twant,z1,zp,zs,h2m,h2l,h2a,h3m,h3l,h3a,h4m,h4l,h4a,h6m,h6l,h6a,h19,h25,h26m,h26l,h26a,h27m,h27l,h27a];done)) rfl goFn105 (loop_middle_spec h28) rfl rfl rfl rfl
            (repeat (focus (show _ = _;(simp only [zz,Nat.reduceAdd,shift]<;>exact rfl))))
            with_reducible apply TD.here
            obtain ⟨⟨v53,v54⟩,h29,hr⟩:=Option.bind_eq_some_iff.1 hr
            try dsimp only at hr
            have h29m:=tidx_map (f:=e_ii) h29
            have h29l:=getI_lt h29
            try simp only [List.length_set] at h29l
            have h29a:=getI_at h29
            repeat (first|((with_reducible apply TD.ia);(repeat (focus (show _ = _;first|exact k2 rfl|(simp only [zz,y29,tindexAddr,Nat.zero_add,h29l]<;>exact rfl))));(with_reducible refine TD.here ?_)))
            apply TD.sr e_ii v36 (v53,v54) (v51,v52) h29a (by first|rfl|(simp only [twant,z1,zp,zs,h2m,h2l,h2a,h3m,h3l,h3a,h4m,h4l,h4a,h6m,h6l,h6a,h19,h25,h26m,h26l,h26a,h27m,h27l,h27a,h29m,h29l,h29a];done)) rfl rfl rfl rfl rfl ok135 (by rw [cs135];rfl) rfl rfl rfl rfl rfl
            (repeat (focus (show _ = _;(simp only [zz]<;>exact rfl))))
            with_reducible apply TD.here
            repeat (first|(with_reducible first|refine mv ?_|refine TO.nil ?_)|((with_reducible first|apply TO.mv|apply TO.bin|apply TO.asg);(repeat (focus (show _ = _;first|exact k2 rfl|(simp only [zz]<;>exact rfl))));(with_reducible apply TO.here))|((with_reducible apply TX.region);(focus (simp only []<;>exact rfl));(focus rfl);(try dsimp only))|with_reducible refine TD.nil ?_)
            cases hr
            refine ⟨rfl,?_⟩
            exact Wk.ren [some 0] rfl (.rows .nil rfl rfl) (by (repeat (first|exact RNs.nil|refine RNs.cons .junk ?_|refine RNs.cons (.keep rfl rfl) ?_|refine RNs.cons (.lsl rfl rfl) ?_|refine RNs.cons (.lsl rfl (by simp only [List.length_set])) ?_|refine RNs.cons (.lptr rfl) ?_|refine RNs.cons (.nil rfl) ?_|refine RNs.cons .nl ?_|refine RNs.cons (.keep (by simp only [h19,h25]) rfl) ?_|refine RNs.cons (.tuple' ?_) ?_|refine RNs.cons (.agg' ?_) ?_)))
          · rw [if_neg (by rw [h25];exact Bool.false_ne_true)] at hr
            repeat (first|with_reducible refine mv ?_|((with_reducible apply TX.cond_false);(focus rfl);(focus ((simp only [z1,h25];done)))))
            cases hr
            refine ⟨rfl,?_⟩
            exact Wk.ren [some 0] rfl (.rows .nil rfl rfl) (by (repeat (first|exact RNs.nil|refine RNs.cons .junk ?_|refine RNs.cons (.keep rfl rfl) ?_|refine RNs.cons (.lsl rfl rfl) ?_|refine RNs.cons (.lsl rfl (by simp only [List.length_set])) ?_|refine RNs.cons (.lptr rfl) ?_|refine RNs.cons (.nil rfl) ?_|refine RNs.cons .nl ?_|refine RNs.cons (.keep (by simp only [h19,h25]) rfl) ?_|refine RNs.cons (.tuple' ?_) ?_|refine RNs.cons (.agg' ?_) ?_)))
        · intro e h;cases h
        · try dsimp only
          repeat (first|(with_reducible first|refine mv ?_|refine TO.nil ?_)|((with_reducible first|apply TO.mv|apply TO.bin|apply TO.asg);(repeat (focus (show _ = _;first|exact k2 rfl|(simp only [zz]<;>exact rfl))));(with_reducible apply TO.here))|((with_reducible apply TX.region);(focus (simp only []<;>exact rfl));(focus rfl);(try dsimp only)))
          cases hr
          refine ⟨rfl,?_⟩
          exact Wk.ren [some 0] rfl (.rows .nil rfl rfl) (by (repeat (first|exact RNs.nil|refine RNs.cons .junk ?_|refine RNs.cons (.keep rfl rfl) ?_|refine RNs.cons (.lsl rfl rfl) ?_|refine RNs.cons (.lsl rfl (by simp only [List.length_set])) ?_|refine RNs.cons (.lptr rfl) ?_|refine RNs.cons (.nil rfl) ?_|refine RNs.cons .nl ?_|refine RNs.cons (.keep (by simp only [h19]) rfl) ?_|refine RNs.cons (.tuple' ?_) ?_|refine RNs.cons (.agg' ?_) ?_)))
        · try dsimp only
          exact Wk.ren [some 0] rfl (.rows .nil rfl rfl) (by (repeat (first|exact RNs.nil|refine RNs.cons .junk ?_|refine RNs.cons (.keep rfl rfl) ?_|refine RNs.cons (.lsl rfl rfl) ?_|refine RNs.cons (.lsl rfl (by simp only [List.length_set])) ?_|refine RNs.cons (.lptr rfl) ?_|refine RNs.cons (.nil rfl) ?_|refine RNs.cons .nl ?_|refine RNs.cons (.keep (by simp only [h19]) rfl) ?_|refine RNs.cons (.tuple' ?_) ?_|refine RNs.cons (.agg' ?_) ?_)))
      · rw [if_neg (by rw [h19];exact Bool.false_ne_true)] at hr
        repeat (first|with_reducible refine mv ?_|((with_reducible apply TX.cond_false);(focus rfl);(focus ((simp only [z1,h19];done)))))
        cases hr
        refine ⟨rfl,?_⟩
        exact Wk.ren [some 0] rfl (.rows .nil rfl rfl) (by (repeat (first|exact RNs.nil|refine RNs.cons .junk ?_|refine RNs.cons (.keep rfl rfl) ?_|refine RNs.cons (.lsl rfl rfl) ?_|refine RNs.cons (.lsl rfl (by simp only [List.length_set])) ?_|refine RNs.cons (.lptr rfl) ?_|refine RNs.cons (.nil rfl) ?_|refine RNs.cons .nl ?_|refine RNs.cons (.keep (by simp only [h19]) rfl) ?_|refine RNs.cons (.tuple' ?_) ?_|refine RNs.cons (.agg' ?_) ?_)))
    · intro e h;cases h
    · try dsimp only
      repeat (first|(with_reducible first|refine mv ?_|refine TO.nil ?_)|((with_reducible first|apply TO.mv|apply TO.asg);(repeat (focus (show _ = _;first|exact k2 rfl|(simp only [zz]<;>exact rfl))));(with_reducible apply TO.here))|((with_reducible apply TX.region);(focus (simp only []<;>exact rfl));(focus rfl);(try dsimp only)))
      cases hr
      refine ⟨.inr rfl,_,(by simp only [];exact rfl),?_⟩
      exact wr [some 0] rfl (.rows .nil rfl rfl)
    · try dsimp only
      exact wr [some 0] rfl (.rows .nil rfl rfl)
  rfl

end Go.Rex

namespace Go.Rex
open Go.Proofs
open Go Go.Rex Go.RowKit
set_option maxRecDepth 100000
def circV : List Value:=circT.flatMap fun p=>[.int .i64 p.1,.int .i64 p.2]
theorem flat_ii : ∀ l : List (Int × Int),(l.map e_ii).flatten = (l.flatMap fun p=>[Value.int .i64 p.1,.int .i64 p.2]).map TV.v
  | []=>rfl
  | p :: t=>by simp only [List.map_cons,List.flatten_cons,List.flatMap_cons,List.map_append,flat_ii t];rfl
theorem follows : Try.prog.follows .mixedOrders = true:=by decide +kernel
theorem circ_res : ResOk Try.prog 72 (tabRes 2 circV 1025):=by
  have h:=loop_newCircle_spec newCircle_T
  rw [← List.length_map (f:=e_ii)] at h
  have:=res_of_spec follows h (flat_ii _) (fun v hv=>by
    simp only [List.mem_flatMap,List.mem_cons,List.not_mem_nil,or_false] at hv
    obtain ⟨p,_,rfl|rfl⟩:=hv<;>rfl) (fun he=>by
    have h1:=congrArg List.length he
    rw [List.length_map,circ_len] at h1
    cases h1)
  rw [List.length_map,circ_len] at this
  exact this
theorem awake_true : AwT Try.prog 14:=awT_of_ecallO follows circ_res (k:=2000) (d:=60) (by decide +kernel)

end Go.Rex
