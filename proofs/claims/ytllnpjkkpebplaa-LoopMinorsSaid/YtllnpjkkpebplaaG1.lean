/- Proofs that the program's functions do what these plain functions say. -/
import Derived.Test.YtllnpjkkpebplaaGB
import Derived.Test.YtllnpjkkpebplaaS
set_option linter.unusedSimpArgs false
set_option linter.unusedVariables false
set_option linter.defProp false
namespace Go.Rex
open Go.Proofs
open Go Go.Rex Go.RowKit
set_option maxRecDepth 100000
set_option maxHeartbeats 200000
def y1:=an @ag22 <| an @ag81 <| an @cs22 <| an @fd83_0 <| an @ok22 <| an @so22 <| an @so81 <| @wi64_0a1
theorem law08_Small_spec {v1 : (List (List Int))} {v2 : Bool} (hr : law08_Small v1 = some (v2)) : Spec (lim Try.prog) 52 [.agg [.list 1 (v1.map e_Li_)]] ⟨[.v (.bool v2)],[]⟩:=by
  unfold law08_Small at hr
  apply Spec.fn Try.func52 rfl
  focus (simp [Try.f52]<;>exact rfl)
  focus
    repeat (first|(with_reducible first|refine mv ?_|refine TO.nil ?_)|((with_reducible first|apply TO.bf|apply TO.asg|apply TO.fa|apply TO.ld|apply TO.len|apply TO.bin);(repeat (focus (show _ = _;first|exact k1 rfl|exact k2 rfl|(simp only [zz,y1,Nat.reduceAdd,tfieldAddr,tload,rowOf,partT,tlen]<;>exact rfl)|exact rfl)));(with_reducible apply TO.here))|((with_reducible apply TX.region);(focus (simp only []<;>exact rfl));(focus rfl);(try dsimp only)))
    rcases Bool.eq_false_or_eq_true ((decide ((v1.length : Int) > 6))) with h1|h1
    · rw [if_pos h1] at hr
      repeat (first|(with_reducible first|refine mv ?_|refine TO.nil ?_)|((with_reducible apply TO.asg);(repeat (focus (show _ = _;first|exact k2 rfl|(simp only [zz,h1]<;>exact rfl))));(with_reducible apply TO.here))|((with_reducible apply TX.region);(focus (simp only []<;>exact rfl));(focus rfl);(try dsimp only))|((with_reducible apply TX.cond_true);(focus rfl);(focus ((simp only [z1,h1];done)))))
      cases hr
      refine ⟨.inr rfl,_,(by simp only [];exact rfl),?_⟩
      exact Wk.ren [] rfl .nil (by (repeat (first|exact RNs.nil|refine RNs.cons .junk ?_|refine RNs.cons (.keep rfl rfl) ?_|refine RNs.cons (.lsl rfl rfl) ?_|refine RNs.cons (.lsl rfl (by simp only [List.length_set])) ?_|refine RNs.cons (.lptr rfl) ?_|refine RNs.cons (.nil rfl) ?_|refine RNs.cons .nl ?_|refine RNs.cons (.keep (by simp only [h1]) rfl) ?_|refine RNs.cons (.tuple' ?_) ?_|refine RNs.cons (.agg' ?_) ?_)))
    · rw [if_neg (by rw [h1];exact Bool.false_ne_true)] at hr
      repeat (first|(with_reducible first|refine mv ?_|refine TO.nil ?_)|((with_reducible apply TO.asg);(repeat (focus (show _ = _;first|exact k2 rfl|(simp only [zz,h1]<;>exact rfl))));(with_reducible apply TO.here))|((with_reducible apply TX.region);(focus (simp only []<;>exact rfl));(focus rfl);(try dsimp only))|((with_reducible apply TX.cond_false);(focus rfl);(focus ((simp only [z1,h1];done)))))
      obtain ⟨v6,h8,hr⟩:=Option.bind_eq_some_iff.1 hr
      refine TX.loopE (step:=law08_Small_l1 v1) (x:=0) h8 (fun v3=>⟨.junk :: .fptr true [.list 1 (v1.map e_Li_)] 0 :: .junk :: .v (.int .i64 v3) :: .junk :: .junk :: .junk :: .junk :: .junk :: .junk :: .junk :: .junk :: .junk :: .junk :: .junk :: .junk :: .junk :: .junk :: .junk :: .junk :: .junk :: .junk :: [],[]⟩) (fun e=>match e with|(.inl _)=>(.ret,⟨.junk :: .junk :: .v (.bool false) :: .junk :: .junk :: .junk :: .junk :: .junk :: .junk :: .junk :: .junk :: .junk :: .junk :: .junk :: .junk :: .junk :: .junk :: .junk :: .junk :: .junk :: .junk :: .junk :: [],[]⟩)|(.inr _)=>(.exit 0,⟨.junk :: .junk :: .junk :: .junk :: .junk :: .junk :: .junk :: .junk :: .junk :: .junk :: .junk :: .junk :: .junk :: .junk :: .junk :: .junk :: .junk :: .junk :: .junk :: .junk :: .junk :: .junk :: [],[]⟩)) ?_ ?_ ?_ ?_
      · rintro v3 v0 hr
        dsimp only [law08_Small_l1] at hr
        try dsimp only
        repeat (first|(with_reducible first|refine mv ?_|refine TO.nil ?_)|((with_reducible first|apply TO.mv|apply TO.fa|apply TO.ld|apply TO.len|apply TO.bin);(repeat (focus (show _ = _;first|exact k2 rfl|(simp only [zz,y1,Nat.reduceAdd,tfieldAddr,tload,rowOf,partT,tlen]<;>exact rfl)|exact rfl)));(with_reducible apply TO.here))|((with_reducible apply TX.region);(focus (simp only []<;>exact rfl));(focus rfl);(try dsimp only)))
        rcases Bool.eq_false_or_eq_true ((decide (v3 < (v1.length : Int)))) with h5|h5
        · rw [if_pos h5] at hr
          repeat (first|with_reducible refine mv ?_|((with_reducible first|apply TO.fa|apply TO.ld|apply TO.mv);(repeat (focus (show _ = _;first|exact k2 rfl|(simp only [zz,y1,Nat.reduceAdd,tfieldAddr,tload,rowOf,partT,h5]<;>exact rfl)|exact rfl)));(with_reducible apply TO.here))|((with_reducible apply TX.region);(focus (simp only []<;>exact rfl));(focus rfl);(try dsimp only))|((with_reducible apply TX.cond_true);(focus rfl);(focus ((simp only [z1,h5];done)))))
          obtain ⟨v5,h6,hr⟩:=Option.bind_eq_some_iff.1 hr
          try dsimp only at hr
          have h6m:=tidx_map (f:=e_Li_) h6
          have h6l:=getI_lt h6
          try simp only [List.length_set] at h6l
          have h6a:=getI_at h6
          repeat (first|(with_reducible first|refine mv ?_|refine TO.nil ?_)|((with_reducible first|apply TO.ia|apply TO.ld|apply TO.len|apply TO.bin);(repeat (focus (show _ = _;first|exact k2 rfl|(simp only [zz,y1,e_Li_,tindexAddr,tload,rowOf,partT,tlen,h6m]<;>exact rfl)|exact rfl)));(with_reducible apply TO.here)))
          rcases Bool.eq_false_or_eq_true ((decide ((v5.length : Int) > 6))) with h7|h7
          · rw [if_pos h7] at hr
            repeat (first|(with_reducible first|refine mv ?_|refine TO.nil ?_)|((with_reducible apply TO.asg);(repeat (focus (show _ = _;first|exact k2 rfl|(simp only [zz,h7]<;>exact rfl))));(with_reducible apply TO.here))|((with_reducible apply TX.region);(focus (simp only []<;>exact rfl));(focus rfl);(try dsimp only))|((with_reducible apply TX.cond_true);(focus rfl);(focus ((simp only [z1,h7];done)))))
            cases hr
            refine ⟨rfl,?_⟩
            exact Wk.ren [] rfl .nil (by (repeat (first|exact RNs.nil|refine RNs.cons .junk ?_|refine RNs.cons (.keep rfl rfl) ?_|refine RNs.cons (.lsl rfl rfl) ?_|refine RNs.cons (.lsl rfl (by simp only [List.length_set])) ?_|refine RNs.cons (.lptr rfl) ?_|refine RNs.cons (.nil rfl) ?_|refine RNs.cons .nl ?_|refine RNs.cons (.keep (by simp only [h1,h5,h7]) rfl) ?_|refine RNs.cons (.tuple' ?_) ?_|refine RNs.cons (.agg' ?_) ?_)))
          · rw [if_neg (by rw [h7];exact Bool.false_ne_true)] at hr
            repeat (first|(with_reducible first|refine mv ?_|refine TO.nil ?_)|((with_reducible first|apply TO.mv|apply TO.bin|apply TO.asg);(repeat (focus (show _ = _;first|exact k2 rfl|(simp only [zz,h7]<;>exact rfl))));(with_reducible apply TO.here))|((with_reducible apply TX.region);(focus (simp only []<;>exact rfl));(focus rfl);(try dsimp only))|((with_reducible apply TX.cond_false);(focus rfl);(focus ((simp only [z1,h7];done)))))
            cases hr
            refine ⟨rfl,?_⟩
            exact Wk.ren [] rfl .nil (by (repeat (first|exact RNs.nil|refine RNs.cons .junk ?_|refine RNs.cons (.keep rfl rfl) ?_|refine RNs.cons (.lsl rfl rfl) ?_|refine RNs.cons (.lsl rfl (by simp only [List.length_set])) ?_|refine RNs.cons (.lptr rfl) ?_|refine RNs.cons (.nil rfl) ?_|refine RNs.cons .nl ?_|refine RNs.cons (.keep (by simp only [h1,h5,h7]) rfl) ?_|refine RNs.cons (.tuple' ?_) ?_|refine RNs.cons (.agg' ?_) ?_)))
        · rw [if_neg (by rw [h5];exact Bool.false_ne_true)] at hr
          repeat (first|with_reducible refine mv ?_|((with_reducible apply TX.cond_false);(focus rfl);(focus ((simp only [z1,h5];done)))))
          cases hr
          refine ⟨rfl,?_⟩
          exact Wk.ren [] rfl .nil (by (repeat (first|exact RNs.nil|refine RNs.cons .junk ?_|refine RNs.cons (.keep rfl rfl) ?_|refine RNs.cons (.lsl rfl rfl) ?_|refine RNs.cons (.lsl rfl (by simp only [List.length_set])) ?_|refine RNs.cons (.lptr rfl) ?_|refine RNs.cons (.nil rfl) ?_|refine RNs.cons .nl ?_|refine RNs.cons (.keep (by simp only [h1,h5]) rfl) ?_|refine RNs.cons (.tuple' ?_) ?_|refine RNs.cons (.agg' ?_) ?_)))
      · intro e h;rcases e with _|e<;>cases h
      · try dsimp only
        rcases v6 with _|_
        · try dsimp only at hr
          try dsimp only
          repeat (first|with_reducible refine mv ?_)
          cases hr
          refine ⟨.inr rfl,_,(by simp only [];exact rfl),?_⟩
          exact Wk.ren [] rfl .nil (by (repeat (first|exact RNs.nil|refine RNs.cons .junk ?_|refine RNs.cons (.keep rfl rfl) ?_|refine RNs.cons (.lsl rfl rfl) ?_|refine RNs.cons (.lsl rfl (by simp only [List.length_set])) ?_|refine RNs.cons (.lptr rfl) ?_|refine RNs.cons (.nil rfl) ?_|refine RNs.cons .nl ?_|refine RNs.cons (.keep (by simp only [h1]) rfl) ?_|refine RNs.cons (.tuple' ?_) ?_|refine RNs.cons (.agg' ?_) ?_)))
        · try dsimp only at hr
          try dsimp only
          repeat (first|(with_reducible first|refine mv ?_|refine TO.nil ?_)|((with_reducible apply TO.asg);(repeat (focus (show _ = _;first|exact k2 rfl|(simp only [zz]<;>exact rfl))));(with_reducible apply TO.here))|((with_reducible apply TX.region);(focus (simp only []<;>exact rfl));(focus rfl);(try dsimp only)))
          cases hr
          refine ⟨.inr rfl,_,(by simp only [];exact rfl),?_⟩
          exact Wk.ren [] rfl .nil (by (repeat (first|exact RNs.nil|refine RNs.cons .junk ?_|refine RNs.cons (.keep rfl rfl) ?_|refine RNs.cons (.lsl rfl rfl) ?_|refine RNs.cons (.lsl rfl (by simp only [List.length_set])) ?_|refine RNs.cons (.lptr rfl) ?_|refine RNs.cons (.nil rfl) ?_|refine RNs.cons .nl ?_|refine RNs.cons (.keep (by simp only [h1]) rfl) ?_|refine RNs.cons (.tuple' ?_) ?_|refine RNs.cons (.agg' ?_) ?_)))
      · try dsimp only
        exact Wk.ren [] rfl .nil (by (repeat (first|exact RNs.nil|refine RNs.cons .junk ?_|refine RNs.cons (.keep rfl rfl) ?_|refine RNs.cons (.lsl rfl rfl) ?_|refine RNs.cons (.lsl rfl (by simp only [List.length_set])) ?_|refine RNs.cons (.lptr rfl) ?_|refine RNs.cons (.nil rfl) ?_|refine RNs.cons .nl ?_|refine RNs.cons (.keep (by simp only [h1]) rfl) ?_|refine RNs.cons (.tuple' ?_) ?_|refine RNs.cons (.agg' ?_) ?_)))
  rfl

end Go.Rex

namespace Go.Rex
open Go.Proofs
open Go Go.Rex Go.RowKit
set_option maxRecDepth 100000
set_option maxHeartbeats 200000
def y2:=an @by3 <| an @cs3 <| an @ni22 <| an @so22 <| @zc3
theorem base_CopyInts_spec {v1 : (List Int)} {v2 : (List Int)} (hr : base_CopyInts v1 = some (v2)) : Spec (lim Try.prog) 45 [.list 1 (v1.map e_i)] ⟨[.lsl 0 0 v2.length],[.rows 1 (v2.map e_i)]⟩:=by
  unfold base_CopyInts at hr
  apply Spec.fn Try.func45 rfl
  focus (simp [Try.f45]<;>exact rfl)
  focus
    repeat (first|(with_reducible first|refine mv ?_|refine TO.nil ?_)|((with_reducible apply TO.asg);(repeat (focus (show _ = _;first|exact k2 rfl|(simp only [zz]<;>exact rfl))));(with_reducible apply TO.here))|((with_reducible apply TX.region);(focus (simp only []<;>exact rfl));(focus rfl);(try dsimp only)))
    apply TO.bl e_i ([] : List Int) (by first|rfl|(simp only [twant,z1,zp,zs];done)) rfl (by simp only [zz,y2,Nat.reduceAdd,Nat.reduceMul,tslice,tparts];exact rfl) rfl rfl
    (repeat (focus (show _ = _;(simp only [zz]<;>exact rfl))))
    with_reducible apply TO.here
    repeat (first|((with_reducible apply TO.mv);(repeat (focus (show _ = _;first|exact k2 rfl|(simp only [zz]<;>exact rfl))));(with_reducible apply TO.here)))
    obtain ⟨v3,h1,hr⟩:=Option.bind_eq_some_iff.1 hr
    try dsimp only at hr
    apply TO.ap (f:=e_i) (xs:=([] : List Int)) (ys:=v1) (by first|rfl|(simp only [twant,z1,zp,zs];done)) rfl rfl (by first|rfl|simp only [List.length_set]) rfl rfl so22 ni22 zc3 rfl (by rw [by3];exact h1) (fun _=>⟨rfl,rfl,rfl⟩)
    (repeat (focus (show _ = _;(simp only [zz,Nat.reduceAdd,kill,killB]<;>exact rfl))))
    with_reducible apply TO.here
    repeat (first|(with_reducible first|refine mv ?_|refine TO.nil ?_)|((with_reducible apply TO.asg);(repeat (focus (show _ = _;first|exact k2 rfl|(simp only [zz]<;>exact rfl))));(with_reducible apply TO.here)))
    cases hr
    refine ⟨.inr rfl,_,(by simp only [];exact rfl),?_⟩
    exact wr [some 0] rfl (.rows .nil rfl rfl)
  rfl

end Go.Rex

namespace Go.Rex
open Go.Proofs
open Go Go.Rex Go.RowKit
set_option maxRecDepth 100000
set_option maxHeartbeats 200000
def y3:=an @ag22 <| an @by22 <| an @cs22 <| an @ni81 <| an @ok22 <| an @so81 <| an @zc22 <| @wi64_0a1
theorem base_CopyLists_spec {v1 : (List (List Int))} {v2 : (List (List Int))} (hr : base_CopyLists v1 = some (v2)) : Spec (lim Try.prog) 93 [.list 1 (v1.map e_Li_)] ⟨[.lsl 0 0 v2.length],[.rows 1 (v2.map e_Li_)]⟩:=by
  unfold base_CopyLists at hr
  apply Spec.fn Try.func93 rfl
  focus (simp [Try.f93]<;>exact rfl)
  focus
    repeat (first|(with_reducible first|refine mv ?_|refine TO.nil ?_)|((with_reducible apply TO.asg);(repeat (focus (show _ = _;first|exact k2 rfl|(simp only [zz]<;>exact rfl))));(with_reducible apply TO.here))|((with_reducible apply TX.region);(focus (simp only []<;>exact rfl));(focus rfl);(try dsimp only)))
    apply TX.vt (α:=(List Int)) e_Li_ 3 1 rfl
    (repeat (focus (show _ = _;(simp only [zz]<;>exact rfl))))
    with_reducible apply TX.here
    obtain ⟨v12,h9,hr⟩:=Option.bind_eq_some_iff.1 hr
    try dsimp only at hr
    refine TX.loopE (step:=base_CopyLists_l1 v1) (x:=(([] : List (List Int)),0)) h9 (fun (v3,v4)=>⟨.list 1 (v1.map e_Li_) :: .junk :: .junk :: .lsl 0 0 v3.length :: .v (.int .i64 v4) :: .junk :: .junk :: .junk :: .junk :: .junk :: .junk :: .junk :: .junk :: .junk :: .junk :: .junk :: .junk :: .junk :: .junk :: .junk :: [],[.rows 1 (v3.map e_Li_)]⟩) (fun v8=>(.exit 0,⟨.junk :: .junk :: .junk :: .lsl 0 0 v8.length :: .junk :: .junk :: .junk :: .junk :: .junk :: .junk :: .junk :: .junk :: .junk :: .junk :: .junk :: .junk :: .junk :: .junk :: .junk :: .junk :: [],[.rows 1 (v8.map e_Li_)]⟩)) ?_ ?_ ?_ ?_
    · rintro ⟨v3,v4⟩ v0 hr
      dsimp only [base_CopyLists_l1] at hr
      try dsimp only
      repeat (first|(with_reducible first|refine mv ?_|refine TO.nil ?_)|((with_reducible first|apply TO.mv|apply TO.len|apply TO.bin);(repeat (focus (show _ = _;first|exact k2 rfl|(simp only [zz,y3,tlen]<;>exact rfl))));(with_reducible apply TO.here))|((with_reducible apply TX.region);(focus (simp only []<;>exact rfl));(focus rfl);(try dsimp only)))
      rcases Bool.eq_false_or_eq_true ((decide (v4 < (v1.length : Int)))) with h5|h5
      · rw [if_pos h5] at hr
        repeat (first|with_reducible refine mv ?_|((with_reducible apply TO.mv);(repeat (focus (show _ = _;first|exact k2 rfl|(simp only [zz,h5]<;>exact rfl))));(with_reducible apply TO.here))|((with_reducible apply TX.region);(focus (simp only []<;>exact rfl));(focus rfl);(try dsimp only))|((with_reducible apply TX.cond_true);(focus rfl);(focus ((simp only [z1,h5];done)))))
        obtain ⟨v9,h6,hr⟩:=Option.bind_eq_some_iff.1 hr
        try dsimp only at hr
        have h6m:=tidx_map (f:=e_Li_) h6
        have h6l:=getI_lt h6
        try simp only [List.length_set] at h6l
        have h6a:=getI_at h6
        repeat (first|((with_reducible first|apply TO.ia|apply TO.ld);(repeat (focus (show _ = _;first|exact k2 rfl|(simp only [zz,y3,e_Li_,tindexAddr,tload,rowOf,partT,h6m]<;>exact rfl)|exact rfl)));(with_reducible apply TO.here)))
        obtain ⟨v10,h7,hr⟩:=Option.bind_eq_some_iff.1 hr
        try dsimp only at hr
        apply TO.cal (by first|rfl|(simp only [twant,z1,zp,zs,h5,h6m,h6l,h6a];done)) rfl goFn45 (base_CopyInts_spec h7) rfl rfl rfl
        (repeat (focus (show _ = _;(simp only [zz,Nat.reduceAdd,shift]<;>exact rfl))))
        with_reducible apply TO.here
        apply TO.frz 1 rfl rfl
        (repeat (focus (show _ = _;(simp only [zz,Nat.reduceEqDiff,frz,frzB,tmlc]<;>exact rfl))))
        with_reducible apply TO.here
        apply TO.bm e_Li_ ([v10] : List (List Int)) (by first|rfl|(simp only [twant,z1,zp,zs,h5,h6m,h6l,h6a];done)) rfl (by simp only [zz,y3,e_Li_,Nat.reduceAdd,Nat.reduceMul,tslice,tparts];exact rfl) rfl
        (repeat (focus (show _ = _;(simp only [zz,e_Li_]<;>exact rfl))))
        with_reducible apply TO.here
        obtain ⟨v11,h8,hr⟩:=Option.bind_eq_some_iff.1 hr
        try dsimp only at hr
        apply TO.ap (f:=e_Li_) (xs:=v3) (ys:=([v10] : List (List Int))) (by first|rfl|(simp only [twant,z1,zp,zs,h5,h6m,h6l,h6a];done)) rfl rfl (by first|rfl|simp only [List.length_set]) rfl rfl so81 ni81 zc22 rfl (by rw [by22];exact h8) (fun _=>⟨rfl,rfl,rfl⟩)
        (repeat (focus (show _ = _;(simp only [zz,Nat.reduceAdd,kill,killB]<;>exact rfl))))
        with_reducible apply TO.here
        repeat (first|(with_reducible first|refine mv ?_|refine TO.nil ?_)|((with_reducible first|apply TO.asg|apply TO.mv|apply TO.bin);(repeat (focus (show _ = _;first|exact k2 rfl|(simp only [zz]<;>exact rfl))));(with_reducible apply TO.here))|((with_reducible apply TX.region);(focus (simp only []<;>exact rfl));(focus rfl);(try dsimp only)))
        cases hr
        refine ⟨rfl,?_⟩
        exact Wk.ren [some 0] rfl (.rows .nil rfl rfl) (by (repeat (first|exact RNs.nil|refine RNs.cons .junk ?_|refine RNs.cons (.keep rfl rfl) ?_|refine RNs.cons (.lsl rfl rfl) ?_|refine RNs.cons (.lsl rfl (by simp only [List.length_set])) ?_|refine RNs.cons (.lptr rfl) ?_|refine RNs.cons (.nil rfl) ?_|refine RNs.cons .nl ?_|refine RNs.cons (.keep (by simp only [h5]) rfl) ?_|refine RNs.cons (.tuple' ?_) ?_|refine RNs.cons (.agg' ?_) ?_)))
      · rw [if_neg (by rw [h5];exact Bool.false_ne_true)] at hr
        repeat (first|with_reducible refine mv ?_|((with_reducible apply TX.cond_false);(focus rfl);(focus ((simp only [z1,h5];done)))))
        cases hr
        refine ⟨rfl,?_⟩
        exact Wk.ren [some 0] rfl (.rows .nil rfl rfl) (by (repeat (first|exact RNs.nil|refine RNs.cons .junk ?_|refine RNs.cons (.keep rfl rfl) ?_|refine RNs.cons (.lsl rfl rfl) ?_|refine RNs.cons (.lsl rfl (by simp only [List.length_set])) ?_|refine RNs.cons (.lptr rfl) ?_|refine RNs.cons (.nil rfl) ?_|refine RNs.cons .nl ?_|refine RNs.cons (.keep (by simp only [h5]) rfl) ?_|refine RNs.cons (.tuple' ?_) ?_|refine RNs.cons (.agg' ?_) ?_)))
    · intro e h;cases h
    · try dsimp only
      repeat (first|(with_reducible first|refine mv ?_|refine TO.nil ?_)|((with_reducible first|apply TO.mv|apply TO.asg);(repeat (focus (show _ = _;first|exact k2 rfl|(simp only [zz]<;>exact rfl))));(with_reducible apply TO.here))|((with_reducible apply TX.region);(focus (simp only []<;>exact rfl));(focus rfl);(try dsimp only)))
      cases hr
      refine ⟨.inr rfl,_,(by simp only [];exact rfl),?_⟩
      exact wr [some 0] rfl (.rows .nil rfl rfl)
    · try dsimp only
      exact wr [some 0] rfl (.rows .nil rfl rfl)
  rfl

end Go.Rex

namespace Go.Rex
open Go.Proofs
open Go Go.Rex Go.RowKit
set_option maxRecDepth 100000
set_option maxHeartbeats 200000
def y4:=an @ag81 <| an @ag83 <| an @cs83 <| an @fd83_0 <| an @ok83 <| an @st83 <| @zc83
theorem ref08_CopyLines_spec {v1 : (List (List Int))} {v2 : (List (List Int))} (hr : ref08_CopyLines v1 = some (v2)) : Spec (lim Try.prog) 54 [.agg [.list 1 (v1.map e_Li_)]] ⟨[.agg [.lsl 0 0 v2.length]],[.rows 1 (v2.map e_Li_)]⟩:=by
  unfold ref08_CopyLines at hr
  apply Spec.fn Try.func54 rfl
  focus (simp [Try.f54]<;>exact rfl)
  focus
    repeat (first|(with_reducible first|refine mv ?_|refine TO.nil ?_)|((with_reducible first|apply TO.bf|apply TO.al|apply TO.fa|apply TO.ld);(repeat (focus (show _ = _;first|exact k1 rfl|exact k2 rfl|(simp only [zz,y4,Nat.reduceAdd,tfieldAddr,tload,rowOf,partT]<;>exact rfl)|exact rfl)));(with_reducible apply TO.here))|((with_reducible apply TX.region);(focus (simp only []<;>exact rfl));(focus rfl);(try dsimp only)))
    obtain ⟨v3,h1,hr⟩:=Option.bind_eq_some_iff.1 hr
    try dsimp only at hr
    apply TO.cal (by first|rfl|(simp only [twant,z1,zp,zs];done)) rfl goFn93 (base_CopyLists_spec h1) rfl rfl rfl
    (repeat (focus (show _ = _;(simp only [zz,Nat.reduceAdd,shift]<;>exact rfl))))
    with_reducible apply TO.here
    repeat (first|(with_reducible first|refine mv ?_|refine TO.nil ?_)|((with_reducible first|apply TO.bld|apply TO.sv);(repeat (focus (show _ = _;first|exact k1 rfl|exact k2 rfl|(simp only [zz,y4,Nat.reduceAdd,Nat.reduceLeDiff,tbuild,tfill]<;>exact rfl))));(with_reducible apply TO.here)))
    cases hr
    refine ⟨.inr rfl,_,(by simp only [];exact rfl),?_⟩
    exact wr [some 1] rfl (.rows .nil rfl rfl)
  rfl

end Go.Rex

namespace Go.Rex
open Go.Proofs
open Go Go.Rex Go.RowKit
set_option maxRecDepth 100000
set_option maxHeartbeats 200000
theorem loop_counted_spec {v1 : Int} {v2 : Int} {v3 : Int} {v4 : Int} (hr : loop_counted v1 v2 = some (v3,v4)) : Spec (lim Try.prog) 99 [.v (.int .i64 v1),.v (.int .i64 v2)] ⟨[.func 133 [] [.fptr true [.v (.int .i64 v3)] 0,.fptr true [.v (.int .i64 v4)] 0]],[]⟩:=by
  unfold loop_counted at hr
  apply Spec.fn Try.func99 rfl
  focus (simp [Try.f99]<;>exact rfl)
  focus
    repeat (first|(with_reducible first|refine mv ?_|refine TO.nil ?_)|((with_reducible first|apply TO.bf|apply TO.asg|apply TO.mf);(repeat (focus (show _ = _;first|exact k1 rfl|exact k2 rfl|(simp only [zz]<;>exact rfl)|exact rfl)));(with_reducible apply TO.here))|((with_reducible apply TX.region);(focus (simp only []<;>exact rfl));(focus rfl);(try dsimp only)))
    cases hr
    refine ⟨.inr rfl,_,(by simp only [];exact rfl),?_⟩
    exact wr [] rfl .nil
  rfl

end Go.Rex

namespace Go.Rex
open Go.Proofs
open Go Go.Rex Go.RowKit
set_option maxRecDepth 100000
set_option maxHeartbeats 200000
theorem loop_each_76a3_spec {v1 : Int} {v2 : (List (List Int))} {v3 : Int} {v4 : (List (List Int))} (hr : loop_each_76a3 v1 v2 = some (v3,v4)) : Spec (lim Try.prog) 116 [.v (.int .i64 v1),.func 124 [] [.fptr true [.list 1 (v2.map e_Li_)] 0]] ⟨[.func 139 [] [.fptr true [.v (.int .i64 v3)] 0,.fptr true [.func 124 [] [.fptr true [.list 1 (v4.map e_Li_)] 0]] 0]],[]⟩:=by
  unfold loop_each_76a3 at hr
  apply Spec.fn Try.func116 rfl
  focus (simp [Try.f116]<;>exact rfl)
  focus
    repeat (first|(with_reducible first|refine mv ?_|refine TO.nil ?_)|((with_reducible first|apply TO.bf|apply TO.asg|apply TO.mf);(repeat (focus (show _ = _;first|exact k1 rfl|exact k2 rfl|(simp only [zz]<;>exact rfl)|exact rfl)));(with_reducible apply TO.here))|((with_reducible apply TX.region);(focus (simp only []<;>exact rfl));(focus rfl);(try dsimp only)))
    cases hr
    refine ⟨.inr rfl,_,(by simp only [];exact rfl),?_⟩
    exact wr [] rfl .nil
  rfl

end Go.Rex

namespace Go.Rex
open Go.Proofs
open Go Go.Rex Go.RowKit
set_option maxRecDepth 100000
set_option maxHeartbeats 200000
theorem loop_refuse_spec {v1 : Bool} {v2 : Int} {v3 : Bool} {v4 : Int} (hr : loop_refuse v1 v2 = some (v3,v4)) : Spec (lim Try.prog) 82 [.v (.bool v1),.v (.int .i64 v2)] ⟨[.func 113 [] [.fptr true [.v (.bool v3)] 0,.fptr true [.v (.int .i64 v4)] 0]],[]⟩:=by
  unfold loop_refuse at hr
  apply Spec.fn Try.func82 rfl
  focus (simp [Try.f82]<;>exact rfl)
  focus
    repeat (first|(with_reducible first|refine mv ?_|refine TO.nil ?_)|((with_reducible first|apply TO.bf|apply TO.asg|apply TO.mf);(repeat (focus (show _ = _;first|exact k1 rfl|exact k2 rfl|(simp only [zz]<;>exact rfl)|exact rfl)));(with_reducible apply TO.here))|((with_reducible apply TX.region);(focus (simp only []<;>exact rfl));(focus rfl);(try dsimp only)))
    cases hr
    refine ⟨.inr rfl,_,(by simp only [];exact rfl),?_⟩
    exact wr [] rfl .nil
  rfl

end Go.Rex

namespace Go.Rex
open Go.Proofs
open Go Go.Rex Go.RowKit
set_option maxRecDepth 100000
set_option maxHeartbeats 200000
def y5:=an @ag27 <| @ag4
theorem loop_refuse_c1_11f9_spec {v1 : Bool} {v2 : Int} {v3 : Int} (hr : loop_refuse_c1_11f9 v1 v2 = some (v3)) : Spec (lim Try.prog) 113 [.fptr true [.v (.bool v1)] 0,.fptr true [.v (.int .i64 v2)] 0] ⟨[.v (.int .i64 v3)],[]⟩:=by
  unfold loop_refuse_c1_11f9 at hr
  apply Spec.fn Try.func113 rfl
  focus (simp [Try.f113]<;>exact rfl)
  focus
    repeat (first|(with_reducible first|refine mv ?_|refine TO.nil ?_)|((with_reducible first|apply TO.asg|apply TO.ld);(repeat (focus (show _ = _;first|exact k2 rfl|(simp only [zz,y5,tload,rowOf,partT]<;>exact rfl)|exact rfl)));(with_reducible apply TO.here))|((with_reducible apply TX.region);(focus (simp only []<;>exact rfl));(focus rfl);(try dsimp only)))
    rcases Bool.eq_false_or_eq_true (v1) with h1|h1
    · rw [if_pos h1] at hr
      repeat (first|(with_reducible first|refine mv ?_|refine TO.nil ?_)|((with_reducible first|apply TO.ld|apply TO.asg);(repeat (focus (show _ = _;first|exact k2 rfl|(simp only [zz,y5,tload,rowOf,partT,h1]<;>exact rfl)|exact rfl)));(with_reducible apply TO.here))|((with_reducible apply TX.region);(focus (simp only []<;>exact rfl));(focus rfl);(try dsimp only))|((with_reducible apply TX.cond_true);(focus rfl);(focus ((simp only [z1,h1];done)))))
      cases hr
      refine ⟨.inr rfl,_,(by simp only [];exact rfl),?_⟩
      exact Wk.ren [] rfl .nil (by (repeat (first|exact RNs.nil|refine RNs.cons .junk ?_|refine RNs.cons (.keep rfl rfl) ?_|refine RNs.cons (.lsl rfl rfl) ?_|refine RNs.cons (.lsl rfl (by simp only [List.length_set])) ?_|refine RNs.cons (.lptr rfl) ?_|refine RNs.cons (.nil rfl) ?_|refine RNs.cons .nl ?_|refine RNs.cons (.keep (by simp only [h1]) rfl) ?_|refine RNs.cons (.tuple' ?_) ?_|refine RNs.cons (.agg' ?_) ?_)))
    · rw [if_neg (by rw [h1];exact Bool.false_ne_true)] at hr
      repeat (first|(with_reducible first|refine mv ?_|refine TO.nil ?_)|((with_reducible apply TO.asg);(repeat (focus (show _ = _;first|exact k2 rfl|(simp only [zz,h1]<;>exact rfl))));(with_reducible apply TO.here))|((with_reducible apply TX.region);(focus (simp only []<;>exact rfl));(focus rfl);(try dsimp only))|((with_reducible apply TX.cond_false);(focus rfl);(focus ((simp only [z1,h1];done)))))
      cases hr
      refine ⟨.inr rfl,_,(by simp only [];exact rfl),?_⟩
      exact Wk.ren [] rfl .nil (by (repeat (first|exact RNs.nil|refine RNs.cons .junk ?_|refine RNs.cons (.keep rfl rfl) ?_|refine RNs.cons (.lsl rfl rfl) ?_|refine RNs.cons (.lsl rfl (by simp only [List.length_set])) ?_|refine RNs.cons (.lptr rfl) ?_|refine RNs.cons (.nil rfl) ?_|refine RNs.cons .nl ?_|refine RNs.cons (.keep (by simp only [h1]) rfl) ?_|refine RNs.cons (.tuple' ?_) ?_|refine RNs.cons (.agg' ?_) ?_)))
  rfl

end Go.Rex

namespace Go.Rex
open Go.Proofs
open Go Go.Rex Go.RowKit
set_option maxRecDepth 100000
set_option maxHeartbeats 200000
def y6:=an @ag101 <| an @cs101 <| an @ok101 <| an @so133 <| an @wi64_0a1 <| @wi64_1a1
theorem loop_firstError_60c4_spec {v1 : Bool} {v2 : Int} {v3 : Bool} {v4 : Int} {v5 : Int} (hr : loop_firstError_60c4 v1 v2 v3 v4 = some (v5)) : Spec (lim Try.prog) 67 [.list 1 [[.func 113 [] [.fptr true [.v (.bool v1)] 0,.fptr true [.v (.int .i64 v2)] 0]],[.func 113 [] [.fptr true [.v (.bool v3)] 0,.fptr true [.v (.int .i64 v4)] 0]]]] ⟨[.v (.int .i64 v5)],[]⟩:=by
  unfold loop_firstError_60c4 at hr
  apply Spec.fn Try.func67 rfl
  focus (simp [Try.f67]<;>exact rfl)
  focus
    repeat (first|(with_reducible first|refine mv ?_|refine TO.nil ?_)|((with_reducible first|apply TO.asg|apply TO.mv|apply TO.len);(repeat (focus (show _ = _;first|exact k2 rfl|(simp only [zz,y6,Nat.reduceAdd,tlen]<;>exact rfl))));(with_reducible apply TO.here))|((with_reducible apply TX.region);(focus (simp only []<;>exact rfl));(focus rfl);(try dsimp only)))
    refine TX.unroll ?_
    repeat (first|(with_reducible first|refine mv ?_|refine TO.nil ?_)|((with_reducible first|apply TO.bin|apply TO.ia|apply TO.ld|apply TO.asg|apply TO.mv);(repeat (focus (show _ = _;first|exact k2 rfl|(simp only [zz,y6,tindexAddr,z5,Int.reduceLT,Int.cast_ofNat_Int,tload,rowOf,partT]<;>exact rfl)|exact rfl)));(with_reducible apply TO.here))|((with_reducible apply TX.region);(focus (simp only []<;>exact rfl));(focus rfl);(try dsimp only))|((with_reducible apply TX.cond_true);(focus rfl);(focus (rfl))))
    obtain ⟨v6,h1,hr⟩:=Option.bind_eq_some_iff.1 hr
    try dsimp only at hr
    apply TO.cal (by first|rfl|(simp only [twant,z1,zp,zs];done)) rfl goFn113 (loop_refuse_c1_11f9_spec h1) rfl rfl rfl
    (repeat (focus (show _ = _;(simp only [zz,shift]<;>exact rfl))))
    with_reducible apply TO.here
    repeat (first|(with_reducible first|refine mv ?_|refine TO.nil ?_)|((with_reducible first|apply TO.asg|apply TO.mv|apply TO.bin);(repeat (focus (show _ = _;first|exact k2 rfl|(simp only [zz]<;>exact rfl))));(with_reducible apply TO.here))|((with_reducible apply TX.region);(focus (simp only []<;>exact rfl));(focus rfl);(try dsimp only)))
    rcases Bool.eq_false_or_eq_true ((decide (v6 ≠ 0))) with h2|h2
    · rw [if_pos h2] at hr
      repeat (first|(with_reducible first|refine mv ?_|refine TO.nil ?_)|((with_reducible first|apply TO.mv|apply TO.asg);(repeat (focus (show _ = _;first|exact k2 rfl|(simp only [zz,h2]<;>exact rfl))));(with_reducible apply TO.here))|((with_reducible apply TX.region);(focus (simp only []<;>exact rfl));(focus rfl);(try dsimp only))|((with_reducible apply TX.cond_true);(focus rfl);(focus ((simp only [z1,h2];done)))))
      cases hr
      refine ⟨.inr rfl,_,(by simp only [];exact rfl),?_⟩
      exact Wk.ren [] rfl .nil (by (repeat (first|exact RNs.nil|refine RNs.cons .junk ?_|refine RNs.cons (.keep rfl rfl) ?_|refine RNs.cons (.lsl rfl rfl) ?_|refine RNs.cons (.lsl rfl (by simp only [List.length_set])) ?_|refine RNs.cons (.lptr rfl) ?_|refine RNs.cons (.nil rfl) ?_|refine RNs.cons .nl ?_|refine RNs.cons (.keep (by simp only [h2]) rfl) ?_|refine RNs.cons (.tuple' ?_) ?_|refine RNs.cons (.agg' ?_) ?_)))
    · rw [if_neg (by rw [h2];exact Bool.false_ne_true)] at hr
      repeat (first|(with_reducible first|refine mv ?_|refine TO.nil ?_)|((with_reducible first|apply TO.bin|apply TO.mv);(repeat (focus (show _ = _;first|exact k2 rfl|(simp only [zz,y6,h2]<;>exact rfl))));(with_reducible apply TO.here))|((with_reducible apply TX.region);(focus (simp only []<;>exact rfl));(focus rfl);(try dsimp only))|((with_reducible apply TX.cond_false);(focus rfl);(focus ((simp only [z1,h2];done)))))
      refine TX.unroll ?_
      repeat (first|(with_reducible first|refine mv ?_|refine TO.nil ?_)|((with_reducible first|apply TO.bin|apply TO.ia|apply TO.ld|apply TO.asg|apply TO.mv);(repeat (focus (show _ = _;first|exact k2 rfl|(simp only [zz,y6,tindexAddr,z5,Int.reduceLT,tload,rowOf,partT]<;>exact rfl)|exact rfl)));(with_reducible apply TO.here))|((with_reducible apply TX.region);(focus (simp only []<;>exact rfl));(focus rfl);(try dsimp only))|((with_reducible apply TX.cond_true);(focus rfl);(focus (rfl))))
      obtain ⟨v7,h3,hr⟩:=Option.bind_eq_some_iff.1 hr
      try dsimp only at hr
      apply TO.cal (by first|rfl|(simp only [twant,z1,zp,zs,h2];done)) rfl goFn113 (loop_refuse_c1_11f9_spec h3) rfl rfl rfl
      (repeat (focus (show _ = _;(simp only [zz,shift]<;>exact rfl))))
      with_reducible apply TO.here
      repeat (first|(with_reducible first|refine mv ?_|refine TO.nil ?_)|((with_reducible first|apply TO.asg|apply TO.mv|apply TO.bin);(repeat (focus (show _ = _;first|exact k2 rfl|(simp only [zz]<;>exact rfl))));(with_reducible apply TO.here))|((with_reducible apply TX.region);(focus (simp only []<;>exact rfl));(focus rfl);(try dsimp only)))
      rcases Bool.eq_false_or_eq_true ((decide (v7 ≠ 0))) with h4|h4
      · rw [if_pos h4] at hr
        repeat (first|(with_reducible first|refine mv ?_|refine TO.nil ?_)|((with_reducible first|apply TO.mv|apply TO.asg);(repeat (focus (show _ = _;first|exact k2 rfl|(simp only [zz,h4]<;>exact rfl))));(with_reducible apply TO.here))|((with_reducible apply TX.region);(focus (simp only []<;>exact rfl));(focus rfl);(try dsimp only))|((with_reducible apply TX.cond_true);(focus rfl);(focus ((simp only [z1,h4];done)))))
        cases hr
        refine ⟨.inr rfl,_,(by simp only [];exact rfl),?_⟩
        exact Wk.ren [] rfl .nil (by (repeat (first|exact RNs.nil|refine RNs.cons .junk ?_|refine RNs.cons (.keep rfl rfl) ?_|refine RNs.cons (.lsl rfl rfl) ?_|refine RNs.cons (.lsl rfl (by simp only [List.length_set])) ?_|refine RNs.cons (.lptr rfl) ?_|refine RNs.cons (.nil rfl) ?_|refine RNs.cons .nl ?_|refine RNs.cons (.keep (by simp only [h2,h4]) rfl) ?_|refine RNs.cons (.tuple' ?_) ?_|refine RNs.cons (.agg' ?_) ?_)))
      · rw [if_neg (by rw [h4];exact Bool.false_ne_true)] at hr
        repeat (first|(with_reducible first|refine mv ?_|refine TO.nil ?_)|((with_reducible first|apply TO.bin|apply TO.mv);(repeat (focus (show _ = _;first|exact k2 rfl|(simp only [zz,y6,h4]<;>exact rfl))));(with_reducible apply TO.here))|((with_reducible apply TX.region);(focus (simp only []<;>exact rfl));(focus rfl);(try dsimp only))|((with_reducible apply TX.cond_false);(focus rfl);(focus ((simp only [z1,h4];done)))))
        refine TX.unroll ?_
        repeat (first|(with_reducible first|refine mv ?_|refine TO.nil ?_)|((with_reducible first|apply TO.bin|apply TO.asg);(repeat (focus (show _ = _;first|exact k2 rfl|(simp only [zz]<;>exact rfl))));(with_reducible apply TO.here))|((with_reducible apply TX.region);(focus (simp only []<;>exact rfl));(focus rfl);(try dsimp only))|((with_reducible apply TX.cond_false);(focus rfl);(focus (rfl))))
        cases hr
        refine ⟨.inr rfl,_,(by simp only [];exact rfl),?_⟩
        exact Wk.ren [] rfl .nil (by (repeat (first|exact RNs.nil|refine RNs.cons .junk ?_|refine RNs.cons (.keep rfl rfl) ?_|refine RNs.cons (.lsl rfl rfl) ?_|refine RNs.cons (.lsl rfl (by simp only [List.length_set])) ?_|refine RNs.cons (.lptr rfl) ?_|refine RNs.cons (.nil rfl) ?_|refine RNs.cons .nl ?_|refine RNs.cons (.keep (by simp only [h2,h4]) rfl) ?_|refine RNs.cons (.tuple' ?_) ?_|refine RNs.cons (.agg' ?_) ?_)))
  rfl

end Go.Rex

namespace Go.Rex
open Go.Proofs
open Go Go.Rex Go.RowKit
set_option maxRecDepth 100000
set_option maxHeartbeats 200000
def y7:=an @ag3 <| an @cs101 <| an @so133 <| @zc101
theorem loop_counted_c1_b585_spec {v1 : Int} {v2 : Int} {v3 : Int} (hr : loop_counted_c1_b585 v1 v2 = some (v3)) : Spec (lim Try.prog) 133 [.fptr true [.v (.int .i64 v1)] 0,.fptr true [.v (.int .i64 v2)] 0] ⟨[.v (.int .i64 v3)],[]⟩:=by
  unfold loop_counted_c1_b585 at hr
  apply Spec.fn Try.func133 rfl
  focus (simp [Try.f133]<;>exact rfl)
  focus
    repeat (first|(with_reducible first|refine mv ?_|refine TO.nil ?_)|((with_reducible apply TO.asg);(repeat (focus (show _ = _;first|exact k2 rfl|(simp only [zz]<;>exact rfl))));(with_reducible apply TO.here))|((with_reducible apply TX.region);(focus (simp only []<;>exact rfl));(focus rfl);(try dsimp only))|((with_reducible first|apply TD.ld|apply TD.bin);(repeat (focus (show _ = _;first|exact k2 rfl|(simp only [zz,y7,tload,rowOf,partT]<;>exact rfl)|exact rfl)));(with_reducible refine TD.here ?_))|((with_reducible apply TX.drawn);(focus decide +kernel);(focus (simp only []<;>exact rfl));(focus exact rfl);(try dsimp only)))
    obtain ⟨⟨v4,v5⟩,h1,hr⟩:=Option.bind_eq_some_iff.1 hr
    try dsimp only at hr
    first|apply TD.cal (by first|rfl|(simp only [twant,z1,zp,zs];done)) rfl goFn82 (loop_refuse_spec h1) rfl rfl rfl|apply TD.calw (by first|rfl|(simp only [twant,z1,zp,zs];done)) rfl goFn82 (loop_refuse_spec h1) rfl rfl rfl rfl
    (repeat (focus (show _ = _;(simp only [zz,shift]<;>exact rfl))))
    with_reducible apply TD.here
    repeat (first|((with_reducible first|apply TD.ld|apply TD.bin);(repeat (focus (show _ = _;first|exact k2 rfl|(simp only [zz,y7,tload,rowOf,partT]<;>exact rfl)|exact rfl)));(with_reducible refine TD.here ?_)))
    obtain ⟨⟨v6,v7⟩,h2,hr⟩:=Option.bind_eq_some_iff.1 hr
    try dsimp only at hr
    first|apply TD.cal (by first|rfl|(simp only [twant,z1,zp,zs];done)) rfl goFn82 (loop_refuse_spec h2) rfl rfl rfl|apply TD.calw (by first|rfl|(simp only [twant,z1,zp,zs];done)) rfl goFn82 (loop_refuse_spec h2) rfl rfl rfl rfl
    (repeat (focus (show _ = _;(simp only [zz,shift]<;>exact rfl))))
    with_reducible apply TD.here
    repeat (first|((with_reducible apply TD.bs);(repeat (focus (show _ = _;first|exact k2 rfl|(simp only [zz,y7,Nat.reduceAdd,Nat.reduceMul,tslice,tparts]<;>exact rfl)|exact rfl)));(with_reducible refine TD.here ?_)))
    obtain ⟨v8,h3,hr⟩:=Option.bind_eq_some_iff.1 hr
    try dsimp only at hr
    first|apply TD.cal (by first|rfl|(simp only [twant,z1,zp,zs];done)) rfl goFn67 (loop_firstError_60c4_spec h3) rfl rfl rfl|apply TD.calw (by first|rfl|(simp only [twant,z1,zp,zs];done)) rfl goFn67 (loop_firstError_60c4_spec h3) rfl rfl rfl rfl
    (repeat (focus (show _ = _;(simp only [zz,shift]<;>exact rfl))))
    with_reducible apply TD.here
    repeat (first|(with_reducible first|refine mv ?_|refine TD.nil ?_)|((with_reducible apply TD.asg);(repeat (focus (show _ = _;first|exact k2 rfl|(simp only [zz]<;>exact rfl))));(with_reducible refine TD.here ?_)))
    cases hr
    refine ⟨.inr rfl,_,(by simp only [];exact rfl),?_⟩
    exact wr [] rfl .nil
  rfl

end Go.Rex

namespace Go.Rex
open Go.Proofs
open Go Go.Rex Go.RowKit
set_option maxRecDepth 100000
set_option maxHeartbeats 200000
theorem loop_each_2037_spec {v1 : Int} {v2 : (List Int)} {v3 : Int} {v4 : Int} {v5 : Int} {v6 : (List Int)} {v7 : Int} {v8 : Int} (hr : loop_each_2037 v1 v2 v3 v4 = some (v5,v6,v7,v8)) : Spec (lim Try.prog) 116 [.v (.int .i64 v1),.func 134 [] [.fptr true [.list 1 (v2.map e_i)] 0,.fptr true [.v (.int .i64 v3)] 0,.fptr true [.v (.int .i64 v4)] 0]] ⟨[.func 139 [] [.fptr true [.v (.int .i64 v5)] 0,.fptr true [.func 134 [] [.fptr true [.list 1 (v6.map e_i)] 0,.fptr true [.v (.int .i64 v7)] 0,.fptr true [.v (.int .i64 v8)] 0]] 0]],[]⟩:=by
  unfold loop_each_2037 at hr
  apply Spec.fn Try.func116 rfl
  focus (simp [Try.f116]<;>exact rfl)
  focus
    repeat (first|(with_reducible first|refine mv ?_|refine TO.nil ?_)|((with_reducible first|apply TO.bf|apply TO.asg|apply TO.mf);(repeat (focus (show _ = _;first|exact k1 rfl|exact k2 rfl|(simp only [zz]<;>exact rfl)|exact rfl)));(with_reducible apply TO.here))|((with_reducible apply TX.region);(focus (simp only []<;>exact rfl));(focus rfl);(try dsimp only)))
    cases hr
    refine ⟨.inr rfl,_,(by simp only [];exact rfl),?_⟩
    exact wr [] rfl .nil
  rfl

end Go.Rex

namespace Go.Rex
open Go.Proofs
open Go Go.Rex Go.RowKit
set_option maxRecDepth 100000
set_option maxHeartbeats 200000
def y8:=an @ag22 <| @so22
theorem loop_allWithin_spec {v1 : (List Int)} {v2 : Int} {v3 : Int} {v4 : Int} {v5 : (List Int)} {v6 : Int} {v7 : Int} (hr : loop_allWithin v1 v2 v3 = some (v4,v5,v6,v7)) : Spec (lim Try.prog) 101 [.list 1 (v1.map e_i),.v (.int .i64 v2),.v (.int .i64 v3)] ⟨[.func 139 [] [.fptr true [.v (.int .i64 v4)] 0,.fptr true [.func 134 [] [.fptr true [.list 1 (v5.map e_i)] 0,.fptr true [.v (.int .i64 v6)] 0,.fptr true [.v (.int .i64 v7)] 0]] 0]],[]⟩:=by
  unfold loop_allWithin at hr
  apply Spec.fn Try.func101 rfl
  focus (simp [Try.f101]<;>exact rfl)
  focus
    repeat (first|(with_reducible first|refine mv ?_|refine TO.nil ?_)|((with_reducible first|apply TO.bf|apply TO.asg|apply TO.ld|apply TO.len|apply TO.mf);(repeat (focus (show _ = _;first|exact k1 rfl|exact k2 rfl|(simp only [zz,y8,tload,rowOf,partT,tlen]<;>exact rfl)|exact rfl)));(with_reducible apply TO.here))|((with_reducible apply TX.region);(focus (simp only []<;>exact rfl));(focus rfl);(try dsimp only)))
    obtain ⟨⟨v8,v9,v10,v11⟩,h1,hr⟩:=Option.bind_eq_some_iff.1 hr
    try dsimp only at hr
    apply TO.cal (by first|rfl|(simp only [twant,z1,zp,zs];done)) rfl goFn116 (loop_each_2037_spec h1) rfl rfl rfl
    (repeat (focus (show _ = _;(simp only [zz,shift]<;>exact rfl))))
    with_reducible apply TO.here
    repeat (first|(with_reducible first|refine mv ?_|refine TO.nil ?_)|((with_reducible apply TO.asg);(repeat (focus (show _ = _;first|exact k2 rfl|(simp only [zz]<;>exact rfl))));(with_reducible apply TO.here)))
    cases hr
    refine ⟨.inr rfl,_,(by simp only [];exact rfl),?_⟩
    exact wr [] rfl .nil
  rfl

end Go.Rex

namespace Go.Rex
open Go.Proofs
open Go Go.Rex Go.RowKit
set_option maxRecDepth 100000
set_option maxHeartbeats 200000
theorem loop_within_spec {v1 : Int} {v2 : Int} {v3 : Int} {v4 : Bool} {v5 : Int} (hr : loop_within v1 v2 v3 = some (v4,v5)) : Spec (lim Try.prog) 68 [.v (.int .i64 v1),.v (.int .i64 v2),.v (.int .i64 v3)] ⟨[.func 113 [] [.fptr true [.v (.bool v4)] 0,.fptr true [.v (.int .i64 v5)] 0]],[]⟩:=by
  unfold loop_within at hr
  apply Spec.fn Try.func68 rfl
  focus (simp [Try.f68]<;>exact rfl)
  focus
    repeat (first|(with_reducible first|refine mv ?_|refine TO.nil ?_)|((with_reducible first|apply TO.asg|apply TO.mv|apply TO.bin);(repeat (focus (show _ = _;first|exact k2 rfl|(simp only [zz]<;>exact rfl))));(with_reducible apply TO.here))|((with_reducible apply TX.region);(focus (simp only []<;>exact rfl));(focus rfl);(try dsimp only)))
    rcases Bool.eq_false_or_eq_true ((decide (v1 < v2))) with h1|h1
    · rw [if_pos h1] at hr
      repeat (first|((with_reducible apply TO.pk);(repeat (focus (show _ = _;first|exact k2 rfl|(simp only [zz]<;>exact rfl))));(with_reducible apply TO.here))|((with_reducible apply TO.skip1);(repeat (focus (show _ = _;(simp only [zz,twant,zp,zs,h1]<;>exact rfl))));(with_reducible apply TO.here)))
      obtain ⟨⟨v6,v7⟩,h2,hr⟩:=Option.bind_eq_some_iff.1 hr
      try dsimp only at hr
      apply TO.cal (by first|rfl|(simp only [twant,z1,zp,zs,h1];done)) rfl goFn82 (loop_refuse_spec h2) rfl rfl rfl
      (repeat (focus (show _ = _;(simp only [zz,shift]<;>exact rfl))))
      with_reducible apply TO.here
      repeat (first|(with_reducible first|refine mv ?_|refine TO.nil ?_)|((with_reducible apply TO.asg);(repeat (focus (show _ = _;first|exact k2 rfl|(simp only [zz]<;>exact rfl))));(with_reducible apply TO.here)))
      cases hr
      refine ⟨.inr rfl,_,(by simp only [];exact rfl),?_⟩
      exact Wk.ren [] rfl .nil (by (repeat (first|exact RNs.nil|refine RNs.cons .junk ?_|refine RNs.cons (.keep rfl rfl) ?_|refine RNs.cons (.lsl rfl rfl) ?_|refine RNs.cons (.lsl rfl (by simp only [List.length_set])) ?_|refine RNs.cons (.lptr rfl) ?_|refine RNs.cons (.nil rfl) ?_|refine RNs.cons .nl ?_|refine RNs.cons (.keep (by simp only [h1]) rfl) ?_|refine RNs.cons (.tuple' ?_) ?_|refine RNs.cons (.agg' ?_) ?_)))
    · rw [if_neg (by rw [h1];exact Bool.false_ne_true)] at hr
      repeat (first|((with_reducible first|apply TO.mv|apply TO.bin|apply TO.pk);(repeat (focus (show _ = _;first|exact k2 rfl|(simp only [zz,h1]<;>exact rfl))));(with_reducible apply TO.here)))
      obtain ⟨⟨v8,v9⟩,h3,hr⟩:=Option.bind_eq_some_iff.1 hr
      try dsimp only at hr
      apply TO.cal (by first|rfl|(simp only [twant,z1,zp,zs,h1];done)) rfl goFn82 (loop_refuse_spec h3) rfl rfl rfl
      (repeat (focus (show _ = _;(simp only [zz,shift]<;>exact rfl))))
      with_reducible apply TO.here
      repeat (first|(with_reducible first|refine mv ?_|refine TO.nil ?_)|((with_reducible apply TO.asg);(repeat (focus (show _ = _;first|exact k2 rfl|(simp only [zz]<;>exact rfl))));(with_reducible apply TO.here)))
      cases hr
      refine ⟨.inr rfl,_,(by simp only [];exact rfl),?_⟩
      exact Wk.ren [] rfl .nil (by (repeat (first|exact RNs.nil|refine RNs.cons .junk ?_|refine RNs.cons (.keep rfl rfl) ?_|refine RNs.cons (.lsl rfl rfl) ?_|refine RNs.cons (.lsl rfl (by simp only [List.length_set])) ?_|refine RNs.cons (.lptr rfl) ?_|refine RNs.cons (.nil rfl) ?_|refine RNs.cons .nl ?_|refine RNs.cons (.keep (by simp only [h1]) rfl) ?_|refine RNs.cons (.tuple' ?_) ?_|refine RNs.cons (.agg' ?_) ?_)))
  rfl

end Go.Rex

namespace Go.Rex
open Go.Proofs
open Go Go.Rex Go.RowKit
set_option maxRecDepth 100000
set_option maxHeartbeats 200000
def y9:=an @ag22 <| an @ag3 <| an @cs3 <| an @ok3 <| @so22
theorem loop_allWithin_c1_ea58_spec {v1 : Int} {v2 : (List Int)} {v3 : Int} {v4 : Int} {v5 : Int} (hr : loop_allWithin_c1_ea58 v1 v2 v3 v4 = some (v5)) : Spec (lim Try.prog) 134 [.v (.int .i64 v1),.fptr true [.list 1 (v2.map e_i)] 0,.fptr true [.v (.int .i64 v3)] 0,.fptr true [.v (.int .i64 v4)] 0] ⟨[.v (.int .i64 v5)],[]⟩:=by
  unfold loop_allWithin_c1_ea58 at hr
  apply Spec.fn Try.func134 rfl
  focus (simp [Try.f134]<;>exact rfl)
  focus
    repeat (first|(with_reducible first|refine mv ?_|refine TO.nil ?_)|((with_reducible apply TO.asg);(repeat (focus (show _ = _;first|exact k2 rfl|(simp only [zz]<;>exact rfl))));(with_reducible apply TO.here))|((with_reducible apply TX.region);(focus (simp only []<;>exact rfl));(focus rfl);(try dsimp only))|((with_reducible first|apply TD.ld|apply TD.mv);(repeat (focus (show _ = _;first|exact k2 rfl|(simp only [zz,y9,tload,rowOf,partT]<;>exact rfl)|exact rfl)));(with_reducible refine TD.here ?_))|((with_reducible apply TX.drawn);(focus decide +kernel);(focus (simp only []<;>exact rfl));(focus exact rfl);(try dsimp only)))
    obtain ⟨v6,h1,hr⟩:=Option.bind_eq_some_iff.1 hr
    try dsimp only at hr
    have h1m:=tidx_map (f:=e_i) h1
    have h1l:=getI_lt h1
    try simp only [List.length_set] at h1l
    have h1a:=getI_at h1
    repeat (first|((with_reducible first|apply TD.ia|apply TD.ld);(repeat (focus (show _ = _;first|exact k2 rfl|(simp only [zz,y9,e_i,tindexAddr,tload,rowOf,partT,h1m]<;>exact rfl)|exact rfl)));(with_reducible refine TD.here ?_)))
    obtain ⟨⟨v7,v8⟩,h2,hr⟩:=Option.bind_eq_some_iff.1 hr
    try dsimp only at hr
    first|apply TD.cal (by first|rfl|(simp only [twant,z1,zp,zs,h1m,h1l,h1a];done)) rfl goFn68 (loop_within_spec h2) rfl rfl rfl|apply TD.calw (by first|rfl|(simp only [twant,z1,zp,zs,h1m,h1l,h1a];done)) rfl goFn68 (loop_within_spec h2) rfl rfl rfl rfl
    (repeat (focus (show _ = _;(simp only [zz,shift]<;>exact rfl))))
    with_reducible apply TD.here
    obtain ⟨v9,h3,hr⟩:=Option.bind_eq_some_iff.1 hr
    try dsimp only at hr
    first|apply TD.cal (by first|rfl|(simp only [twant,z1,zp,zs,h1m,h1l,h1a];done)) rfl goFn113 (loop_refuse_c1_11f9_spec h3) rfl rfl rfl|apply TD.calw (by first|rfl|(simp only [twant,z1,zp,zs,h1m,h1l,h1a];done)) rfl goFn113 (loop_refuse_c1_11f9_spec h3) rfl rfl rfl rfl
    (repeat (focus (show _ = _;(simp only [zz,shift]<;>exact rfl))))
    with_reducible apply TD.here
    repeat (first|(with_reducible first|refine mv ?_|refine TD.nil ?_)|((with_reducible apply TD.asg);(repeat (focus (show _ = _;first|exact k2 rfl|(simp only [zz]<;>exact rfl))));(with_reducible refine TD.here ?_)))
    cases hr
    refine ⟨.inr rfl,_,(by simp only [];exact rfl),?_⟩
    exact wr [] rfl .nil
  rfl

end Go.Rex

namespace Go.Rex
open Go.Proofs
open Go Go.Rex Go.RowKit
set_option maxRecDepth 100000
set_option maxHeartbeats 200000
def y10:=an @ag140 <| an @ag3 <| @wi64_0a1
theorem loop_each_c1_2344_spec {v1 : Int} {v2 : (List Int)} {v3 : Int} {v4 : Int} {v5 : Int} (hr : loop_each_c1_2344 v1 v2 v3 v4 = some (v5)) : Spec (lim Try.prog) 139 [.fptr true [.v (.int .i64 v1)] 0,.fptr true [.func 134 [] [.fptr true [.list 1 (v2.map e_i)] 0,.fptr true [.v (.int .i64 v3)] 0,.fptr true [.v (.int .i64 v4)] 0]] 0] ⟨[.v (.int .i64 v5)],[]⟩:=by
  unfold loop_each_c1_2344 at hr
  apply Spec.fn Try.func139 rfl
  focus (simp [Try.f139]<;>exact rfl)
  focus
    repeat (first|(with_reducible first|refine mv ?_|refine TO.nil ?_)|((with_reducible first|apply TO.asg|apply TO.ld|apply TO.mv);(repeat (focus (show _ = _;first|exact k2 rfl|(simp only [zz,y10,tload,rowOf,partT]<;>exact rfl)|exact rfl)));(with_reducible apply TO.here))|((with_reducible apply TX.region);(focus (simp only []<;>exact rfl));(focus rfl);(try dsimp only)))
    obtain ⟨v10,h7,hr⟩:=Option.bind_eq_some_iff.1 hr
    refine TX.loopE (step:=loop_each_c1_2344_l1 v1 v2 v3 v4) (x:=0) h7 (fun v6=>⟨.junk :: .fptr true [.func 134 [] [.fptr true [.list 1 (v2.map e_i)] 0,.fptr true [.v (.int .i64 v3)] 0,.fptr true [.v (.int .i64 v4)] 0]] 0 :: .junk :: .junk :: .junk :: .v (.int .i64 v1) :: .v (.int .i64 v6) :: .junk :: .junk :: .junk :: .junk :: .junk :: .junk :: .junk :: .junk :: .junk :: [],[]⟩) (fun e=>match e with|(.inl v8)=>(.ret,⟨.junk :: .junk :: .v (.int .i64 v8) :: .junk :: .junk :: .junk :: .junk :: .junk :: .junk :: .junk :: .junk :: .junk :: .junk :: .junk :: .junk :: .junk :: [],[]⟩)|(.inr _)=>(.exit 0,⟨.junk :: .junk :: .junk :: .junk :: .junk :: .junk :: .junk :: .junk :: .junk :: .junk :: .junk :: .junk :: .junk :: .junk :: .junk :: .junk :: [],[]⟩)) ?_ ?_ ?_ ?_
    · rintro v6 v0 hr
      dsimp only [loop_each_c1_2344_l1] at hr
      try dsimp only
      repeat (first|(with_reducible first|refine mv ?_|refine TO.nil ?_)|((with_reducible apply TO.bin);(repeat (focus (show _ = _;first|exact k2 rfl|(simp only [zz]<;>exact rfl))));(with_reducible apply TO.here))|((with_reducible apply TX.region);(focus (simp only []<;>exact rfl));(focus rfl);(try dsimp only)))
      rcases Bool.eq_false_or_eq_true ((decide (v6 < v1))) with h4|h4
      · rw [if_pos h4] at hr
        repeat (first|(with_reducible first|refine mv ?_|refine TO.nil ?_)|((with_reducible first|apply TO.mv|apply TO.asg|apply TO.ld);(repeat (focus (show _ = _;first|exact k2 rfl|(simp only [zz,y10,tload,rowOf,partT,h4]<;>exact rfl)|exact rfl)));(with_reducible apply TO.here))|((with_reducible apply TX.region);(focus (simp only []<;>exact rfl));(focus rfl);(try dsimp only))|((with_reducible apply TX.cond_true);(focus rfl);(focus ((simp only [z1,h4];done)))))
        obtain ⟨v9,h5,hr⟩:=Option.bind_eq_some_iff.1 hr
        try dsimp only at hr
        apply TO.cal (by first|rfl|(simp only [twant,z1,zp,zs,h4];done)) rfl goFn134 (loop_allWithin_c1_ea58_spec h5) rfl rfl rfl
        (repeat (focus (show _ = _;(simp only [zz,shift]<;>exact rfl))))
        with_reducible apply TO.here
        repeat (first|(with_reducible first|refine mv ?_|refine TO.nil ?_)|((with_reducible first|apply TO.asg|apply TO.mv|apply TO.bin);(repeat (focus (show _ = _;first|exact k2 rfl|(simp only [zz]<;>exact rfl))));(with_reducible apply TO.here))|((with_reducible apply TX.region);(focus (simp only []<;>exact rfl));(focus rfl);(try dsimp only)))
        rcases Bool.eq_false_or_eq_true ((decide (v9 ≠ 0))) with h6|h6
        · rw [if_pos h6] at hr
          repeat (first|(with_reducible first|refine mv ?_|refine TO.nil ?_)|((with_reducible first|apply TO.mv|apply TO.asg);(repeat (focus (show _ = _;first|exact k2 rfl|(simp only [zz,h6]<;>exact rfl))));(with_reducible apply TO.here))|((with_reducible apply TX.region);(focus (simp only []<;>exact rfl));(focus rfl);(try dsimp only))|((with_reducible apply TX.cond_true);(focus rfl);(focus ((simp only [z1,h6];done)))))
          cases hr
          refine ⟨rfl,?_⟩
          exact Wk.ren [] rfl .nil (by (repeat (first|exact RNs.nil|refine RNs.cons .junk ?_|refine RNs.cons (.keep rfl rfl) ?_|refine RNs.cons (.lsl rfl rfl) ?_|refine RNs.cons (.lsl rfl (by simp only [List.length_set])) ?_|refine RNs.cons (.lptr rfl) ?_|refine RNs.cons (.nil rfl) ?_|refine RNs.cons .nl ?_|refine RNs.cons (.keep (by simp only [h4,h6]) rfl) ?_|refine RNs.cons (.tuple' ?_) ?_|refine RNs.cons (.agg' ?_) ?_)))
        · rw [if_neg (by rw [h6];exact Bool.false_ne_true)] at hr
          repeat (first|(with_reducible first|refine mv ?_|refine TO.nil ?_)|((with_reducible first|apply TO.bin|apply TO.mv);(repeat (focus (show _ = _;first|exact k2 rfl|(simp only [zz,h6]<;>exact rfl))));(with_reducible apply TO.here))|((with_reducible apply TX.region);(focus (simp only []<;>exact rfl));(focus rfl);(try dsimp only))|((with_reducible apply TX.cond_false);(focus rfl);(focus ((simp only [z1,h6];done)))))
          cases hr
          refine ⟨rfl,?_⟩
          exact Wk.ren [] rfl .nil (by (repeat (first|exact RNs.nil|refine RNs.cons .junk ?_|refine RNs.cons (.keep rfl rfl) ?_|refine RNs.cons (.lsl rfl rfl) ?_|refine RNs.cons (.lsl rfl (by simp only [List.length_set])) ?_|refine RNs.cons (.lptr rfl) ?_|refine RNs.cons (.nil rfl) ?_|refine RNs.cons .nl ?_|refine RNs.cons (.keep (by simp only [h4,h6]) rfl) ?_|refine RNs.cons (.tuple' ?_) ?_|refine RNs.cons (.agg' ?_) ?_)))
      · rw [if_neg (by rw [h4];exact Bool.false_ne_true)] at hr
        repeat (first|with_reducible refine mv ?_|((with_reducible apply TX.cond_false);(focus rfl);(focus ((simp only [z1,h4];done)))))
        cases hr
        refine ⟨rfl,?_⟩
        exact Wk.ren [] rfl .nil (by (repeat (first|exact RNs.nil|refine RNs.cons .junk ?_|refine RNs.cons (.keep rfl rfl) ?_|refine RNs.cons (.lsl rfl rfl) ?_|refine RNs.cons (.lsl rfl (by simp only [List.length_set])) ?_|refine RNs.cons (.lptr rfl) ?_|refine RNs.cons (.nil rfl) ?_|refine RNs.cons .nl ?_|refine RNs.cons (.keep (by simp only [h4]) rfl) ?_|refine RNs.cons (.tuple' ?_) ?_|refine RNs.cons (.agg' ?_) ?_)))
    · intro e h;rcases e with _|e<;>cases h
    · try dsimp only
      rcases v10 with v11|_
      · try dsimp only at hr
        try dsimp only
        repeat (first|with_reducible refine mv ?_)
        cases hr
        refine ⟨.inr rfl,_,(by simp only [];exact rfl),?_⟩
        exact wr [] rfl .nil
      · try dsimp only at hr
        try dsimp only
        repeat (first|(with_reducible first|refine mv ?_|refine TO.nil ?_)|((with_reducible apply TO.asg);(repeat (focus (show _ = _;first|exact k2 rfl|(simp only [zz]<;>exact rfl))));(with_reducible apply TO.here))|((with_reducible apply TX.region);(focus (simp only []<;>exact rfl));(focus rfl);(try dsimp only)))
        cases hr
        refine ⟨.inr rfl,_,(by simp only [];exact rfl),?_⟩
        exact wr [] rfl .nil
    · try dsimp only
      exact wr [] rfl .nil
  rfl

end Go.Rex

namespace Go.Rex
open Go.Proofs
open Go Go.Rex Go.RowKit
set_option maxRecDepth 100000
set_option maxHeartbeats 200000
def y11:=an @ag101 <| an @cs101 <| an @ok101 <| an @so133 <| an @wi64_0a1 <| @wi64_1a1
theorem loop_firstError_2b8f_spec {v1 : Bool} {v2 : Int} {v3 : Int} {v4 : (List Int)} {v5 : Int} {v6 : Int} {v7 : Int} (hr : loop_firstError_2b8f v1 v2 v3 v4 v5 v6 = some (v7)) : Spec (lim Try.prog) 67 [.list 1 [[.func 113 [] [.fptr true [.v (.bool v1)] 0,.fptr true [.v (.int .i64 v2)] 0]],[.func 139 [] [.fptr true [.v (.int .i64 v3)] 0,.fptr true [.func 134 [] [.fptr true [.list 1 (v4.map e_i)] 0,.fptr true [.v (.int .i64 v5)] 0,.fptr true [.v (.int .i64 v6)] 0]] 0]]]] ⟨[.v (.int .i64 v7)],[]⟩:=by
  unfold loop_firstError_2b8f at hr
  apply Spec.fn Try.func67 rfl
  focus (simp [Try.f67]<;>exact rfl)
  focus
    repeat (first|(with_reducible first|refine mv ?_|refine TO.nil ?_)|((with_reducible first|apply TO.asg|apply TO.mv|apply TO.len);(repeat (focus (show _ = _;first|exact k2 rfl|(simp only [zz,y11,Nat.reduceAdd,tlen]<;>exact rfl))));(with_reducible apply TO.here))|((with_reducible apply TX.region);(focus (simp only []<;>exact rfl));(focus rfl);(try dsimp only)))
    refine TX.unroll ?_
    repeat (first|(with_reducible first|refine mv ?_|refine TO.nil ?_)|((with_reducible first|apply TO.bin|apply TO.ia|apply TO.ld|apply TO.asg|apply TO.mv);(repeat (focus (show _ = _;first|exact k2 rfl|(simp only [zz,y11,tindexAddr,z5,Int.reduceLT,Int.cast_ofNat_Int,tload,rowOf,partT]<;>exact rfl)|exact rfl)));(with_reducible apply TO.here))|((with_reducible apply TX.region);(focus (simp only []<;>exact rfl));(focus rfl);(try dsimp only))|((with_reducible apply TX.cond_true);(focus rfl);(focus (rfl))))
    obtain ⟨v8,h1,hr⟩:=Option.bind_eq_some_iff.1 hr
    try dsimp only at hr
    apply TO.cal (by first|rfl|(simp only [twant,z1,zp,zs];done)) rfl goFn113 (loop_refuse_c1_11f9_spec h1) rfl rfl rfl
    (repeat (focus (show _ = _;(simp only [zz,shift]<;>exact rfl))))
    with_reducible apply TO.here
    repeat (first|(with_reducible first|refine mv ?_|refine TO.nil ?_)|((with_reducible first|apply TO.asg|apply TO.mv|apply TO.bin);(repeat (focus (show _ = _;first|exact k2 rfl|(simp only [zz]<;>exact rfl))));(with_reducible apply TO.here))|((with_reducible apply TX.region);(focus (simp only []<;>exact rfl));(focus rfl);(try dsimp only)))
    rcases Bool.eq_false_or_eq_true ((decide (v8 ≠ 0))) with h2|h2
    · rw [if_pos h2] at hr
      repeat (first|(with_reducible first|refine mv ?_|refine TO.nil ?_)|((with_reducible first|apply TO.mv|apply TO.asg);(repeat (focus (show _ = _;first|exact k2 rfl|(simp only [zz,h2]<;>exact rfl))));(with_reducible apply TO.here))|((with_reducible apply TX.region);(focus (simp only []<;>exact rfl));(focus rfl);(try dsimp only))|((with_reducible apply TX.cond_true);(focus rfl);(focus ((simp only [z1,h2];done)))))
      cases hr
      refine ⟨.inr rfl,_,(by simp only [];exact rfl),?_⟩
      exact Wk.ren [] rfl .nil (by (repeat (first|exact RNs.nil|refine RNs.cons .junk ?_|refine RNs.cons (.keep rfl rfl) ?_|refine RNs.cons (.lsl rfl rfl) ?_|refine RNs.cons (.lsl rfl (by simp only [List.length_set])) ?_|refine RNs.cons (.lptr rfl) ?_|refine RNs.cons (.nil rfl) ?_|refine RNs.cons .nl ?_|refine RNs.cons (.keep (by simp only [h2]) rfl) ?_|refine RNs.cons (.tuple' ?_) ?_|refine RNs.cons (.agg' ?_) ?_)))
    · rw [if_neg (by rw [h2];exact Bool.false_ne_true)] at hr
      repeat (first|(with_reducible first|refine mv ?_|refine TO.nil ?_)|((with_reducible first|apply TO.bin|apply TO.mv);(repeat (focus (show _ = _;first|exact k2 rfl|(simp only [zz,y11,h2]<;>exact rfl))));(with_reducible apply TO.here))|((with_reducible apply TX.region);(focus (simp only []<;>exact rfl));(focus rfl);(try dsimp only))|((with_reducible apply TX.cond_false);(focus rfl);(focus ((simp only [z1,h2];done)))))
      refine TX.unroll ?_
      repeat (first|(with_reducible first|refine mv ?_|refine TO.nil ?_)|((with_reducible first|apply TO.bin|apply TO.ia|apply TO.ld|apply TO.asg|apply TO.mv);(repeat (focus (show _ = _;first|exact k2 rfl|(simp only [zz,y11,tindexAddr,z5,Int.reduceLT,tload,rowOf,partT]<;>exact rfl)|exact rfl)));(with_reducible apply TO.here))|((with_reducible apply TX.region);(focus (simp only []<;>exact rfl));(focus rfl);(try dsimp only))|((with_reducible apply TX.cond_true);(focus rfl);(focus (rfl))))
      obtain ⟨v9,h3,hr⟩:=Option.bind_eq_some_iff.1 hr
      try dsimp only at hr
      apply TO.cal (by first|rfl|(simp only [twant,z1,zp,zs,h2];done)) rfl goFn139 (loop_each_c1_2344_spec h3) rfl rfl rfl
      (repeat (focus (show _ = _;(simp only [zz,shift]<;>exact rfl))))
      with_reducible apply TO.here
      repeat (first|(with_reducible first|refine mv ?_|refine TO.nil ?_)|((with_reducible first|apply TO.asg|apply TO.mv|apply TO.bin);(repeat (focus (show _ = _;first|exact k2 rfl|(simp only [zz]<;>exact rfl))));(with_reducible apply TO.here))|((with_reducible apply TX.region);(focus (simp only []<;>exact rfl));(focus rfl);(try dsimp only)))
      rcases Bool.eq_false_or_eq_true ((decide (v9 ≠ 0))) with h4|h4
      · rw [if_pos h4] at hr
        repeat (first|(with_reducible first|refine mv ?_|refine TO.nil ?_)|((with_reducible first|apply TO.mv|apply TO.asg);(repeat (focus (show _ = _;first|exact k2 rfl|(simp only [zz,h4]<;>exact rfl))));(with_reducible apply TO.here))|((with_reducible apply TX.region);(focus (simp only []<;>exact rfl));(focus rfl);(try dsimp only))|((with_reducible apply TX.cond_true);(focus rfl);(focus ((simp only [z1,h4];done)))))
        cases hr
        refine ⟨.inr rfl,_,(by simp only [];exact rfl),?_⟩
        exact Wk.ren [] rfl .nil (by (repeat (first|exact RNs.nil|refine RNs.cons .junk ?_|refine RNs.cons (.keep rfl rfl) ?_|refine RNs.cons (.lsl rfl rfl) ?_|refine RNs.cons (.lsl rfl (by simp only [List.length_set])) ?_|refine RNs.cons (.lptr rfl) ?_|refine RNs.cons (.nil rfl) ?_|refine RNs.cons .nl ?_|refine RNs.cons (.keep (by simp only [h2,h4]) rfl) ?_|refine RNs.cons (.tuple' ?_) ?_|refine RNs.cons (.agg' ?_) ?_)))
      · rw [if_neg (by rw [h4];exact Bool.false_ne_true)] at hr
        repeat (first|(with_reducible first|refine mv ?_|refine TO.nil ?_)|((with_reducible first|apply TO.bin|apply TO.mv);(repeat (focus (show _ = _;first|exact k2 rfl|(simp only [zz,y11,h4]<;>exact rfl))));(with_reducible apply TO.here))|((with_reducible apply TX.region);(focus (simp only []<;>exact rfl));(focus rfl);(try dsimp only))|((with_reducible apply TX.cond_false);(focus rfl);(focus ((simp only [z1,h4];done)))))
        refine TX.unroll ?_
        repeat (first|(with_reducible first|refine mv ?_|refine TO.nil ?_)|((with_reducible first|apply TO.bin|apply TO.asg);(repeat (focus (show _ = _;first|exact k2 rfl|(simp only [zz]<;>exact rfl))));(with_reducible apply TO.here))|((with_reducible apply TX.region);(focus (simp only []<;>exact rfl));(focus rfl);(try dsimp only))|((with_reducible apply TX.cond_false);(focus rfl);(focus (rfl))))
        cases hr
        refine ⟨.inr rfl,_,(by simp only [];exact rfl),?_⟩
        exact Wk.ren [] rfl .nil (by (repeat (first|exact RNs.nil|refine RNs.cons .junk ?_|refine RNs.cons (.keep rfl rfl) ?_|refine RNs.cons (.lsl rfl rfl) ?_|refine RNs.cons (.lsl rfl (by simp only [List.length_set])) ?_|refine RNs.cons (.lptr rfl) ?_|refine RNs.cons (.nil rfl) ?_|refine RNs.cons .nl ?_|refine RNs.cons (.keep (by simp only [h2,h4]) rfl) ?_|refine RNs.cons (.tuple' ?_) ?_|refine RNs.cons (.agg' ?_) ?_)))
  rfl

end Go.Rex

namespace Go.Rex
open Go.Proofs
open Go Go.Rex Go.RowKit
set_option maxRecDepth 100000
set_option maxHeartbeats 200000
def y12:=an @ag22 <| an @ag81 <| an @cs101 <| an @cs22 <| an @fd126_0 <| an @fd83_0 <| an @ok22 <| an @so133 <| an @so22 <| an @so81 <| @zc101
theorem loop_lines_check_c1_1897_spec {v1 : Int} {v2 : (List (List Int))} {v3 : Int} (hr : loop_lines_check_c1_1897 v1 v2 = some (v3)) : Spec (lim Try.prog) 124 [.v (.int .i64 v1),.fptr true [.list 1 (v2.map e_Li_)] 0] ⟨[.v (.int .i64 v3)],[]⟩:=by
  unfold loop_lines_check_c1_1897 at hr
  apply Spec.fn Try.func124 rfl
  focus (simp [Try.f124]<;>exact rfl)
  focus
    repeat (first|(with_reducible first|refine mv ?_|refine TO.nil ?_)|((with_reducible first|apply TO.asg|apply TO.fa|apply TO.ld|apply TO.mv);(repeat (focus (show _ = _;first|exact k2 rfl|(simp only [zz,y12,Nat.reduceAdd,tfieldAddr,tload,rowOf,partT]<;>exact rfl)|exact rfl)));(with_reducible apply TO.here))|((with_reducible apply TX.region);(focus (simp only []<;>exact rfl));(focus rfl);(try dsimp only)))
    obtain ⟨v4,h1,hr⟩:=Option.bind_eq_some_iff.1 hr
    try dsimp only at hr
    have h1m:=tidx_map (f:=e_Li_) h1
    have h1l:=getI_lt h1
    try simp only [List.length_set] at h1l
    have h1a:=getI_at h1
    repeat (first|(with_reducible first|refine mv ?_|refine TO.nil ?_)|((with_reducible first|apply TO.ia|apply TO.ld|apply TO.asg|apply TO.mv|apply TO.len|apply TO.fa|apply TO.bin);(repeat (focus (show _ = _;first|exact k2 rfl|(simp only [zz,y12,e_Li_,tindexAddr,Nat.zero_add,tload,rowOf,partT,tlen,tfieldAddr,h1m]<;>exact rfl)|exact rfl)));(with_reducible apply TO.here))|((with_reducible apply TX.region);(focus (simp only []<;>exact rfl));(focus rfl);(try dsimp only)))
    obtain ⟨⟨v5,v6⟩,h2,hr⟩:=Option.bind_eq_some_iff.1 hr
    try dsimp only at hr
    apply TO.cal (by first|rfl|(simp only [twant,z1,zp,zs,h1m,h1l,h1a];done)) rfl goFn82 (loop_refuse_spec h2) rfl rfl rfl
    (repeat (focus (show _ = _;(simp only [zz,shift]<;>exact rfl))))
    with_reducible apply TO.here
    repeat (first|((with_reducible apply TO.mv);(repeat (focus (show _ = _;first|exact k2 rfl|(simp only [zz]<;>exact rfl))));(with_reducible apply TO.here)))
    obtain ⟨⟨v7,v8,v9,v10⟩,h3,hr⟩:=Option.bind_eq_some_iff.1 hr
    try dsimp only at hr
    apply TO.cal (by first|rfl|(simp only [twant,z1,zp,zs,h1m,h1l,h1a];done)) rfl goFn101 (loop_allWithin_spec h3) rfl rfl rfl
    (repeat (focus (show _ = _;(simp only [zz,shift]<;>exact rfl))))
    with_reducible apply TO.here
    repeat (first|((with_reducible apply TO.bs);(repeat (focus (show _ = _;first|exact k2 rfl|(simp only [zz,y12,Nat.reduceAdd,Nat.reduceMul,tslice,tparts]<;>exact rfl)|exact rfl)));(with_reducible apply TO.here)))
    obtain ⟨v11,h4,hr⟩:=Option.bind_eq_some_iff.1 hr
    try dsimp only at hr
    apply TO.cal (by first|rfl|(simp only [twant,z1,zp,zs,h1m,h1l,h1a];done)) rfl goFn67 (loop_firstError_2b8f_spec h4) rfl rfl rfl
    (repeat (focus (show _ = _;(simp only [zz,shift]<;>exact rfl))))
    with_reducible apply TO.here
    repeat (first|(with_reducible first|refine mv ?_|refine TO.nil ?_)|((with_reducible apply TO.asg);(repeat (focus (show _ = _;first|exact k2 rfl|(simp only [zz]<;>exact rfl))));(with_reducible apply TO.here)))
    cases hr
    refine ⟨.inr rfl,_,(by simp only [];exact rfl),?_⟩
    exact wr [] rfl .nil
  rfl

end Go.Rex

namespace Go.Rex
open Go.Proofs
open Go Go.Rex Go.RowKit
set_option maxRecDepth 100000
set_option maxHeartbeats 200000
def y13:=an @ag140 <| an @ag3 <| @wi64_0a1
theorem loop_each_c1_544b_spec {v1 : Int} {v2 : (List (List Int))} {v3 : Int} (hr : loop_each_c1_544b v1 v2 = some (v3)) : Spec (lim Try.prog) 139 [.fptr true [.v (.int .i64 v1)] 0,.fptr true [.func 124 [] [.fptr true [.list 1 (v2.map e_Li_)] 0]] 0] ⟨[.v (.int .i64 v3)],[]⟩:=by
  unfold loop_each_c1_544b at hr
  apply Spec.fn Try.func139 rfl
  focus (simp [Try.f139]<;>exact rfl)
  focus
    repeat (first|(with_reducible first|refine mv ?_|refine TO.nil ?_)|((with_reducible first|apply TO.asg|apply TO.ld|apply TO.mv);(repeat (focus (show _ = _;first|exact k2 rfl|(simp only [zz,y13,tload,rowOf,partT]<;>exact rfl)|exact rfl)));(with_reducible apply TO.here))|((with_reducible apply TX.region);(focus (simp only []<;>exact rfl));(focus rfl);(try dsimp only)))
    obtain ⟨v8,h7,hr⟩:=Option.bind_eq_some_iff.1 hr
    refine TX.loopE (step:=loop_each_c1_544b_l1 v1 v2) (x:=0) h7 (fun v4=>⟨.junk :: .fptr true [.func 124 [] [.fptr true [.list 1 (v2.map e_Li_)] 0]] 0 :: .junk :: .junk :: .junk :: .v (.int .i64 v1) :: .v (.int .i64 v4) :: .junk :: .junk :: .junk :: .junk :: .junk :: .junk :: .junk :: .junk :: .junk :: [],[]⟩) (fun e=>match e with|(.inl v6)=>(.ret,⟨.junk :: .junk :: .v (.int .i64 v6) :: .junk :: .junk :: .junk :: .junk :: .junk :: .junk :: .junk :: .junk :: .junk :: .junk :: .junk :: .junk :: .junk :: [],[]⟩)|(.inr _)=>(.exit 0,⟨.junk :: .junk :: .junk :: .junk :: .junk :: .junk :: .junk :: .junk :: .junk :: .junk :: .junk :: .junk :: .junk :: .junk :: .junk :: .junk :: [],[]⟩)) ?_ ?_ ?_ ?_
    · rintro v4 v0 hr
      dsimp only [loop_each_c1_544b_l1] at hr
      try dsimp only
      repeat (first|(with_reducible first|refine mv ?_|refine TO.nil ?_)|((with_reducible apply TO.bin);(repeat (focus (show _ = _;first|exact k2 rfl|(simp only [zz]<;>exact rfl))));(with_reducible apply TO.here))|((with_reducible apply TX.region);(focus (simp only []<;>exact rfl));(focus rfl);(try dsimp only)))
      rcases Bool.eq_false_or_eq_true ((decide (v4 < v1))) with h4|h4
      · rw [if_pos h4] at hr
        repeat (first|(with_reducible first|refine mv ?_|refine TO.nil ?_)|((with_reducible first|apply TO.mv|apply TO.asg|apply TO.ld);(repeat (focus (show _ = _;first|exact k2 rfl|(simp only [zz,y13,tload,rowOf,partT,h4]<;>exact rfl)|exact rfl)));(with_reducible apply TO.here))|((with_reducible apply TX.region);(focus (simp only []<;>exact rfl));(focus rfl);(try dsimp only))|((with_reducible apply TX.cond_true);(focus rfl);(focus ((simp only [z1,h4];done)))))
        obtain ⟨v7,h5,hr⟩:=Option.bind_eq_some_iff.1 hr
        try dsimp only at hr
        apply TO.cal (by first|rfl|(simp only [twant,z1,zp,zs,h4];done)) rfl goFn124 (loop_lines_check_c1_1897_spec h5) rfl rfl rfl
        (repeat (focus (show _ = _;(simp only [zz,shift]<;>exact rfl))))
        with_reducible apply TO.here
        repeat (first|(with_reducible first|refine mv ?_|refine TO.nil ?_)|((with_reducible first|apply TO.asg|apply TO.mv|apply TO.bin);(repeat (focus (show _ = _;first|exact k2 rfl|(simp only [zz]<;>exact rfl))));(with_reducible apply TO.here))|((with_reducible apply TX.region);(focus (simp only []<;>exact rfl));(focus rfl);(try dsimp only)))
        rcases Bool.eq_false_or_eq_true ((decide (v7 ≠ 0))) with h6|h6
        · rw [if_pos h6] at hr
          repeat (first|(with_reducible first|refine mv ?_|refine TO.nil ?_)|((with_reducible first|apply TO.mv|apply TO.asg);(repeat (focus (show _ = _;first|exact k2 rfl|(simp only [zz,h6]<;>exact rfl))));(with_reducible apply TO.here))|((with_reducible apply TX.region);(focus (simp only []<;>exact rfl));(focus rfl);(try dsimp only))|((with_reducible apply TX.cond_true);(focus rfl);(focus ((simp only [z1,h6];done)))))
          cases hr
          refine ⟨rfl,?_⟩
          exact Wk.ren [] rfl .nil (by (repeat (first|exact RNs.nil|refine RNs.cons .junk ?_|refine RNs.cons (.keep rfl rfl) ?_|refine RNs.cons (.lsl rfl rfl) ?_|refine RNs.cons (.lsl rfl (by simp only [List.length_set])) ?_|refine RNs.cons (.lptr rfl) ?_|refine RNs.cons (.nil rfl) ?_|refine RNs.cons .nl ?_|refine RNs.cons (.keep (by simp only [h4,h6]) rfl) ?_|refine RNs.cons (.tuple' ?_) ?_|refine RNs.cons (.agg' ?_) ?_)))
        · rw [if_neg (by rw [h6];exact Bool.false_ne_true)] at hr
          repeat (first|(with_reducible first|refine mv ?_|refine TO.nil ?_)|((with_reducible first|apply TO.bin|apply TO.mv);(repeat (focus (show _ = _;first|exact k2 rfl|(simp only [zz,h6]<;>exact rfl))));(with_reducible apply TO.here))|((with_reducible apply TX.region);(focus (simp only []<;>exact rfl));(focus rfl);(try dsimp only))|((with_reducible apply TX.cond_false);(focus rfl);(focus ((simp only [z1,h6];done)))))
          cases hr
          refine ⟨rfl,?_⟩
          exact Wk.ren [] rfl .nil (by (repeat (first|exact RNs.nil|refine RNs.cons .junk ?_|refine RNs.cons (.keep rfl rfl) ?_|refine RNs.cons (.lsl rfl rfl) ?_|refine RNs.cons (.lsl rfl (by simp only [List.length_set])) ?_|refine RNs.cons (.lptr rfl) ?_|refine RNs.cons (.nil rfl) ?_|refine RNs.cons .nl ?_|refine RNs.cons (.keep (by simp only [h4,h6]) rfl) ?_|refine RNs.cons (.tuple' ?_) ?_|refine RNs.cons (.agg' ?_) ?_)))
      · rw [if_neg (by rw [h4];exact Bool.false_ne_true)] at hr
        repeat (first|with_reducible refine mv ?_|((with_reducible apply TX.cond_false);(focus rfl);(focus ((simp only [z1,h4];done)))))
        cases hr
        refine ⟨rfl,?_⟩
        exact Wk.ren [] rfl .nil (by (repeat (first|exact RNs.nil|refine RNs.cons .junk ?_|refine RNs.cons (.keep rfl rfl) ?_|refine RNs.cons (.lsl rfl rfl) ?_|refine RNs.cons (.lsl rfl (by simp only [List.length_set])) ?_|refine RNs.cons (.lptr rfl) ?_|refine RNs.cons (.nil rfl) ?_|refine RNs.cons .nl ?_|refine RNs.cons (.keep (by simp only [h4]) rfl) ?_|refine RNs.cons (.tuple' ?_) ?_|refine RNs.cons (.agg' ?_) ?_)))
    · intro e h;rcases e with _|e<;>cases h
    · try dsimp only
      rcases v8 with v9|_
      · try dsimp only at hr
        try dsimp only
        repeat (first|with_reducible refine mv ?_)
        cases hr
        refine ⟨.inr rfl,_,(by simp only [];exact rfl),?_⟩
        exact wr [] rfl .nil
      · try dsimp only at hr
        try dsimp only
        repeat (first|(with_reducible first|refine mv ?_|refine TO.nil ?_)|((with_reducible apply TO.asg);(repeat (focus (show _ = _;first|exact k2 rfl|(simp only [zz]<;>exact rfl))));(with_reducible apply TO.here))|((with_reducible apply TX.region);(focus (simp only []<;>exact rfl));(focus rfl);(try dsimp only)))
        cases hr
        refine ⟨.inr rfl,_,(by simp only [];exact rfl),?_⟩
        exact wr [] rfl .nil
    · try dsimp only
      exact wr [] rfl .nil
  rfl

end Go.Rex

namespace Go.Rex
open Go.Proofs
open Go Go.Rex Go.RowKit
set_option maxRecDepth 100000
set_option maxHeartbeats 200000
def y14:=an @ag101 <| an @cs101 <| an @ok101 <| an @so133 <| an @wi64_0a1 <| @wi64_1a1
theorem loop_firstError_f586_spec {v1 : Int} {v2 : Int} {v3 : Int} {v4 : (List (List Int))} {v5 : Int} (hr : loop_firstError_f586 v1 v2 v3 v4 = some (v5)) : Spec (lim Try.prog) 67 [.list 1 [[.func 133 [] [.fptr true [.v (.int .i64 v1)] 0,.fptr true [.v (.int .i64 v2)] 0]],[.func 139 [] [.fptr true [.v (.int .i64 v3)] 0,.fptr true [.func 124 [] [.fptr true [.list 1 (v4.map e_Li_)] 0]] 0]]]] ⟨[.v (.int .i64 v5)],[]⟩:=by
  unfold loop_firstError_f586 at hr
  apply Spec.fn Try.func67 rfl
  focus (simp [Try.f67]<;>exact rfl)
  focus
    repeat (first|(with_reducible first|refine mv ?_|refine TO.nil ?_)|((with_reducible first|apply TO.asg|apply TO.mv|apply TO.len);(repeat (focus (show _ = _;first|exact k2 rfl|(simp only [zz,y14,Nat.reduceAdd,tlen]<;>exact rfl))));(with_reducible apply TO.here))|((with_reducible apply TX.region);(focus (simp only []<;>exact rfl));(focus rfl);(try dsimp only)))
    refine TX.unroll ?_
    repeat (first|(with_reducible first|refine mv ?_|refine TO.nil ?_)|((with_reducible first|apply TO.bin|apply TO.ia|apply TO.ld|apply TO.asg|apply TO.mv);(repeat (focus (show _ = _;first|exact k2 rfl|(simp only [zz,y14,tindexAddr,z5,Int.reduceLT,Int.cast_ofNat_Int,tload,rowOf,partT]<;>exact rfl)|exact rfl)));(with_reducible apply TO.here))|((with_reducible apply TX.region);(focus (simp only []<;>exact rfl));(focus rfl);(try dsimp only))|((with_reducible apply TX.cond_true);(focus rfl);(focus (rfl))))
    obtain ⟨v6,h1,hr⟩:=Option.bind_eq_some_iff.1 hr
    try dsimp only at hr
    apply TO.cal (by first|rfl|(simp only [twant,z1,zp,zs];done)) rfl goFn133 (loop_counted_c1_b585_spec h1) rfl rfl rfl
    (repeat (focus (show _ = _;(simp only [zz,shift]<;>exact rfl))))
    with_reducible apply TO.here
    repeat (first|(with_reducible first|refine mv ?_|refine TO.nil ?_)|((with_reducible first|apply TO.asg|apply TO.mv|apply TO.bin);(repeat (focus (show _ = _;first|exact k2 rfl|(simp only [zz]<;>exact rfl))));(with_reducible apply TO.here))|((with_reducible apply TX.region);(focus (simp only []<;>exact rfl));(focus rfl);(try dsimp only)))
    rcases Bool.eq_false_or_eq_true ((decide (v6 ≠ 0))) with h2|h2
    · rw [if_pos h2] at hr
      repeat (first|(with_reducible first|refine mv ?_|refine TO.nil ?_)|((with_reducible first|apply TO.mv|apply TO.asg);(repeat (focus (show _ = _;first|exact k2 rfl|(simp only [zz,h2]<;>exact rfl))));(with_reducible apply TO.here))|((with_reducible apply TX.region);(focus (simp only []<;>exact rfl));(focus rfl);(try dsimp only))|((with_reducible apply TX.cond_true);(focus rfl);(focus ((simp only [z1,h2];done)))))
      cases hr
      refine ⟨.inr rfl,_,(by simp only [];exact rfl),?_⟩
      exact Wk.ren [] rfl .nil (by (repeat (first|exact RNs.nil|refine RNs.cons .junk ?_|refine RNs.cons (.keep rfl rfl) ?_|refine RNs.cons (.lsl rfl rfl) ?_|refine RNs.cons (.lsl rfl (by simp only [List.length_set])) ?_|refine RNs.cons (.lptr rfl) ?_|refine RNs.cons (.nil rfl) ?_|refine RNs.cons .nl ?_|refine RNs.cons (.keep (by simp only [h2]) rfl) ?_|refine RNs.cons (.tuple' ?_) ?_|refine RNs.cons (.agg' ?_) ?_)))
    · rw [if_neg (by rw [h2];exact Bool.false_ne_true)] at hr
      repeat (first|(with_reducible first|refine mv ?_|refine TO.nil ?_)|((with_reducible first|apply TO.bin|apply TO.mv);(repeat (focus (show _ = _;first|exact k2 rfl|(simp only [zz,y14,h2]<;>exact rfl))));(with_reducible apply TO.here))|((with_reducible apply TX.region);(focus (simp only []<;>exact rfl));(focus rfl);(try dsimp only))|((with_reducible apply TX.cond_false);(focus rfl);(focus ((simp only [z1,h2];done)))))
      refine TX.unroll ?_
      repeat (first|(with_reducible first|refine mv ?_|refine TO.nil ?_)|((with_reducible first|apply TO.bin|apply TO.ia|apply TO.ld|apply TO.asg|apply TO.mv);(repeat (focus (show _ = _;first|exact k2 rfl|(simp only [zz,y14,tindexAddr,z5,Int.reduceLT,tload,rowOf,partT]<;>exact rfl)|exact rfl)));(with_reducible apply TO.here))|((with_reducible apply TX.region);(focus (simp only []<;>exact rfl));(focus rfl);(try dsimp only))|((with_reducible apply TX.cond_true);(focus rfl);(focus (rfl))))
      obtain ⟨v7,h3,hr⟩:=Option.bind_eq_some_iff.1 hr
      try dsimp only at hr
      apply TO.cal (by first|rfl|(simp only [twant,z1,zp,zs,h2];done)) rfl goFn139 (loop_each_c1_544b_spec h3) rfl rfl rfl
      (repeat (focus (show _ = _;(simp only [zz,shift]<;>exact rfl))))
      with_reducible apply TO.here
      repeat (first|(with_reducible first|refine mv ?_|refine TO.nil ?_)|((with_reducible first|apply TO.asg|apply TO.mv|apply TO.bin);(repeat (focus (show _ = _;first|exact k2 rfl|(simp only [zz]<;>exact rfl))));(with_reducible apply TO.here))|((with_reducible apply TX.region);(focus (simp only []<;>exact rfl));(focus rfl);(try dsimp only)))
      rcases Bool.eq_false_or_eq_true ((decide (v7 ≠ 0))) with h4|h4
      · rw [if_pos h4] at hr
        repeat (first|(with_reducible first|refine mv ?_|refine TO.nil ?_)|((with_reducible first|apply TO.mv|apply TO.asg);(repeat (focus (show _ = _;first|exact k2 rfl|(simp only [zz,h4]<;>exact rfl))));(with_reducible apply TO.here))|((with_reducible apply TX.region);(focus (simp only []<;>exact rfl));(focus rfl);(try dsimp only))|((with_reducible apply TX.cond_true);(focus rfl);(focus ((simp only [z1,h4];done)))))
        cases hr
        refine ⟨.inr rfl,_,(by simp only [];exact rfl),?_⟩
        exact Wk.ren [] rfl .nil (by (repeat (first|exact RNs.nil|refine RNs.cons .junk ?_|refine RNs.cons (.keep rfl rfl) ?_|refine RNs.cons (.lsl rfl rfl) ?_|refine RNs.cons (.lsl rfl (by simp only [List.length_set])) ?_|refine RNs.cons (.lptr rfl) ?_|refine RNs.cons (.nil rfl) ?_|refine RNs.cons .nl ?_|refine RNs.cons (.keep (by simp only [h2,h4]) rfl) ?_|refine RNs.cons (.tuple' ?_) ?_|refine RNs.cons (.agg' ?_) ?_)))
      · rw [if_neg (by rw [h4];exact Bool.false_ne_true)] at hr
        repeat (first|(with_reducible first|refine mv ?_|refine TO.nil ?_)|((with_reducible first|apply TO.bin|apply TO.mv);(repeat (focus (show _ = _;first|exact k2 rfl|(simp only [zz,y14,h4]<;>exact rfl))));(with_reducible apply TO.here))|((with_reducible apply TX.region);(focus (simp only []<;>exact rfl));(focus rfl);(try dsimp only))|((with_reducible apply TX.cond_false);(focus rfl);(focus ((simp only [z1,h4];done)))))
        refine TX.unroll ?_
        repeat (first|(with_reducible first|refine mv ?_|refine TO.nil ?_)|((with_reducible first|apply TO.bin|apply TO.asg);(repeat (focus (show _ = _;first|exact k2 rfl|(simp only [zz]<;>exact rfl))));(with_reducible apply TO.here))|((with_reducible apply TX.region);(focus (simp only []<;>exact rfl));(focus rfl);(try dsimp only))|((with_reducible apply TX.cond_false);(focus rfl);(focus (rfl))))
        cases hr
        refine ⟨.inr rfl,_,(by simp only [];exact rfl),?_⟩
        exact Wk.ren [] rfl .nil (by (repeat (first|exact RNs.nil|refine RNs.cons .junk ?_|refine RNs.cons (.keep rfl rfl) ?_|refine RNs.cons (.lsl rfl rfl) ?_|refine RNs.cons (.lsl rfl (by simp only [List.length_set])) ?_|refine RNs.cons (.lptr rfl) ?_|refine RNs.cons (.nil rfl) ?_|refine RNs.cons .nl ?_|refine RNs.cons (.keep (by simp only [h2,h4]) rfl) ?_|refine RNs.cons (.tuple' ?_) ?_|refine RNs.cons (.agg' ?_) ?_)))
  rfl

end Go.Rex

namespace Go.Rex
open Go.Proofs
open Go Go.Rex Go.RowKit
set_option maxRecDepth 100000
set_option maxHeartbeats 200000
def y15:=an @ag81 <| an @cs101 <| an @fd126_0 <| an @fd83_0 <| an @so133 <| an @so81 <| @zc101
theorem loop_lines_check_spec {v1 : (List (List Int))} {v2 : Int} (hr : loop_lines_check v1 = some (v2)) : Spec (lim Try.prog) 91 [.agg [.list 1 (v1.map e_Li_)]] ⟨[.v (.int .i64 v2)],[]⟩:=by
  unfold loop_lines_check at hr
  apply Spec.fn Try.func91 rfl
  focus (simp [Try.f91]<;>exact rfl)
  focus
    repeat (first|(with_reducible first|refine mv ?_|refine TO.nil ?_)|((with_reducible first|apply TO.bf|apply TO.asg);(repeat (focus (show _ = _;first|exact k1 rfl|exact k2 rfl|(simp only [zz]<;>exact rfl)|exact rfl)));(with_reducible apply TO.here))|((with_reducible apply TX.region);(focus (simp only []<;>exact rfl));(focus rfl);(try dsimp only))|((with_reducible first|apply TD.fa|apply TD.ld|apply TD.len);(repeat (focus (show _ = _;first|exact k2 rfl|(simp only [zz,y15,Nat.reduceAdd,tfieldAddr,tload,rowOf,partT,tlen]<;>exact rfl)|exact rfl)));(with_reducible refine TD.here ?_))|((with_reducible apply TX.drawn);(focus decide +kernel);(focus (simp only []<;>exact rfl));(focus exact rfl);(try dsimp only)))
    obtain ⟨⟨v3,v4⟩,h1,hr⟩:=Option.bind_eq_some_iff.1 hr
    try dsimp only at hr
    first|apply TD.cal (by first|rfl|(simp only [twant,z1,zp,zs];done)) rfl goFn99 (loop_counted_spec h1) rfl rfl rfl|apply TD.calw (by first|rfl|(simp only [twant,z1,zp,zs];done)) rfl goFn99 (loop_counted_spec h1) rfl rfl rfl rfl
    (repeat (focus (show _ = _;(simp only [zz,shift]<;>exact rfl))))
    with_reducible apply TD.here
    repeat (first|((with_reducible first|apply TD.fa|apply TD.ld|apply TD.len|apply TD.mf);(repeat (focus (show _ = _;first|exact k1 rfl|exact k2 rfl|(simp only [zz,y15,Nat.reduceAdd,tfieldAddr,tload,rowOf,partT,tlen]<;>exact rfl)|exact rfl)));(with_reducible refine TD.here ?_)))
    obtain ⟨⟨v5,v6⟩,h2,hr⟩:=Option.bind_eq_some_iff.1 hr
    try dsimp only at hr
    first|apply TD.cal (by first|rfl|(simp only [twant,z1,zp,zs];done)) rfl goFn116 (loop_each_76a3_spec h2) rfl rfl rfl|apply TD.calw (by first|rfl|(simp only [twant,z1,zp,zs];done)) rfl goFn116 (loop_each_76a3_spec h2) rfl rfl rfl rfl
    (repeat (focus (show _ = _;(simp only [zz,shift]<;>exact rfl))))
    with_reducible apply TD.here
    repeat (first|((with_reducible apply TD.bs);(repeat (focus (show _ = _;first|exact k2 rfl|(simp only [zz,y15,Nat.reduceAdd,Nat.reduceMul,tslice,tparts]<;>exact rfl)|exact rfl)));(with_reducible refine TD.here ?_)))
    obtain ⟨v7,h3,hr⟩:=Option.bind_eq_some_iff.1 hr
    try dsimp only at hr
    first|apply TD.cal (by first|rfl|(simp only [twant,z1,zp,zs];done)) rfl goFn67 (loop_firstError_f586_spec h3) rfl rfl rfl|apply TD.calw (by first|rfl|(simp only [twant,z1,zp,zs];done)) rfl goFn67 (loop_firstError_f586_spec h3) rfl rfl rfl rfl
    (repeat (focus (show _ = _;(simp only [zz,shift]<;>exact rfl))))
    with_reducible apply TD.here
    repeat (first|(with_reducible first|refine mv ?_|refine TD.nil ?_)|((with_reducible apply TD.asg);(repeat (focus (show _ = _;first|exact k2 rfl|(simp only [zz]<;>exact rfl))));(with_reducible refine TD.here ?_)))
    cases hr
    refine ⟨.inr rfl,_,(by simp only [];exact rfl),?_⟩
    exact wr [] rfl .nil
  rfl

end Go.Rex

namespace Go.Rex
open Go.Proofs
open Go Go.Rex Go.RowKit
set_option maxRecDepth 100000
set_option maxHeartbeats 1000000
def y16:=an @ag22 <| an @ag3 <| an @ag81 <| an @by22 <| an @by3 <| an @cs22 <| an @cs3 <| an @fd126_0 <| an @fd83_0 <| an @ni146 <| an @ni22 <| an @ok22 <| an @ok3 <| an @so146 <| an @so22 <| an @so81 <| an @zc22 <| an @zc3 <| @wi64_0a1
theorem loop_lines_matrix_spec {v1 : (List (List Int))} {v2 : (List (List Int))} (hr : loop_lines_matrix v1 = some (v2)) : Spec (lim Try.prog) 125 [.agg [.list 1 (v1.map e_Li_)]] ⟨[.lsl 0 0 v2.length],[.rows 1 (v2.map e_Li_)]⟩:=by
  unfold loop_lines_matrix at hr
  apply Spec.fn Try.func125 rfl
  focus (simp [Try.f125]<;>exact rfl)
  focus
    repeat (first|(with_reducible first|refine mv ?_|refine TO.nil ?_)|((with_reducible first|apply TO.bf|apply TO.asg|apply TO.fa|apply TO.ld|apply TO.len|apply TO.mv);(repeat (focus (show _ = _;first|exact k1 rfl|exact k2 rfl|(simp only [zz,y16,Nat.reduceAdd,tfieldAddr,tload,rowOf,partT,tlen]<;>exact rfl)|exact rfl)));(with_reducible apply TO.here))|((with_reducible apply TX.region);(focus (simp only []<;>exact rfl));(focus rfl);(try dsimp only)))
    apply TX.vt (α:=(List Int)) e_Li_ 3 1 rfl
    (repeat (focus (show _ = _;(simp only [zz]<;>exact rfl))))
    with_reducible apply TX.here
    obtain ⟨v28,h23,hr⟩:=Option.bind_eq_some_iff.1 hr
    try dsimp only at hr
    refine TX.loopE (step:=loop_lines_matrix_l1 v1) (x:=(([] : List (List Int)),0)) h23 (fun (v3,v4)=>⟨.junk :: .junk :: .junk :: .lsl 0 0 v3.length :: .junk :: .junk :: .junk :: .junk :: .junk :: .junk :: .junk :: .list 1 (v1.map e_Li_) :: .v (.int .i64 (v1.length : Int)) :: .v (.int .i64 v4) :: .junk :: .junk :: .junk :: .junk :: .junk :: .junk :: .junk :: .junk :: .junk :: .junk :: .junk :: .junk :: .junk :: .junk :: .junk :: .junk :: .junk :: .junk :: .junk :: .junk :: .junk :: .junk :: .junk :: .junk :: .junk :: .junk :: .junk :: .junk :: [],[.rows 1 (v3.map e_Li_)]⟩) (fun v16=>(.exit 0,⟨.junk :: .junk :: .junk :: .lsl 0 0 v16.length :: .junk :: .junk :: .junk :: .junk :: .junk :: .junk :: .junk :: .junk :: .junk :: .junk :: .junk :: .junk :: .junk :: .junk :: .junk :: .junk :: .junk :: .junk :: .junk :: .junk :: .junk :: .junk :: .junk :: .junk :: .junk :: .junk :: .junk :: .junk :: .junk :: .junk :: .junk :: .junk :: .junk :: .junk :: .junk :: .junk :: .junk :: .junk :: [],[.rows 1 (v16.map e_Li_)]⟩)) ?_ ?_ ?_ ?_
    · rintro ⟨v3,v4⟩ v0 hr
      dsimp only [loop_lines_matrix_l1] at hr
      try dsimp only
      repeat (first|(with_reducible first|refine mv ?_|refine TO.nil ?_)|((with_reducible apply TO.bin);(repeat (focus (show _ = _;first|exact k2 rfl|(simp only [zz]<;>exact rfl))));(with_reducible apply TO.here))|((with_reducible apply TX.region);(focus (simp only []<;>exact rfl));(focus rfl);(try dsimp only)))
      rcases Bool.eq_false_or_eq_true ((decide (v4 < (v1.length : Int)))) with h12|h12
      · rw [if_pos h12] at hr
        repeat (first|with_reducible refine mv ?_|((with_reducible apply TO.mv);(repeat (focus (show _ = _;first|exact k2 rfl|(simp only [zz,h12]<;>exact rfl))));(with_reducible apply TO.here))|((with_reducible apply TX.region);(focus (simp only []<;>exact rfl));(focus rfl);(try dsimp only))|((with_reducible apply TX.cond_true);(focus rfl);(focus ((simp only [z1,h12];done)))))
        obtain ⟨v17,h13,hr⟩:=Option.bind_eq_some_iff.1 hr
        try dsimp only at hr
        have h13m:=tidx_map (f:=e_Li_) h13
        have h13l:=getI_lt h13
        try simp only [List.length_set] at h13l
        have h13a:=getI_at h13
        repeat (first|(with_reducible first|refine mv ?_|refine TO.nil ?_)|((with_reducible first|apply TO.ia|apply TO.ld|apply TO.asg|apply TO.mv|apply TO.len);(repeat (focus (show _ = _;first|exact k2 rfl|(simp only [zz,y16,e_Li_,tindexAddr,tload,rowOf,partT,tlen,h13m]<;>exact rfl)|exact rfl)));(with_reducible apply TO.here))|((with_reducible apply TX.region);(focus (simp only []<;>exact rfl));(focus rfl);(try dsimp only)))
        apply TX.vt (α:=Int) e_i 6 1 rfl
        (repeat (focus (show _ = _;(simp only [zz,Nat.reduceAdd]<;>exact rfl))))
        with_reducible apply TX.here
        obtain ⟨v25,h20,hr⟩:=Option.bind_eq_some_iff.1 hr
        try dsimp only at hr
        refine TX.loopE (step:=loop_lines_matrix_l2 v17) (x:=(([] : List Int),0)) h20 (fun (v18,v19)=>⟨.junk :: .junk :: .junk :: .lsl 0 0 v3.length :: .v (.int .i64 v4) :: .junk :: .lsl 1 0 v18.length :: .junk :: .junk :: .junk :: .junk :: .list 1 (v1.map e_Li_) :: .v (.int .i64 (v1.length : Int)) :: .v (.int .i64 v4) :: .junk :: .junk :: .junk :: .junk :: .list 1 (v17.map e_i) :: .v (.int .i64 (v17.length : Int)) :: .v (.int .i64 v19) :: .junk :: .junk :: .junk :: .junk :: .junk :: .junk :: .junk :: .junk :: .junk :: .junk :: .junk :: .junk :: .junk :: .junk :: .junk :: .junk :: .junk :: .junk :: .junk :: .junk :: .junk :: [],[.rows 1 (v3.map e_Li_),.rows 1 (v18.map e_i)]⟩) (fun v22=>(.exit 2,⟨.junk :: .junk :: .junk :: .lsl 0 0 v3.length :: .v (.int .i64 v4) :: .junk :: .lsl 1 0 v22.length :: .junk :: .junk :: .junk :: .junk :: .list 1 (v1.map e_Li_) :: .v (.int .i64 (v1.length : Int)) :: .v (.int .i64 v4) :: .junk :: .junk :: .junk :: .junk :: .junk :: .junk :: .junk :: .junk :: .junk :: .junk :: .junk :: .junk :: .junk :: .junk :: .junk :: .junk :: .junk :: .junk :: .junk :: .junk :: .junk :: .junk :: .junk :: .junk :: .junk :: .junk :: .junk :: .junk :: [],[.rows 1 (v3.map e_Li_),.rows 1 (v22.map e_i)]⟩)) ?_ ?_ ?_ ?_
        · rintro ⟨v18,v19⟩ v0 hr
          dsimp only [loop_lines_matrix_l2] at hr
          try dsimp only
          repeat (first|(with_reducible first|refine mv ?_|refine TO.nil ?_)|((with_reducible apply TO.bin);(repeat (focus (show _ = _;first|exact k2 rfl|(simp only [zz]<;>exact rfl))));(with_reducible apply TO.here))|((with_reducible apply TX.region);(focus (simp only []<;>exact rfl));(focus rfl);(try dsimp only)))
          rcases Bool.eq_false_or_eq_true ((decide (v19 < (v17.length : Int)))) with h17|h17
          · rw [if_pos h17] at hr
            repeat (first|with_reducible refine mv ?_|((with_reducible apply TX.region);(focus (simp only []<;>exact rfl));(focus rfl);(try dsimp only))|((with_reducible apply TX.cond_true);(focus rfl);(focus ((simp only [z1,h17];done)))))
            obtain ⟨v23,h18,hr⟩:=Option.bind_eq_some_iff.1 hr
            try dsimp only at hr
            have h18m:=tidx_map (f:=e_i) h18
            have h18l:=getI_lt h18
            try simp only [List.length_set] at h18l
            have h18a:=getI_at h18
            repeat (first|(with_reducible first|refine mv ?_|refine TO.nil ?_)|((with_reducible first|apply TO.ia|apply TO.ld|apply TO.asg|apply TO.mv);(repeat (focus (show _ = _;first|exact k2 rfl|(simp only [zz,y16,e_i,tindexAddr,tload,rowOf,partT,h18m,h18l]<;>exact rfl)|exact rfl)));(with_reducible apply TO.here))|((with_reducible apply TX.region);(focus (simp only []<;>exact rfl));(focus rfl);(try dsimp only)))
            apply TO.pop1 (by first|rfl|(simp only [twant,z1,zp,zs,h12,h13m,h13l,h13a,h17,h18m,h18l,h18a];done)) (pop_neg rfl)
            (repeat (focus (show _ = _;(simp only [zz]<;>exact rfl))))
            with_reducible apply TO.here
            apply TO.bm e_i ([(IntKind.i64.wrap (0 - v23))] : List Int) (by first|rfl|(simp only [twant,z1,zp,zs,h12,h13m,h13l,h13a,h17,h18m,h18l,h18a];done)) rfl (by simp only [zz,y16,e_i,Nat.reduceAdd,Nat.reduceMul,tslice,tparts];exact rfl) rfl
            (repeat (focus (show _ = _;(simp only [zz,e_i]<;>exact rfl))))
            with_reducible apply TO.here
            obtain ⟨v24,h19,hr⟩:=Option.bind_eq_some_iff.1 hr
            try dsimp only at hr
            apply TO.ap (f:=e_i) (xs:=v18) (ys:=([(IntKind.i64.wrap (0 - v23))] : List Int)) (by first|rfl|(simp only [twant,z1,zp,zs,h12,h13m,h13l,h13a,h17,h18m,h18l,h18a];done)) rfl rfl (by first|rfl|simp only [List.length_set]) rfl rfl so22 ni22 zc3 rfl (by rw [by3];exact h19) (fun _=>⟨rfl,rfl,rfl⟩)
            (repeat (focus (show _ = _;(simp only [zz,Nat.reduceAdd,Nat.reduceEqDiff,kill,killB]<;>exact rfl))))
            with_reducible apply TO.here
            repeat (first|(with_reducible first|refine mv ?_|refine TO.nil ?_)|((with_reducible first|apply TO.asg|apply TO.bin|apply TO.mv);(repeat (focus (show _ = _;first|exact k2 rfl|(simp only [zz]<;>exact rfl))));(with_reducible apply TO.here))|((with_reducible apply TX.region);(focus (simp only []<;>exact rfl));(focus rfl);(try dsimp only)))
            cases hr
            refine ⟨rfl,?_⟩
            exact Wk.ren [some 0,some 1] rfl (.rows (.rows .nil rfl rfl) rfl rfl) (by (repeat (first|exact RNs.nil|refine RNs.cons .junk ?_|refine RNs.cons (.keep rfl rfl) ?_|refine RNs.cons (.lsl rfl rfl) ?_|refine RNs.cons (.lsl rfl (by simp only [List.length_set])) ?_|refine RNs.cons (.lptr rfl) ?_|refine RNs.cons (.nil rfl) ?_|refine RNs.cons .nl ?_|refine RNs.cons (.keep (by simp only [h12,h17]) rfl) ?_|refine RNs.cons (.tuple' ?_) ?_|refine RNs.cons (.agg' ?_) ?_)))
          · rw [if_neg (by rw [h17];exact Bool.false_ne_true)] at hr
            repeat (first|with_reducible refine mv ?_|((with_reducible apply TX.cond_false);(focus rfl);(focus ((simp only [z1,h17];done)))))
            cases hr
            refine ⟨rfl,?_⟩
            exact Wk.ren [some 0,some 1] rfl (.rows (.rows .nil rfl rfl) rfl rfl) (by (repeat (first|exact RNs.nil|refine RNs.cons .junk ?_|refine RNs.cons (.keep rfl rfl) ?_|refine RNs.cons (.lsl rfl rfl) ?_|refine RNs.cons (.lsl rfl (by simp only [List.length_set])) ?_|refine RNs.cons (.lptr rfl) ?_|refine RNs.cons (.nil rfl) ?_|refine RNs.cons .nl ?_|refine RNs.cons (.keep (by simp only [h12,h17]) rfl) ?_|refine RNs.cons (.tuple' ?_) ?_|refine RNs.cons (.agg' ?_) ?_)))
        · intro e h;cases h
        · try dsimp only
          repeat (first|with_reducible refine mv ?_|((with_reducible apply TO.mv);(repeat (focus (show _ = _;first|exact k2 rfl|(simp only [zz]<;>exact rfl))));(with_reducible apply TO.here))|((with_reducible apply TX.region);(focus (simp only []<;>exact rfl));(focus rfl);(try dsimp only)))
          obtain ⟨v26,h21,hr⟩:=Option.bind_eq_some_iff.1 hr
          try dsimp only at hr
          have h21m:=tidx_map (f:=e_i) h21
          have h21l:=getI_lt h21
          try simp only [List.length_set] at h21l
          have h21a:=getI_at h21
          repeat (first|((with_reducible first|apply TO.ia|apply TO.ld|apply TO.bin);(repeat (focus (show _ = _;first|exact k2 rfl|(simp only [zz,y16,e_i,tindexAddr,Nat.zero_add,tload,rowOf,partT,List.getElem?_map,h13l,h21l,h21a]<;>exact rfl)|exact rfl)));(with_reducible apply TO.here)))
          apply TO.sr e_i v25 v26 (IntKind.i64.wrap (v26 + 1000)) h21a (by first|rfl|(simp only [twant,z1,zp,zs,h12,h13m,h13l,h13a,h21m,h21l,h21a];done)) rfl rfl rfl rfl rfl ok3 (by rw [cs3];rfl) rfl rfl rfl rfl
          (repeat (focus (show _ = _;(simp only [zz]<;>exact rfl))))
          with_reducible apply TO.here
          repeat (first|(with_reducible first|refine mv ?_|refine TO.nil ?_)|((with_reducible apply TO.mv);(repeat (focus (show _ = _;first|exact k2 rfl|(simp only [zz]<;>exact rfl))));(with_reducible apply TO.here))|((with_reducible apply TX.region);(focus (simp only []<;>exact rfl));(focus rfl);(try dsimp only)))
          apply TO.frz 1 rfl rfl
          (repeat (focus (show _ = _;(simp only [zz,Nat.reduceEqDiff,frz,frzB,tmlc,List.length_set]<;>exact rfl))))
          with_reducible apply TO.here
          apply TO.bm e_Li_ ([(v25.set v4.toNat (IntKind.i64.wrap (v26 + 1000)))] : List (List Int)) (by first|rfl|(simp only [twant,z1,zp,zs,h12,h13m,h13l,h13a,h21m,h21l,h21a];done)) rfl (by simp only [zz,y16,e_Li_,Nat.reduceAdd,Nat.reduceMul,tslice,tparts];exact rfl) rfl
          (repeat (focus (show _ = _;(simp only [zz,e_Li_]<;>exact rfl))))
          with_reducible apply TO.here
          obtain ⟨v27,h22,hr⟩:=Option.bind_eq_some_iff.1 hr
          try dsimp only at hr
          apply TO.ap (f:=e_Li_) (xs:=v3) (ys:=([(v25.set v4.toNat (IntKind.i64.wrap (v26 + 1000)))] : List (List Int))) (by first|rfl|(simp only [twant,z1,zp,zs,h12,h13m,h13l,h13a,h21m,h21l,h21a];done)) rfl rfl (by first|rfl|simp only [List.length_set]) rfl rfl so146 ni146 zc22 rfl (by rw [by22];exact h22) (fun _=>⟨rfl,rfl,rfl⟩)
          (repeat (focus (show _ = _;(simp only [zz,Nat.reduceAdd,kill,killB]<;>exact rfl))))
          with_reducible apply TO.here
          repeat (first|(with_reducible first|refine mv ?_|refine TO.nil ?_)|((with_reducible first|apply TO.asg|apply TO.bin|apply TO.mv);(repeat (focus (show _ = _;first|exact k2 rfl|(simp only [zz]<;>exact rfl))));(with_reducible apply TO.here))|((with_reducible apply TX.region);(focus (simp only []<;>exact rfl));(focus rfl);(try dsimp only)))
          cases hr
          refine ⟨rfl,?_⟩
          exact Wk.ren [some 0] rfl (.rows .nil rfl rfl) (by (repeat (first|exact RNs.nil|refine RNs.cons .junk ?_|refine RNs.cons (.keep rfl rfl) ?_|refine RNs.cons (.lsl rfl rfl) ?_|refine RNs.cons (.lsl rfl (by simp only [List.length_set])) ?_|refine RNs.cons (.lptr rfl) ?_|refine RNs.cons (.nil rfl) ?_|refine RNs.cons .nl ?_|refine RNs.cons (.keep (by simp only [h12]) rfl) ?_|refine RNs.cons (.tuple' ?_) ?_|refine RNs.cons (.agg' ?_) ?_)))
        · try dsimp only
          exact Wk.ren [some 0,some 1] rfl (.rows (.rows .nil rfl rfl) rfl rfl) (by (repeat (first|exact RNs.nil|refine RNs.cons .junk ?_|refine RNs.cons (.keep rfl rfl) ?_|refine RNs.cons (.lsl rfl rfl) ?_|refine RNs.cons (.lsl rfl (by simp only [List.length_set])) ?_|refine RNs.cons (.lptr rfl) ?_|refine RNs.cons (.nil rfl) ?_|refine RNs.cons .nl ?_|refine RNs.cons (.keep (by simp only [h12]) rfl) ?_|refine RNs.cons (.tuple' ?_) ?_|refine RNs.cons (.agg' ?_) ?_)))
      · rw [if_neg (by rw [h12];exact Bool.false_ne_true)] at hr
        repeat (first|with_reducible refine mv ?_|((with_reducible apply TX.cond_false);(focus rfl);(focus ((simp only [z1,h12];done)))))
        cases hr
        refine ⟨rfl,?_⟩
        exact Wk.ren [some 0] rfl (.rows .nil rfl rfl) (by (repeat (first|exact RNs.nil|refine RNs.cons .junk ?_|refine RNs.cons (.keep rfl rfl) ?_|refine RNs.cons (.lsl rfl rfl) ?_|refine RNs.cons (.lsl rfl (by simp only [List.length_set])) ?_|refine RNs.cons (.lptr rfl) ?_|refine RNs.cons (.nil rfl) ?_|refine RNs.cons .nl ?_|refine RNs.cons (.keep (by simp only [h12]) rfl) ?_|refine RNs.cons (.tuple' ?_) ?_|refine RNs.cons (.agg' ?_) ?_)))
    · intro e h;cases h
    · try dsimp only
      repeat (first|(with_reducible first|refine mv ?_|refine TO.nil ?_)|((with_reducible first|apply TO.mv|apply TO.asg);(repeat (focus (show _ = _;first|exact k2 rfl|(simp only [zz]<;>exact rfl))));(with_reducible apply TO.here))|((with_reducible apply TX.region);(focus (simp only []<;>exact rfl));(focus rfl);(try dsimp only)))
      cases hr
      refine ⟨.inr rfl,_,(by simp only [];exact rfl),?_⟩
      exact wr [some 0] rfl (.rows .nil rfl rfl)
    · try dsimp only
      exact wr [some 0] rfl (.rows .nil rfl rfl)
  rfl

end Go.Rex

namespace Go.Rex
open Go.Proofs
open Go Go.Rex Go.RowKit
set_option maxRecDepth 100000
set_option maxHeartbeats 200000
def y17:=an @ag22 <| an @by22 <| an @cs22 <| an @cs3 <| an @ni146 <| an @ok22 <| an @ok3 <| an @so146 <| an @so22 <| an @zc22 <| @wi64_0a1
theorem loop_matrix_leading_spec {v1 : (List (List Int))} {v2 : Int} {v3 : (List (List Int))} (hr : loop_matrix_leading v1 v2 = some (v3)) : Spec (lim Try.prog) 126 [.list 1 (v1.map e_Li_),.v (.int .i64 v2)] ⟨[.lsl 0 0 v3.length],[.rows 1 (v3.map e_Li_)]⟩:=by
  unfold loop_matrix_leading at hr
  apply Spec.fn Try.func126 rfl
  focus (simp [Try.f126]<;>exact rfl)
  focus
    repeat (first|(with_reducible first|refine mv ?_|refine TO.nil ?_)|((with_reducible first|apply TO.asg|apply TO.mv);(repeat (focus (show _ = _;first|exact k2 rfl|(simp only [zz]<;>exact rfl))));(with_reducible apply TO.here))|((with_reducible apply TX.region);(focus (simp only []<;>exact rfl));(focus rfl);(try dsimp only)))
    obtain ⟨v4,h1,hr⟩:=Option.bind_eq_some_iff.1 hr
    try dsimp only at hr
    apply TO.sb e_Li_ h1 (by first|rfl|(simp only [twant,z1,zp,zs];done)) rfl rfl rfl so146 ok22 cs22 (by first|exact .inl ⟨rfl,rfl⟩|exact .inr ⟨_,rfl⟩) (by first|exact .inl ⟨rfl,rfl⟩|exact .inr ⟨_,rfl⟩)
    (repeat (focus (show _ = _;(simp only [zz]<;>exact rfl))))
    with_reducible apply TO.here
    repeat (first|(with_reducible first|refine mv ?_|refine TO.nil ?_)|((with_reducible first|apply TO.len|apply TO.mv);(repeat (focus (show _ = _;first|exact k2 rfl|(simp only [zz,y17,tlen]<;>exact rfl))));(with_reducible apply TO.here)))
    apply TX.vt (α:=(List Int)) e_Li_ 5 1 rfl
    (repeat (focus (show _ = _;(simp only [zz]<;>exact rfl))))
    with_reducible apply TX.here
    obtain ⟨v14,h10,hr⟩:=Option.bind_eq_some_iff.1 hr
    try dsimp only at hr
    refine TX.loopE (step:=loop_matrix_leading_l1 v2 v4) (x:=(([] : List (List Int)),0)) h10 (fun (v5,v6)=>⟨.junk :: .v (.int .i64 v2) :: .junk :: .junk :: .junk :: .lsl 0 0 v5.length :: .junk :: .junk :: .junk :: .junk :: .list 1 (v4.map e_Li_) :: .v (.int .i64 (v4.length : Int)) :: .v (.int .i64 v6) :: .junk :: .junk :: .junk :: .junk :: .junk :: .junk :: .junk :: .junk :: .junk :: .junk :: .junk :: [],[.rows 1 (v5.map e_Li_)]⟩) (fun v10=>(.exit 0,⟨.junk :: .junk :: .junk :: .junk :: .junk :: .lsl 0 0 v10.length :: .junk :: .junk :: .junk :: .junk :: .junk :: .junk :: .junk :: .junk :: .junk :: .junk :: .junk :: .junk :: .junk :: .junk :: .junk :: .junk :: .junk :: .junk :: [],[.rows 1 (v10.map e_Li_)]⟩)) ?_ ?_ ?_ ?_
    · rintro ⟨v5,v6⟩ v0 hr
      dsimp only [loop_matrix_leading_l1] at hr
      try dsimp only
      repeat (first|(with_reducible first|refine mv ?_|refine TO.nil ?_)|((with_reducible apply TO.bin);(repeat (focus (show _ = _;first|exact k2 rfl|(simp only [zz]<;>exact rfl))));(with_reducible apply TO.here))|((with_reducible apply TX.region);(focus (simp only []<;>exact rfl));(focus rfl);(try dsimp only)))
      rcases Bool.eq_false_or_eq_true ((decide (v6 < (v4.length : Int)))) with h6|h6
      · rw [if_pos h6] at hr
        repeat (first|with_reducible refine mv ?_|((with_reducible apply TX.region);(focus (simp only []<;>exact rfl));(focus rfl);(try dsimp only))|((with_reducible apply TX.cond_true);(focus rfl);(focus ((simp only [z1,h6];done)))))
        obtain ⟨v11,h7,hr⟩:=Option.bind_eq_some_iff.1 hr
        try dsimp only at hr
        have h7m:=tidx_map (f:=e_Li_) h7
        have h7l:=getI_lt h7
        try simp only [List.length_set] at h7l
        have h7a:=getI_at h7
        repeat (first|(with_reducible first|refine mv ?_|refine TO.nil ?_)|((with_reducible first|apply TO.ia|apply TO.ld|apply TO.asg|apply TO.mv);(repeat (focus (show _ = _;first|exact k2 rfl|(simp only [zz,y17,e_Li_,tindexAddr,tload,rowOf,partT,h7m,h7l]<;>exact rfl)|exact rfl)));(with_reducible apply TO.here))|((with_reducible apply TX.region);(focus (simp only []<;>exact rfl));(focus rfl);(try dsimp only)))
        obtain ⟨v12,h8,hr⟩:=Option.bind_eq_some_iff.1 hr
        try dsimp only at hr
        apply TO.sb e_i h8 (by first|rfl|(simp only [twant,z1,zp,zs,h6,h7m,h7l,h7a];done)) rfl rfl rfl so22 ok3 cs3 (by first|exact .inl ⟨rfl,rfl⟩|exact .inr ⟨_,rfl⟩) (by first|exact .inl ⟨rfl,rfl⟩|exact .inr ⟨_,rfl⟩)
        (repeat (focus (show _ = _;(simp only [zz]<;>exact rfl))))
        with_reducible apply TO.here
        apply TO.bm e_Li_ ([v12] : List (List Int)) (by first|rfl|(simp only [twant,z1,zp,zs,h6,h7m,h7l,h7a];done)) rfl (by simp only [zz,y17,e_Li_,Nat.reduceAdd,Nat.reduceMul,tslice,tparts];exact rfl) rfl
        (repeat (focus (show _ = _;(simp only [zz,e_Li_]<;>exact rfl))))
        with_reducible apply TO.here
        obtain ⟨v13,h9,hr⟩:=Option.bind_eq_some_iff.1 hr
        try dsimp only at hr
        apply TO.ap (f:=e_Li_) (xs:=v5) (ys:=([v12] : List (List Int))) (by first|rfl|(simp only [twant,z1,zp,zs,h6,h7m,h7l,h7a];done)) rfl rfl (by first|rfl|simp only [List.length_set]) rfl rfl so146 ni146 zc22 rfl (by rw [by22];exact h9) (fun _=>⟨rfl,rfl,rfl⟩)
        (repeat (focus (show _ = _;(simp only [zz,Nat.reduceAdd,kill,killB]<;>exact rfl))))
        with_reducible apply TO.here
        repeat (first|(with_reducible first|refine mv ?_|refine TO.nil ?_)|((with_reducible first|apply TO.asg|apply TO.bin|apply TO.mv);(repeat (focus (show _ = _;first|exact k2 rfl|(simp only [zz]<;>exact rfl))));(with_reducible apply TO.here))|((with_reducible apply TX.region);(focus (simp only []<;>exact rfl));(focus rfl);(try dsimp only)))
        cases hr
        refine ⟨rfl,?_⟩
        exact Wk.ren [some 0] rfl (.rows .nil rfl rfl) (by (repeat (first|exact RNs.nil|refine RNs.cons .junk ?_|refine RNs.cons (.keep rfl rfl) ?_|refine RNs.cons (.lsl rfl rfl) ?_|refine RNs.cons (.lsl rfl (by simp only [List.length_set])) ?_|refine RNs.cons (.lptr rfl) ?_|refine RNs.cons (.nil rfl) ?_|refine RNs.cons .nl ?_|refine RNs.cons (.keep (by simp only [h6]) rfl) ?_|refine RNs.cons (.tuple' ?_) ?_|refine RNs.cons (.agg' ?_) ?_)))
      · rw [if_neg (by rw [h6];exact Bool.false_ne_true)] at hr
        repeat (first|with_reducible refine mv ?_|((with_reducible apply TX.cond_false);(focus rfl);(focus ((simp only [z1,h6];done)))))
        cases hr
        refine ⟨rfl,?_⟩
        exact Wk.ren [some 0] rfl (.rows .nil rfl rfl) (by (repeat (first|exact RNs.nil|refine RNs.cons .junk ?_|refine RNs.cons (.keep rfl rfl) ?_|refine RNs.cons (.lsl rfl rfl) ?_|refine RNs.cons (.lsl rfl (by simp only [List.length_set])) ?_|refine RNs.cons (.lptr rfl) ?_|refine RNs.cons (.nil rfl) ?_|refine RNs.cons .nl ?_|refine RNs.cons (.keep (by simp only [h6]) rfl) ?_|refine RNs.cons (.tuple' ?_) ?_|refine RNs.cons (.agg' ?_) ?_)))
    · intro e h;cases h
    · try dsimp only
      repeat (first|(with_reducible first|refine mv ?_|refine TO.nil ?_)|((with_reducible first|apply TO.mv|apply TO.asg);(repeat (focus (show _ = _;first|exact k2 rfl|(simp only [zz]<;>exact rfl))));(with_reducible apply TO.here))|((with_reducible apply TX.region);(focus (simp only []<;>exact rfl));(focus rfl);(try dsimp only)))
      cases hr
      refine ⟨.inr rfl,_,(by simp only [];exact rfl),?_⟩
      exact wr [some 0] rfl (.rows .nil rfl rfl)
    · try dsimp only
      exact wr [some 0] rfl (.rows .nil rfl rfl)
  rfl

end Go.Rex

namespace Go.Rex
open Go.Proofs
open Go Go.Rex Go.RowKit
set_option maxRecDepth 100000
set_option maxHeartbeats 200000
def y18:=an @by3 <| an @cs3 <| an @it3 <| an @ok3 <| an @so22 <| an @zc3 <| @wi64_0s0
theorem slices_Grow_int_int_3c69_spec {v1 : Int} {v2 : (List Int)} {v3 : Nat} (hr : slices_Grow_int_int_3c69 v1 = some (v2,v3)) : Spec (lim Try.prog) 145 [.v (.slice none 0 0),.v (.int .i64 v1)] ⟨[.lsl 0 0 v3],[.rows 1 (v2.map e_i)]⟩:=by
  unfold slices_Grow_int_int_3c69 at hr
  apply Spec.fn Try.func145 rfl
  focus (simp [Try.f145]<;>exact rfl)
  focus
    repeat (first|(with_reducible first|refine mv ?_|refine TO.nil ?_)|((with_reducible first|apply TO.asg|apply TO.mv|apply TO.bin);(repeat (focus (show _ = _;first|exact k2 rfl|(simp only [zz]<;>exact rfl))));(with_reducible apply TO.here))|((with_reducible apply TX.region);(focus (simp only []<;>exact rfl));(focus rfl);(try dsimp only)))
    rcases Bool.eq_false_or_eq_true ((decide (v1 < 0))) with h1|h1
    · rw [if_pos h1] at hr
      cases hr
    · rw [if_neg (by rw [h1];exact Bool.false_ne_true)] at hr
      repeat (first|with_reducible refine mv ?_|((with_reducible apply TO.mv);(repeat (focus (show _ = _;first|exact k2 rfl|(simp only [zz,h1]<;>exact rfl))));(with_reducible apply TO.here))|((with_reducible apply TX.region);(focus (simp only []<;>exact rfl));(focus rfl);(try dsimp only))|((with_reducible apply TX.cond_false);(focus rfl);(focus ((simp only [z1,h1];done)))))
      apply TO.pop1 (by first|rfl|(simp only [twant,z1,zp,zs,h1];done)) (pop_capnil rfl (so22))
      (repeat (focus (show _ = _;(simp only [zz]<;>exact rfl))))
      with_reducible apply TO.here
      repeat (first|((with_reducible apply TO.mv);(repeat (focus (show _ = _;first|exact k2 rfl|(simp only [zz]<;>exact rfl))));(with_reducible apply TO.here)))
      apply TO.pop1 (by first|rfl|(simp only [twant,z1,zp,zs,h1];done)) (pop_lennil rfl (so22))
      (repeat (focus (show _ = _;(simp only [zz]<;>exact rfl))))
      with_reducible apply TO.here
      repeat (first|(with_reducible first|refine mv ?_|refine TO.nil ?_)|((with_reducible first|apply TO.bin|apply TO.asg|apply TO.mv);(repeat (focus (show _ = _;first|exact k2 rfl|(simp only [zz,y18]<;>exact rfl))));(with_reducible apply TO.here))|((with_reducible apply TX.region);(focus (simp only []<;>exact rfl));(focus rfl);(try dsimp only)))
      rcases Bool.eq_false_or_eq_true ((decide ((IntKind.i64.wrap (v1 - 0)) > 0))) with h2|h2
      · rw [if_pos h2] at hr
        repeat (first|((with_reducible apply TO.mv);(repeat (focus (show _ = _;first|exact k2 rfl|(simp only [zz,h2]<;>exact rfl))));(with_reducible apply TO.here))|((with_reducible apply TX.region);(focus (simp only []<;>exact rfl));(focus rfl);(try dsimp only))|((with_reducible apply TX.cond_true);(focus rfl);(focus ((simp only [z1,h2];done)))))
        apply TO.pop1 (by first|rfl|(simp only [twant,z1,zp,zs,h1,h2];done)) (pop_capnil rfl (so22))
        (repeat (focus (show _ = _;(simp only [zz]<;>exact rfl))))
        with_reducible apply TO.here
        apply TO.pop1 (by first|rfl|(simp only [twant,z1,zp,zs,h1,h2];done)) (pop_nilcut rfl rfl (so22) (ok3))
        (repeat (focus (show _ = _;(simp only [zz]<;>exact rfl))))
        with_reducible apply TO.here
        repeat (first|((with_reducible apply TO.mv);(repeat (focus (show _ = _;first|exact k2 rfl|(simp only [zz]<;>exact rfl))));(with_reducible apply TO.here)))
        obtain ⟨v4,h3,hr⟩:=Option.bind_eq_some_iff.1 hr
        try dsimp only at hr
        apply TO.az e_i h3 (by first|rfl|(simp only [twant,z1,zp,zs,h1,h2];done)) rfl rfl so22 it3 zc3 by3 rfl rfl rfl
        (repeat (focus (show _ = _;(simp only [zz,Nat.reduceAdd]<;>exact rfl))))
        with_reducible apply TO.here
        repeat (first|((with_reducible apply TO.mv);(repeat (focus (show _ = _;first|exact k2 rfl|(simp only [zz]<;>exact rfl))));(with_reducible apply TO.here)))
        apply TO.pop1 (by first|rfl|(simp only [twant,z1,zp,zs,h1,h2];done)) (pop_lennil rfl (so22))
        (repeat (focus (show _ = _;(simp only [zz]<;>exact rfl))))
        with_reducible apply TO.here
        obtain ⟨v5,h4,hr⟩:=Option.bind_eq_some_iff.1 hr
        try dsimp only at hr
        apply TO.ct e_i h4 (by first|rfl|(simp only [twant,z1,zp,zs,h1,h2];done)) rfl rfl rfl so22 ok3 cs3
        (repeat (focus (show _ = _;(simp only [zz]<;>exact rfl))))
        with_reducible apply TO.here
        repeat (first|(with_reducible first|refine mv ?_|refine TO.nil ?_)|((with_reducible first|apply TO.asg|apply TO.mv);(repeat (focus (show _ = _;first|exact k2 rfl|(simp only [zz]<;>exact rfl))));(with_reducible apply TO.here))|((with_reducible apply TX.region);(focus (simp only []<;>exact rfl));(focus rfl);(try dsimp only)))
        cases hr
        refine ⟨.inr rfl,_,(by simp only [];exact rfl),?_⟩
        exact Wk.ren [some 0] rfl (.rows .nil rfl rfl) (by (repeat (first|exact RNs.nil|refine RNs.cons .junk ?_|refine RNs.cons (.keep rfl rfl) ?_|refine RNs.cons (.lsl rfl rfl) ?_|refine RNs.cons (.lsl rfl (by simp only [List.length_set])) ?_|refine RNs.cons (.lptr rfl) ?_|refine RNs.cons (.nil rfl) ?_|refine RNs.cons .nl ?_|refine RNs.cons (.keep (by simp only [h1,h2]) rfl) ?_|refine RNs.cons (.tuple' ?_) ?_|refine RNs.cons (.agg' ?_) ?_)))
      · rw [if_neg (by rw [h2];exact Bool.false_ne_true)] at hr
        repeat (first|(with_reducible first|refine mv ?_|refine TO.nil ?_)|((with_reducible first|apply TO.mv|apply TO.asg);(repeat (focus (show _ = _;first|exact k2 rfl|(simp only [zz,h2]<;>exact rfl))));(with_reducible apply TO.here))|((with_reducible apply TX.region);(focus (simp only []<;>exact rfl));(focus rfl);(try dsimp only))|((with_reducible apply TX.cond_false);(focus rfl);(focus ((simp only [z1,h2];done)))))
        cases hr
        refine ⟨.inr rfl,_,(by simp only [];exact rfl),?_⟩
        exact Wk.ren [none] rfl (.virt .nil) (by (repeat (first|exact RNs.nil|refine RNs.cons .junk ?_|refine RNs.cons (.keep rfl rfl) ?_|refine RNs.cons (.lsl rfl rfl) ?_|refine RNs.cons (.lsl rfl (by simp only [List.length_set])) ?_|refine RNs.cons (.lptr rfl) ?_|refine RNs.cons (.nil rfl) ?_|refine RNs.cons .nl ?_|refine RNs.cons (.keep (by simp only [h1,h2]) rfl) ?_|refine RNs.cons (.tuple' ?_) ?_|refine RNs.cons (.agg' ?_) ?_)))
  rfl

end Go.Rex

namespace Go.Rex
open Go.Proofs
open Go Go.Rex Go.RowKit
set_option maxRecDepth 100000
set_option maxHeartbeats 200000
def y19:=an @ag22 <| an @by3 <| an @cs22 <| an @ni22 <| an @ok22 <| an @so22 <| an @so81 <| an @zc3 <| @wi64_0a1
theorem slices_Concat_int_int_spec {v1 : (List (List Int))} {v2 : (List Int)} {v3 : Nat} (hr : slices_Concat_int_int v1 = some (v2,v3)) : Spec (lim Try.prog) 143 [.list 1 (v1.map e_Li_)] ⟨[.lsl 0 0 v3],[.rows 1 (v2.map e_i)]⟩:=by
  unfold slices_Concat_int_int at hr
  apply Spec.fn Try.func143 rfl
  focus (simp [Try.f143]<;>exact rfl)
  focus
    repeat (first|(with_reducible first|refine mv ?_|refine TO.nil ?_)|((with_reducible first|apply TO.asg|apply TO.mv|apply TO.len);(repeat (focus (show _ = _;first|exact k2 rfl|(simp only [zz,y19,tlen]<;>exact rfl))));(with_reducible apply TO.here))|((with_reducible apply TX.region);(focus (simp only []<;>exact rfl));(focus rfl);(try dsimp only)))
    obtain ⟨v9,h7,hr⟩:=Option.bind_eq_some_iff.1 hr
    try dsimp only at hr
    refine TX.loopE (step:=slices_Concat_int_int_l1 v1) (x:=(0,0)) h7 (fun (v4,v5)=>⟨.list 1 (v1.map e_Li_) :: .junk :: .junk :: .v (.int .i64 v4) :: .junk :: .junk :: .junk :: .junk :: .junk :: .list 1 (v1.map e_Li_) :: .v (.int .i64 (v1.length : Int)) :: .v (.int .i64 v5) :: .junk :: .junk :: .junk :: .junk :: .junk :: .junk :: .junk :: .junk :: .junk :: .junk :: .junk :: .junk :: .junk :: .junk :: .junk :: .junk :: .junk :: .junk :: .junk :: .junk :: .junk :: .junk :: .junk :: .junk :: [],[]⟩) (fun v7=>(.exit 0,⟨.list 1 (v1.map e_Li_) :: .junk :: .junk :: .v (.int .i64 v7) :: .junk :: .junk :: .junk :: .junk :: .junk :: .junk :: .junk :: .junk :: .junk :: .junk :: .junk :: .junk :: .junk :: .junk :: .junk :: .junk :: .junk :: .junk :: .junk :: .junk :: .junk :: .junk :: .junk :: .junk :: .junk :: .junk :: .junk :: .junk :: .junk :: .junk :: .junk :: .junk :: [],[]⟩)) ?_ ?_ ?_ ?_
    · rintro ⟨v4,v5⟩ v0 hr
      dsimp only [slices_Concat_int_int_l1] at hr
      try dsimp only
      repeat (first|(with_reducible first|refine mv ?_|refine TO.nil ?_)|((with_reducible apply TO.bin);(repeat (focus (show _ = _;first|exact k2 rfl|(simp only [zz]<;>exact rfl))));(with_reducible apply TO.here))|((with_reducible apply TX.region);(focus (simp only []<;>exact rfl));(focus rfl);(try dsimp only)))
      rcases Bool.eq_false_or_eq_true ((decide (v5 < (v1.length : Int)))) with h4|h4
      · rw [if_pos h4] at hr
        repeat (first|with_reducible refine mv ?_|((with_reducible apply TX.region);(focus (simp only []<;>exact rfl));(focus rfl);(try dsimp only))|((with_reducible apply TX.cond_true);(focus rfl);(focus ((simp only [z1,h4];done)))))
        obtain ⟨v8,h5,hr⟩:=Option.bind_eq_some_iff.1 hr
        try dsimp only at hr
        have h5m:=tidx_map (f:=e_Li_) h5
        have h5l:=getI_lt h5
        try simp only [List.length_set] at h5l
        have h5a:=getI_at h5
        repeat (first|(with_reducible first|refine mv ?_|refine TO.nil ?_)|((with_reducible first|apply TO.ia|apply TO.ld|apply TO.asg|apply TO.mv|apply TO.len|apply TO.bin);(repeat (focus (show _ = _;first|exact k2 rfl|(simp only [zz,y19,e_Li_,tindexAddr,tload,rowOf,partT,tlen,h5m,h5l]<;>exact rfl)|exact rfl)));(with_reducible apply TO.here))|((with_reducible apply TX.region);(focus (simp only []<;>exact rfl));(focus rfl);(try dsimp only)))
        rcases Bool.eq_false_or_eq_true ((decide ((IntKind.i64.wrap (v4 + (v8.length : Int))) < 0))) with h6|h6
        · rw [if_pos h6] at hr
          cases hr
        · rw [if_neg (by rw [h6];exact Bool.false_ne_true)] at hr
          repeat (first|(with_reducible first|refine mv ?_|refine TO.nil ?_)|((with_reducible first|apply TO.bin|apply TO.mv);(repeat (focus (show _ = _;first|exact k2 rfl|(simp only [zz,h6]<;>exact rfl))));(with_reducible apply TO.here))|((with_reducible apply TX.region);(focus (simp only []<;>exact rfl));(focus rfl);(try dsimp only))|((with_reducible apply TX.cond_false);(focus rfl);(focus ((simp only [z1,h6];done)))))
          cases hr
          refine ⟨rfl,?_⟩
          exact Wk.ren [] rfl .nil (by (repeat (first|exact RNs.nil|refine RNs.cons .junk ?_|refine RNs.cons (.keep rfl rfl) ?_|refine RNs.cons (.lsl rfl rfl) ?_|refine RNs.cons (.lsl rfl (by simp only [List.length_set])) ?_|refine RNs.cons (.lptr rfl) ?_|refine RNs.cons (.nil rfl) ?_|refine RNs.cons .nl ?_|refine RNs.cons (.keep (by simp only [h4,h6]) rfl) ?_|refine RNs.cons (.tuple' ?_) ?_|refine RNs.cons (.agg' ?_) ?_)))
      · rw [if_neg (by rw [h4];exact Bool.false_ne_true)] at hr
        repeat (first|with_reducible refine mv ?_|((with_reducible apply TX.cond_false);(focus rfl);(focus ((simp only [z1,h4];done)))))
        cases hr
        refine ⟨rfl,?_⟩
        exact Wk.ren [] rfl .nil (by (repeat (first|exact RNs.nil|refine RNs.cons .junk ?_|refine RNs.cons (.keep rfl rfl) ?_|refine RNs.cons (.lsl rfl rfl) ?_|refine RNs.cons (.lsl rfl (by simp only [List.length_set])) ?_|refine RNs.cons (.lptr rfl) ?_|refine RNs.cons (.nil rfl) ?_|refine RNs.cons .nl ?_|refine RNs.cons (.keep (by simp only [h4]) rfl) ?_|refine RNs.cons (.tuple' ?_) ?_|refine RNs.cons (.agg' ?_) ?_)))
    · intro e h;cases h
    · try dsimp only
      repeat (first|with_reducible refine mv ?_|((with_reducible apply TO.mv);(repeat (focus (show _ = _;first|exact k2 rfl|(simp only [zz]<;>exact rfl))));(with_reducible apply TO.here))|((with_reducible apply TX.region);(focus (simp only []<;>exact rfl));(focus rfl);(try dsimp only)))
      obtain ⟨⟨v10,v11⟩,h8,hr⟩:=Option.bind_eq_some_iff.1 hr
      try dsimp only at hr
      apply TO.cal (by first|rfl|(simp only [twant,z1,zp,zs];done)) rfl goFn145 (slices_Grow_int_int_3c69_spec h8) rfl rfl rfl
      (repeat (focus (show _ = _;(simp only [zz,Nat.reduceAdd,shift]<;>exact rfl))))
      with_reducible apply TO.here
      repeat (first|(with_reducible first|refine mv ?_|refine TO.nil ?_)|((with_reducible first|apply TO.asg|apply TO.mv|apply TO.len);(repeat (focus (show _ = _;first|exact k2 rfl|(simp only [zz,y19,tlen]<;>exact rfl))));(with_reducible apply TO.here))|((with_reducible apply TX.region);(focus (simp only []<;>exact rfl));(focus rfl);(try dsimp only)))
      obtain ⟨⟨v23,v24⟩,h15,hr⟩:=Option.bind_eq_some_iff.1 hr
      try dsimp only at hr
      refine TX.loopE (step:=slices_Concat_int_int_l2 v1) (x:=(v10,v11,0)) h15 (fun (v12,v13,v14)=>⟨.junk :: .junk :: .junk :: .junk :: .junk :: .junk :: .lsl 0 0 v13 :: .junk :: .junk :: .junk :: .junk :: .junk :: .junk :: .junk :: .junk :: .junk :: .junk :: .junk :: .junk :: .junk :: .junk :: .junk :: .junk :: .junk :: .junk :: .list 1 (v1.map e_Li_) :: .v (.int .i64 (v1.length : Int)) :: .v (.int .i64 v14) :: .junk :: .junk :: .junk :: .junk :: .junk :: .junk :: .junk :: .junk :: [],[.rows 1 (v12.map e_i)]⟩) (fun (v18,v19)=>(.exit 2,⟨.junk :: .junk :: .junk :: .junk :: .junk :: .junk :: .lsl 0 0 v19 :: .junk :: .junk :: .junk :: .junk :: .junk :: .junk :: .junk :: .junk :: .junk :: .junk :: .junk :: .junk :: .junk :: .junk :: .junk :: .junk :: .junk :: .junk :: .junk :: .junk :: .junk :: .junk :: .junk :: .junk :: .junk :: .junk :: .junk :: .junk :: .junk :: [],[.rows 1 (v18.map e_i)]⟩)) ?_ ?_ ?_ ?_
      · rintro ⟨v12,v13,v14⟩ v0 hr
        dsimp only [slices_Concat_int_int_l2] at hr
        try dsimp only
        repeat (first|(with_reducible first|refine mv ?_|refine TO.nil ?_)|((with_reducible apply TO.bin);(repeat (focus (show _ = _;first|exact k2 rfl|(simp only [zz]<;>exact rfl))));(with_reducible apply TO.here))|((with_reducible apply TX.region);(focus (simp only []<;>exact rfl));(focus rfl);(try dsimp only)))
        rcases Bool.eq_false_or_eq_true ((decide (v14 < (v1.length : Int)))) with h12|h12
        · rw [if_pos h12] at hr
          repeat (first|with_reducible refine mv ?_|((with_reducible apply TX.region);(focus (simp only []<;>exact rfl));(focus rfl);(try dsimp only))|((with_reducible apply TX.cond_true);(focus rfl);(focus ((simp only [z1,h12];done)))))
          obtain ⟨v20,h13,hr⟩:=Option.bind_eq_some_iff.1 hr
          try dsimp only at hr
          have h13m:=tidx_map (f:=e_Li_) h13
          have h13l:=getI_lt h13
          try simp only [List.length_set] at h13l
          have h13a:=getI_at h13
          repeat (first|(with_reducible first|refine mv ?_|refine TO.nil ?_)|((with_reducible first|apply TO.ia|apply TO.ld|apply TO.asg|apply TO.mv);(repeat (focus (show _ = _;first|exact k2 rfl|(simp only [zz,y19,e_Li_,tindexAddr,tload,rowOf,partT,h13m,h13l]<;>exact rfl)|exact rfl)));(with_reducible apply TO.here))|((with_reducible apply TX.region);(focus (simp only []<;>exact rfl));(focus rfl);(try dsimp only)))
          obtain ⟨⟨v21,v22⟩,h14,hr⟩:=Option.bind_eq_some_iff.1 hr
          try dsimp only at hr
          apply TO.an (f:=e_i) (xs:=v12) (ys:=v20) (by first|rfl|(simp only [twant,z1,zp,zs,h12,h13m,h13l,h13a];done)) rfl rfl rfl rfl so22 ni22 zc3 rfl h14 (fun _=>⟨rfl,rfl,rfl⟩)
          (repeat (focus (show _ = _;(simp only [zz,Nat.reduceAdd,kill,killB]<;>exact rfl))))
          with_reducible apply TO.here
          repeat (first|(with_reducible first|refine mv ?_|refine TO.nil ?_)|((with_reducible first|apply TO.asg|apply TO.bin|apply TO.mv);(repeat (focus (show _ = _;first|exact k2 rfl|(simp only [zz]<;>exact rfl))));(with_reducible apply TO.here))|((with_reducible apply TX.region);(focus (simp only []<;>exact rfl));(focus rfl);(try dsimp only)))
          cases hr
          refine ⟨rfl,?_⟩
          exact Wk.ren [some 0] rfl (.rows .nil rfl rfl) (by (repeat (first|exact RNs.nil|refine RNs.cons .junk ?_|refine RNs.cons (.keep rfl rfl) ?_|refine RNs.cons (.lsl rfl rfl) ?_|refine RNs.cons (.lsl rfl (by simp only [List.length_set])) ?_|refine RNs.cons (.lptr rfl) ?_|refine RNs.cons (.nil rfl) ?_|refine RNs.cons .nl ?_|refine RNs.cons (.keep (by simp only [h12]) rfl) ?_|refine RNs.cons (.tuple' ?_) ?_|refine RNs.cons (.agg' ?_) ?_)))
        · rw [if_neg (by rw [h12];exact Bool.false_ne_true)] at hr
          repeat (first|with_reducible refine mv ?_|((with_reducible apply TX.cond_false);(focus rfl);(focus ((simp only [z1,h12];done)))))
          cases hr
          refine ⟨rfl,?_⟩
          exact Wk.ren [some 0] rfl (.rows .nil rfl rfl) (by (repeat (first|exact RNs.nil|refine RNs.cons .junk ?_|refine RNs.cons (.keep rfl rfl) ?_|refine RNs.cons (.lsl rfl rfl) ?_|refine RNs.cons (.lsl rfl (by simp only [List.length_set])) ?_|refine RNs.cons (.lptr rfl) ?_|refine RNs.cons (.nil rfl) ?_|refine RNs.cons .nl ?_|refine RNs.cons (.keep (by simp only [h12]) rfl) ?_|refine RNs.cons (.tuple' ?_) ?_|refine RNs.cons (.agg' ?_) ?_)))
      · intro e h;cases h
      · try dsimp only
        repeat (first|(with_reducible first|refine mv ?_|refine TO.nil ?_)|((with_reducible first|apply TO.mv|apply TO.asg);(repeat (focus (show _ = _;first|exact k2 rfl|(simp only [zz]<;>exact rfl))));(with_reducible apply TO.here))|((with_reducible apply TX.region);(focus (simp only []<;>exact rfl));(focus rfl);(try dsimp only)))
        cases hr
        refine ⟨.inr rfl,_,(by simp only [];exact rfl),?_⟩
        exact wr [some 0] rfl (.rows .nil rfl rfl)
      · try dsimp only
        exact wr [some 0] rfl (.rows .nil rfl rfl)
    · try dsimp only
      exact wr [] rfl .nil
  rfl

end Go.Rex

namespace Go.Rex
open Go.Proofs
open Go Go.Rex Go.RowKit
set_option maxRecDepth 100000
set_option maxHeartbeats 200000
def y20:=an @ag22 <| an @by22 <| an @cs22 <| an @cs3 <| an @ni146 <| an @ok22 <| an @ok3 <| an @so146 <| an @so22 <| an @so81 <| an @zc22 <| @wi64_0a1
theorem loop_matrix_rest_spec {v1 : (List (List Int))} {v2 : Int} {v3 : (List (List Int))} (hr : loop_matrix_rest v1 v2 = some (v3)) : Spec (lim Try.prog) 142 [.list 1 (v1.map e_Li_),.v (.int .i64 v2)] ⟨[.lsl 0 0 v3.length],[.rows 1 (v3.map e_Li_)]⟩:=by
  unfold loop_matrix_rest at hr
  apply Spec.fn Try.func142 rfl
  focus (simp [Try.f142]<;>exact rfl)
  focus
    repeat (first|(with_reducible first|refine mv ?_|refine TO.nil ?_)|((with_reducible first|apply TO.asg|apply TO.mv);(repeat (focus (show _ = _;first|exact k2 rfl|(simp only [zz]<;>exact rfl))));(with_reducible apply TO.here))|((with_reducible apply TX.region);(focus (simp only []<;>exact rfl));(focus rfl);(try dsimp only)))
    obtain ⟨v4,h1,hr⟩:=Option.bind_eq_some_iff.1 hr
    try dsimp only at hr
    apply TO.sb e_Li_ h1 (by first|rfl|(simp only [twant,z1,zp,zs];done)) rfl rfl rfl so146 ok22 cs22 (by first|exact .inl ⟨rfl,rfl⟩|exact .inr ⟨_,rfl⟩) (by first|exact .inl ⟨rfl,rfl⟩|exact .inr ⟨_,rfl⟩)
    (repeat (focus (show _ = _;(simp only [zz]<;>exact rfl))))
    with_reducible apply TO.here
    repeat (first|(with_reducible first|refine mv ?_|refine TO.nil ?_)|((with_reducible first|apply TO.len|apply TO.mv);(repeat (focus (show _ = _;first|exact k2 rfl|(simp only [zz,y20,tlen]<;>exact rfl))));(with_reducible apply TO.here)))
    apply TX.vt (α:=(List Int)) e_Li_ 5 1 rfl
    (repeat (focus (show _ = _;(simp only [zz]<;>exact rfl))))
    with_reducible apply TX.here
    obtain ⟨v20,h14,hr⟩:=Option.bind_eq_some_iff.1 hr
    try dsimp only at hr
    refine TX.loopE (step:=loop_matrix_rest_l1 v2 v4) (x:=(([] : List (List Int)),0)) h14 (fun (v5,v6)=>⟨.junk :: .v (.int .i64 v2) :: .junk :: .junk :: .junk :: .lsl 0 0 v5.length :: .junk :: .junk :: .junk :: .list 1 (v4.map e_Li_) :: .v (.int .i64 (v4.length : Int)) :: .v (.int .i64 v6) :: .junk :: .junk :: .junk :: .junk :: .junk :: .junk :: .junk :: .junk :: .junk :: .junk :: .junk :: .junk :: .junk :: .junk :: .junk :: .junk :: .junk :: [],[.rows 1 (v5.map e_Li_)]⟩) (fun v13=>(.exit 0,⟨.junk :: .junk :: .junk :: .junk :: .junk :: .lsl 0 0 v13.length :: .junk :: .junk :: .junk :: .junk :: .junk :: .junk :: .junk :: .junk :: .junk :: .junk :: .junk :: .junk :: .junk :: .junk :: .junk :: .junk :: .junk :: .junk :: .junk :: .junk :: .junk :: .junk :: .junk :: [],[.rows 1 (v13.map e_Li_)]⟩)) ?_ ?_ ?_ ?_
    · rintro ⟨v5,v6⟩ v0 hr
      dsimp only [loop_matrix_rest_l1] at hr
      try dsimp only
      repeat (first|(with_reducible first|refine mv ?_|refine TO.nil ?_)|((with_reducible apply TO.bin);(repeat (focus (show _ = _;first|exact k2 rfl|(simp only [zz]<;>exact rfl))));(with_reducible apply TO.here))|((with_reducible apply TX.region);(focus (simp only []<;>exact rfl));(focus rfl);(try dsimp only)))
      rcases Bool.eq_false_or_eq_true ((decide (v6 < (v4.length : Int)))) with h8|h8
      · rw [if_pos h8] at hr
        repeat (first|with_reducible refine mv ?_|((with_reducible apply TX.region);(focus (simp only []<;>exact rfl));(focus rfl);(try dsimp only))|((with_reducible apply TX.cond_true);(focus rfl);(focus ((simp only [z1,h8];done)))))
        obtain ⟨v14,h9,hr⟩:=Option.bind_eq_some_iff.1 hr
        try dsimp only at hr
        have h9m:=tidx_map (f:=e_Li_) h9
        have h9l:=getI_lt h9
        try simp only [List.length_set] at h9l
        have h9a:=getI_at h9
        repeat (first|(with_reducible first|refine mv ?_|refine TO.nil ?_)|((with_reducible first|apply TO.ia|apply TO.ld|apply TO.asg);(repeat (focus (show _ = _;first|exact k2 rfl|(simp only [zz,y20,e_Li_,tindexAddr,tload,rowOf,partT,h9m,h9l]<;>exact rfl)|exact rfl)));(with_reducible apply TO.here))|((with_reducible apply TD.mv);(repeat (focus (show _ = _;first|exact k2 rfl|(simp only [zz]<;>exact rfl))));(with_reducible refine TD.here ?_))|((with_reducible apply TX.drawn);(focus decide +kernel);(focus (simp only []<;>exact rfl));(focus exact rfl);(try dsimp only)))
        obtain ⟨v15,h10,hr⟩:=Option.bind_eq_some_iff.1 hr
        try dsimp only at hr
        first|apply TD.sb e_i h10 (by first|rfl|(simp only [twant,z1,zp,zs,h8,h9m,h9l,h9a];done)) rfl rfl rfl so22 ok3 cs3 (by first|exact .inl ⟨rfl,rfl⟩|exact .inr ⟨_,rfl⟩) (by first|exact .inl ⟨rfl,rfl⟩|exact .inr ⟨_,rfl⟩)|apply TD.sbw e_i h10 (by first|rfl|(simp only [twant,z1,zp,zs,h8,h9m,h9l,h9a];done)) rfl rfl rfl so22 ok3 cs3 (by first|exact .inl ⟨rfl,rfl⟩|exact .inr ⟨_,rfl⟩) (by first|exact .inl ⟨rfl,rfl⟩|exact .inr ⟨_,rfl⟩) rfl
        (repeat (focus (show _ = _;(simp only [zz]<;>exact rfl))))
        with_reducible apply TD.here
        repeat (first|((with_reducible first|apply TD.mv|apply TD.bin);(repeat (focus (show _ = _;first|exact k2 rfl|(simp only [zz]<;>exact rfl))));(with_reducible refine TD.here ?_)))
        obtain ⟨v16,h11,hr⟩:=Option.bind_eq_some_iff.1 hr
        try dsimp only at hr
        first|apply TD.sb e_i h11 (by first|rfl|(simp only [twant,z1,zp,zs,h8,h9m,h9l,h9a];done)) rfl rfl rfl so22 ok3 cs3 (by first|exact .inl ⟨rfl,rfl⟩|exact .inr ⟨_,rfl⟩) (by first|exact .inl ⟨rfl,rfl⟩|exact .inr ⟨_,rfl⟩)|apply TD.sbw e_i h11 (by first|rfl|(simp only [twant,z1,zp,zs,h8,h9m,h9l,h9a];done)) rfl rfl rfl so22 ok3 cs3 (by first|exact .inl ⟨rfl,rfl⟩|exact .inr ⟨_,rfl⟩) (by first|exact .inl ⟨rfl,rfl⟩|exact .inr ⟨_,rfl⟩) rfl
        (repeat (focus (show _ = _;(simp only [zz]<;>exact rfl))))
        with_reducible apply TD.here
        first|apply TD.bm e_Li_ ([v15,v16] : List (List Int)) (by first|rfl|(simp only [twant,z1,zp,zs,h8,h9m,h9l,h9a];done)) rfl (by simp only [zz,y20,e_Li_,Nat.reduceAdd,Nat.reduceMul,tslice,tparts];exact rfl) rfl|apply TD.bmw e_Li_ ([v15,v16] : List (List Int)) (by first|rfl|(simp only [twant,z1,zp,zs,h8,h9m,h9l,h9a];done)) rfl (by simp only [zz,y20,e_Li_,e_i,Nat.reduceAdd,Nat.reduceMul,Nat.reduceLeDiff,Nat.reduceEqDiff,tslice,tparts,h8,h9m,h9l,h9a];exact rfl) rfl rfl
        (repeat (focus (show _ = _;(simp only [zz,e_Li_]<;>exact rfl))))
        with_reducible apply TD.here
        obtain ⟨⟨v17,v18⟩,h12,hr⟩:=Option.bind_eq_some_iff.1 hr
        try dsimp only at hr
        first|apply TD.cal (by first|rfl|(simp only [twant,z1,zp,zs,h8,h9m,h9l,h9a];done)) rfl goFn143 (slices_Concat_int_int_spec h12) rfl rfl rfl|apply TD.calw (by first|rfl|(simp only [twant,z1,zp,zs,h8,h9m,h9l,h9a];done)) rfl goFn143 (slices_Concat_int_int_spec h12) rfl rfl rfl rfl
        (repeat (focus (show _ = _;(simp only [zz,Nat.reduceAdd,shift]<;>exact rfl))))
        with_reducible apply TD.here
        apply TD.frz 1 rfl rfl
        (repeat (focus (show _ = _;(simp only [zz,Nat.reduceEqDiff,frz,frzB,take_map_part2]<;>exact rfl))))
        with_reducible apply TD.here
        first|apply TD.bm e_Li_ ([(v17.take v18)] : List (List Int)) (by first|rfl|(simp only [twant,z1,zp,zs,h8,h9m,h9l,h9a];done)) rfl (by simp only [zz,y20,e_Li_,Nat.reduceAdd,Nat.reduceMul,tslice,tparts];exact rfl) rfl|apply TD.bmw e_Li_ ([(v17.take v18)] : List (List Int)) (by first|rfl|(simp only [twant,z1,zp,zs,h8,h9m,h9l,h9a];done)) rfl (by simp only [zz,y20,e_Li_,e_i,Nat.reduceAdd,Nat.reduceMul,Nat.reduceLeDiff,Nat.reduceEqDiff,tslice,tparts,h8,h9m,h9l,h9a];exact rfl) rfl rfl
        (repeat (focus (show _ = _;(simp only [zz,e_Li_]<;>exact rfl))))
        with_reducible apply TD.here
        obtain ⟨v19,h13,hr⟩:=Option.bind_eq_some_iff.1 hr
        try dsimp only at hr
        apply TD.ap (f:=e_Li_) (xs:=v5) (ys:=([(v17.take v18)] : List (List Int))) (by first|rfl|(simp only [twant,z1,zp,zs,h8,h9m,h9l,h9a];done)) rfl rfl (by first|rfl|simp only [List.length_set]) rfl rfl so146 ni146 zc22 rfl (by rw [by22];exact h13) (fun _=>⟨rfl,rfl,rfl⟩) rfl
        (repeat (focus (show _ = _;(simp only [zz,Nat.reduceAdd,kill,killB]<;>exact rfl))))
        with_reducible apply TD.here
        repeat (first|(with_reducible first|refine mv ?_|refine TO.nil ?_)|((with_reducible first|apply TO.bin|apply TO.mv);(repeat (focus (show _ = _;first|exact k2 rfl|(simp only [zz]<;>exact rfl))));(with_reducible apply TO.here))|((with_reducible apply TX.region);(focus (simp only []<;>exact rfl));(focus rfl);(try dsimp only))|with_reducible refine TD.nil ?_|((with_reducible apply TD.asg);(repeat (focus (show _ = _;first|exact k2 rfl|(simp only [zz]<;>exact rfl))));(with_reducible refine TD.here ?_)))
        cases hr
        refine ⟨rfl,?_⟩
        exact Wk.ren [some 0] rfl (.rows .nil rfl rfl) (by (repeat (first|exact RNs.nil|refine RNs.cons .junk ?_|refine RNs.cons (.keep rfl rfl) ?_|refine RNs.cons (.lsl rfl rfl) ?_|refine RNs.cons (.lsl rfl (by simp only [List.length_set])) ?_|refine RNs.cons (.lptr rfl) ?_|refine RNs.cons (.nil rfl) ?_|refine RNs.cons .nl ?_|refine RNs.cons (.keep (by simp only [h8]) rfl) ?_|refine RNs.cons (.tuple' ?_) ?_|refine RNs.cons (.agg' ?_) ?_)))
      · rw [if_neg (by rw [h8];exact Bool.false_ne_true)] at hr
        repeat (first|with_reducible refine mv ?_|((with_reducible apply TX.cond_false);(focus rfl);(focus ((simp only [z1,h8];done)))))
        cases hr
        refine ⟨rfl,?_⟩
        exact Wk.ren [some 0] rfl (.rows .nil rfl rfl) (by (repeat (first|exact RNs.nil|refine RNs.cons .junk ?_|refine RNs.cons (.keep rfl rfl) ?_|refine RNs.cons (.lsl rfl rfl) ?_|refine RNs.cons (.lsl rfl (by simp only [List.length_set])) ?_|refine RNs.cons (.lptr rfl) ?_|refine RNs.cons (.nil rfl) ?_|refine RNs.cons .nl ?_|refine RNs.cons (.keep (by simp only [h8]) rfl) ?_|refine RNs.cons (.tuple' ?_) ?_|refine RNs.cons (.agg' ?_) ?_)))
    · intro e h;cases h
    · try dsimp only
      repeat (first|(with_reducible first|refine mv ?_|refine TO.nil ?_)|((with_reducible first|apply TO.mv|apply TO.asg);(repeat (focus (show _ = _;first|exact k2 rfl|(simp only [zz]<;>exact rfl))));(with_reducible apply TO.here))|((with_reducible apply TX.region);(focus (simp only []<;>exact rfl));(focus rfl);(try dsimp only)))
      cases hr
      refine ⟨.inr rfl,_,(by simp only [];exact rfl),?_⟩
      exact wr [some 0] rfl (.rows .nil rfl rfl)
    · try dsimp only
      exact wr [some 0] rfl (.rows .nil rfl rfl)
  rfl

end Go.Rex

namespace Go.Rex
open Go.Proofs
open Go Go.Rex Go.RowKit
set_option maxRecDepth 100000
set_option maxHeartbeats 200000
def y21:=an @ag22 <| an @ag3 <| an @cs22 <| an @cs3 <| an @ok22 <| an @ok3 <| an @so146 <| an @so22 <| an @wi64_0a1 <| @wi64_m1
theorem loop_matrix_determinant_b_spec {v0 : ((List (List Int))) → Option (Int)} (rch : ∀ {v1 : (List (List Int))} {v2 : Int},v0 v1 = some (v2) → Spec (lim Try.prog) 127 [.list 1 (v1.map e_Li_)] ⟨[.v (.int .i64 v2)],[]⟩) {v1 : (List (List Int))} {v2 : Int} (hr : loop_matrix_determinant_b v0 v1 = some (v2)) : Spec (lim Try.prog) 127 [.list 1 (v1.map e_Li_)] ⟨[.v (.int .i64 v2)],[]⟩:=by
  unfold loop_matrix_determinant_b at hr
  apply Spec.fn Try.func127 rfl
  focus (simp [Try.f127]<;>exact rfl)
  focus
    repeat (first|(with_reducible first|refine mv ?_|refine TO.nil ?_)|((with_reducible first|apply TO.asg|apply TO.mv|apply TO.len|apply TO.bin);(repeat (focus (show _ = _;first|exact k2 rfl|(simp only [zz,y21,tlen]<;>exact rfl))));(with_reducible apply TO.here))|((with_reducible apply TX.region);(focus (simp only []<;>exact rfl));(focus rfl);(try dsimp only)))
    rcases Bool.eq_false_or_eq_true ((decide ((v1.length : Int) = 0))) with h1|h1
    · rw [if_pos h1] at hr
      repeat (first|(with_reducible first|refine mv ?_|refine TO.nil ?_)|((with_reducible apply TO.asg);(repeat (focus (show _ = _;first|exact k2 rfl|(simp only [zz,h1]<;>exact rfl))));(with_reducible apply TO.here))|((with_reducible apply TX.region);(focus (simp only []<;>exact rfl));(focus rfl);(try dsimp only))|((with_reducible apply TX.cond_true);(focus rfl);(focus ((simp only [z1,h1];done)))))
      cases hr
      refine ⟨.inr rfl,_,(by simp only [];exact rfl),?_⟩
      exact Wk.ren [] rfl .nil (by (repeat (first|exact RNs.nil|refine RNs.cons .junk ?_|refine RNs.cons (.keep rfl rfl) ?_|refine RNs.cons (.lsl rfl rfl) ?_|refine RNs.cons (.lsl rfl (by simp only [List.length_set])) ?_|refine RNs.cons (.lptr rfl) ?_|refine RNs.cons (.nil rfl) ?_|refine RNs.cons .nl ?_|refine RNs.cons (.keep (by simp only [h1]) rfl) ?_|refine RNs.cons (.tuple' ?_) ?_|refine RNs.cons (.agg' ?_) ?_)))
    · rw [if_neg (by rw [h1];exact Bool.false_ne_true)] at hr
      repeat (first|(with_reducible first|refine mv ?_|refine TO.nil ?_)|((with_reducible first|apply TO.asg|apply TO.mv);(repeat (focus (show _ = _;first|exact k2 rfl|(simp only [zz,h1]<;>exact rfl))));(with_reducible apply TO.here))|((with_reducible apply TX.region);(focus (simp only []<;>exact rfl));(focus rfl);(try dsimp only))|((with_reducible apply TX.cond_false);(focus rfl);(focus ((simp only [z1,h1];done)))))
      obtain ⟨v3,h2,hr⟩:=Option.bind_eq_some_iff.1 hr
      try dsimp only at hr
      have h2m:=tidx_map (f:=e_Li_) h2
      have h2l:=getI_lt h2
      try simp only [List.length_set] at h2l
      have h2a:=getI_at h2
      repeat (first|(with_reducible first|refine mv ?_|refine TO.nil ?_)|((with_reducible first|apply TO.ia|apply TO.ld|apply TO.len|apply TO.mv);(repeat (focus (show _ = _;first|exact k2 rfl|(simp only [zz,y21,e_Li_,tindexAddr,tload,rowOf,partT,tlen,h2m]<;>exact rfl)|exact rfl)));(with_reducible apply TO.here)))
      obtain ⟨v14,h11,hr⟩:=Option.bind_eq_some_iff.1 hr
      try dsimp only at hr
      refine TX.loopE (step:=loop_matrix_determinant_l1 v0 v1 v3) (x:=(0,1,0)) h11 (fun (v4,v5,v6)=>⟨.list 1 (v1.map e_Li_) :: .junk :: .junk :: .v (.int .i64 v4) :: .v (.int .i64 v5) :: .junk :: .junk :: .junk :: .junk :: .junk :: .junk :: .junk :: .list 1 (v3.map e_i) :: .v (.int .i64 (v3.length : Int)) :: .v (.int .i64 v6) :: .junk :: .junk :: .junk :: .junk :: .junk :: .junk :: .junk :: .junk :: .junk :: .junk :: .junk :: .junk :: .junk :: .junk :: .junk :: .junk :: .junk :: .junk :: [],[]⟩) (fun v10=>(.exit 0,⟨.junk :: .junk :: .junk :: .v (.int .i64 v10) :: .junk :: .junk :: .junk :: .junk :: .junk :: .junk :: .junk :: .junk :: .junk :: .junk :: .junk :: .junk :: .junk :: .junk :: .junk :: .junk :: .junk :: .junk :: .junk :: .junk :: .junk :: .junk :: .junk :: .junk :: .junk :: .junk :: .junk :: .junk :: .junk :: [],[]⟩)) ?_ ?_ ?_ ?_
      · rintro ⟨v4,v5,v6⟩ v0 hr
        dsimp only [loop_matrix_determinant_l1] at hr
        try dsimp only
        repeat (first|(with_reducible first|refine mv ?_|refine TO.nil ?_)|((with_reducible apply TO.bin);(repeat (focus (show _ = _;first|exact k2 rfl|(simp only [zz]<;>exact rfl))));(with_reducible apply TO.here))|((with_reducible apply TX.region);(focus (simp only []<;>exact rfl));(focus rfl);(try dsimp only)))
        rcases Bool.eq_false_or_eq_true ((decide (v6 < (v3.length : Int)))) with h7|h7
        · rw [if_pos h7] at hr
          repeat (first|with_reducible refine mv ?_|((with_reducible apply TO.mv);(repeat (focus (show _ = _;first|exact k2 rfl|(simp only [zz,h7]<;>exact rfl))));(with_reducible apply TO.here))|((with_reducible apply TX.region);(focus (simp only []<;>exact rfl));(focus rfl);(try dsimp only))|((with_reducible apply TX.cond_true);(focus rfl);(focus ((simp only [z1,h7];done)))))
          obtain ⟨v11,h8,hr⟩:=Option.bind_eq_some_iff.1 hr
          try dsimp only at hr
          have h8m:=tidx_map (f:=e_i) h8
          have h8l:=getI_lt h8
          try simp only [List.length_set] at h8l
          have h8a:=getI_at h8
          repeat (first|(with_reducible first|refine mv ?_|refine TO.nil ?_)|((with_reducible first|apply TO.ia|apply TO.ld|apply TO.asg|apply TO.mv|apply TO.bin);(repeat (focus (show _ = _;first|exact k2 rfl|(simp only [zz,y21,e_i,tindexAddr,tload,rowOf,partT,h8m]<;>exact rfl)|exact rfl)));(with_reducible apply TO.here))|((with_reducible apply TX.region);(focus (simp only []<;>exact rfl));(focus rfl);(try dsimp only)))
          obtain ⟨v12,h9,hr⟩:=Option.bind_eq_some_iff.1 hr
          try dsimp only at hr
          apply TO.cal (by first|rfl|(simp only [twant,z1,zp,zs,h1,h2m,h2l,h2a,h7,h8m,h8l,h8a];done)) rfl goFn142 (loop_matrix_rest_spec h9) rfl rfl rfl
          (repeat (focus (show _ = _;(simp only [zz,Nat.reduceAdd,shift]<;>exact rfl))))
          with_reducible apply TO.here
          obtain ⟨v13,h10,hr⟩:=Option.bind_eq_some_iff.1 hr
          try dsimp only at hr
          apply TO.lok (by first|rfl|(simp only [twant,z1,zp,zs,h1,h2m,h2l,h2a,h7,h8m,h8l,h8a];done)) rfl goFn127 (rch h10) (by simp only [view,z1,z3,tmlc]<;>rfl) rfl rfl (by simp [])
          (repeat (focus (show _ = _;(simp only [zz,shift]<;>exact rfl))))
          with_reducible apply TO.here
          repeat (first|(with_reducible first|refine mv ?_|refine TO.nil ?_)|((with_reducible first|apply TO.bin|apply TO.asg|apply TO.mv);(repeat (focus (show _ = _;first|exact k2 rfl|(simp only [zz]<;>exact rfl))));(with_reducible apply TO.here))|((with_reducible apply TX.region);(focus (simp only []<;>exact rfl));(focus rfl);(try dsimp only)))
          apply TO.pop1 (by first|rfl|(simp only [twant,z1,zp,zs,h1,h2m,h2l,h2a,h7,h8m,h8l,h8a];done)) (pop_neg rfl)
          (repeat (focus (show _ = _;(simp only [zz]<;>exact rfl))))
          with_reducible apply TO.here
          repeat (first|(with_reducible first|refine mv ?_|refine TO.nil ?_)|((with_reducible first|apply TO.asg|apply TO.bin|apply TO.mv);(repeat (focus (show _ = _;first|exact k2 rfl|(simp only [zz]<;>exact rfl))));(with_reducible apply TO.here))|((with_reducible apply TX.region);(focus (simp only []<;>exact rfl));(focus rfl);(try dsimp only)))
          cases hr
          refine ⟨rfl,?_⟩
          exact Wk.ren [] rfl .nil (by (repeat (first|exact RNs.nil|refine RNs.cons .junk ?_|refine RNs.cons (.keep rfl rfl) ?_|refine RNs.cons (.lsl rfl rfl) ?_|refine RNs.cons (.lsl rfl (by simp only [List.length_set])) ?_|refine RNs.cons (.lptr rfl) ?_|refine RNs.cons (.nil rfl) ?_|refine RNs.cons .nl ?_|refine RNs.cons (.keep (by simp only [h1,h7]) rfl) ?_|refine RNs.cons (.tuple' ?_) ?_|refine RNs.cons (.agg' ?_) ?_)))
        · rw [if_neg (by rw [h7];exact Bool.false_ne_true)] at hr
          repeat (first|with_reducible refine mv ?_|((with_reducible apply TX.cond_false);(focus rfl);(focus ((simp only [z1,h7];done)))))
          cases hr
          refine ⟨rfl,?_⟩
          exact Wk.ren [] rfl .nil (by (repeat (first|exact RNs.nil|refine RNs.cons .junk ?_|refine RNs.cons (.keep rfl rfl) ?_|refine RNs.cons (.lsl rfl rfl) ?_|refine RNs.cons (.lsl rfl (by simp only [List.length_set])) ?_|refine RNs.cons (.lptr rfl) ?_|refine RNs.cons (.nil rfl) ?_|refine RNs.cons .nl ?_|refine RNs.cons (.keep (by simp only [h1,h7]) rfl) ?_|refine RNs.cons (.tuple' ?_) ?_|refine RNs.cons (.agg' ?_) ?_)))
      · intro e h;cases h
      · try dsimp only
        repeat (first|(with_reducible first|refine mv ?_|refine TO.nil ?_)|((with_reducible first|apply TO.mv|apply TO.asg);(repeat (focus (show _ = _;first|exact k2 rfl|(simp only [zz]<;>exact rfl))));(with_reducible apply TO.here))|((with_reducible apply TX.region);(focus (simp only []<;>exact rfl));(focus rfl);(try dsimp only)))
        cases hr
        refine ⟨.inr rfl,_,(by simp only [];exact rfl),?_⟩
        exact Wk.ren [] rfl .nil (by (repeat (first|exact RNs.nil|refine RNs.cons .junk ?_|refine RNs.cons (.keep rfl rfl) ?_|refine RNs.cons (.lsl rfl rfl) ?_|refine RNs.cons (.lsl rfl (by simp only [List.length_set])) ?_|refine RNs.cons (.lptr rfl) ?_|refine RNs.cons (.nil rfl) ?_|refine RNs.cons .nl ?_|refine RNs.cons (.keep (by simp only [h1]) rfl) ?_|refine RNs.cons (.tuple' ?_) ?_|refine RNs.cons (.agg' ?_) ?_)))
      · try dsimp only
        exact Wk.ren [] rfl .nil (by (repeat (first|exact RNs.nil|refine RNs.cons .junk ?_|refine RNs.cons (.keep rfl rfl) ?_|refine RNs.cons (.lsl rfl rfl) ?_|refine RNs.cons (.lsl rfl (by simp only [List.length_set])) ?_|refine RNs.cons (.lptr rfl) ?_|refine RNs.cons (.nil rfl) ?_|refine RNs.cons .nl ?_|refine RNs.cons (.keep (by simp only [h1]) rfl) ?_|refine RNs.cons (.tuple' ?_) ?_|refine RNs.cons (.agg' ?_) ?_)))
  rfl
theorem loop_matrix_determinant_n_spec : ∀ (k : Nat) {v1 : (List (List Int))} {v2 : Int},loop_matrix_determinant_n k v1 = some (v2) → Spec (lim Try.prog) 127 [.list 1 (v1.map e_Li_)] ⟨[.v (.int .i64 v2)],[]⟩
  | 0,_,_,hr=>by cases hr
  | k + 1,_,_,hr=>loop_matrix_determinant_b_spec (loop_matrix_determinant_n_spec k) hr
theorem loop_matrix_determinant_spec {v1 : (List (List Int))} {v2 : Int} (hr : loop_matrix_determinant v1 = some (v2)) : Spec (lim Try.prog) 127 [.list 1 (v1.map e_Li_)] ⟨[.v (.int .i64 v2)],[]⟩:=loop_matrix_determinant_n_spec 64 hr

end Go.Rex
