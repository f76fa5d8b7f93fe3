/- Proofs that the program's functions do what these plain functions say. -/
import Derived.Test.YtllnpjkkpebplaaGB
import Derived.Test.YtllnpjkkpebplaaS
import Derived.Test.YtllnpjkkpebplaaG2
import Derived.Test.YtllnpjkkpebplaaRexG8
import Derived.Test.YtllnpjkkpebplaaM
import Derived.Test.YtllnpjkkpebplaaG1
set_option linter.unusedSimpArgs false
set_option linter.unusedVariables false
set_option linter.defProp false
namespace Go.Rex
open Go.Proofs
open Go Go.Rex Go.RowKit
set_option maxRecDepth 100000
set_option maxHeartbeats 1000000
def y31:=an @ag22 <| an @ag3 <| an @cs3 <| an @fd24_0 <| an @fd24_1 <| an @ok3 <| an @so22 <| @wi64_0a1
theorem ref08_CheckLoop_spec {v1 : (List Int)} {v2 : Int} {v3 : Int} (hr : ref08_CheckLoop v1 v2 = some (v3)) : Spec (lim Try.prog) 19 [.agg [.list 1 (v1.map e_i),.v (.int .i64 v2)]] ⟨[.v (.int .i64 v3)],[]⟩:=by
  unfold ref08_CheckLoop at hr
  apply Spec.fn Try.func19 rfl
  focus (simp [Try.f19]<;>exact rfl)
  focus
    repeat (first|(with_reducible first|refine mv ?_|refine m12 rfl ?_|refine TO.nil ?_)|((with_reducible first|apply TO.bf|apply TO.asg|apply TO.fa|apply TO.ld|apply TO.len|apply TO.bin);(repeat (focus (show _ = _;first|exact k1 rfl|exact k2 rfl|(simp only [zz,y31,e_i,Nat.reduceAdd,Nat.reduceMul,Nat.reduceLeDiff,Nat.reduceEqDiff,tfieldAddr,tload,rowOf,partT,List.getElem?_map,tlen]<;>exact rfl)|exact rfl)));(with_reducible apply TO.here))|((with_reducible apply TX.region);(focus (simp only [zl]<;>exact rfl));(focus rfl);(try dsimp only))|((with_reducible apply TX.cond_true);(focus rfl);(focus (first|rfl|(simp only [z1,zn];done))))|((with_reducible apply TX.cond_false);(focus rfl);(focus (first|rfl|(simp only [z1,zn];done))))|fail)
    rcases Bool.eq_false_or_eq_true ((decide ((v1.length : Int) = 0))) with h1|h1
    · rw [if_pos h1] at hr
      repeat (first|(with_reducible first|refine mv ?_|refine m12 rfl ?_|refine TO.nil ?_)|((with_reducible first|apply TO.asg);(repeat (focus (show _ = _;first|exact k1 rfl|exact k2 rfl|(simp only [zz,y31,e_i,Nat.reduceAdd,Nat.reduceMul,Nat.reduceLeDiff,Nat.reduceEqDiff,h1]<;>exact rfl)|exact rfl)));(with_reducible apply TO.here))|((with_reducible apply TX.region);(focus (simp only [zl]<;>exact rfl));(focus rfl);(try dsimp only))|((with_reducible apply TX.cond_true);(focus rfl);(focus (first|rfl|(simp only [z1,zn,h1];done))))|((with_reducible apply TX.cond_false);(focus rfl);(focus (first|rfl|(simp only [z1,zn,h1];done))))|fail)
      cases hr
      refine ⟨.inr rfl,_,(by simp only [zy,y31,e_i,tresAll,tres,tload,rowOf,partT,h1];exact rfl),?_⟩
      exact Wk.ren [] rfl .nil (by (repeat (first|exact RNs.nil|refine RNs.cons .junk ?_|refine RNs.cons (.keep rfl rfl) ?_|refine RNs.cons (.lsl rfl rfl) ?_|refine RNs.cons (.lsl rfl (by simp only [List.length_set])) ?_|refine RNs.cons (.lptr rfl) ?_|refine RNs.cons (.nil rfl) ?_|refine RNs.cons .nl ?_|refine RNs.cons (.keep (by simp only [h1]) rfl) ?_|refine RNs.cons (.tuple' ?_) ?_|refine RNs.cons (.agg' ?_) ?_)))
    · rw [if_neg (by rw [h1];exact Bool.false_ne_true)] at hr
      repeat (first|(with_reducible first|refine mv ?_|refine m12 rfl ?_|refine TO.nil ?_)|((with_reducible first|apply TO.fa|apply TO.ld|apply TO.len|apply TO.bin);(repeat (focus (show _ = _;first|exact k1 rfl|exact k2 rfl|(simp only [zz,y31,e_i,Nat.reduceAdd,Nat.reduceMul,Nat.reduceLeDiff,Nat.reduceEqDiff,tfieldAddr,tload,rowOf,partT,List.getElem?_map,tlen,h1]<;>exact rfl)|exact rfl)));(with_reducible apply TO.here))|((with_reducible apply TX.region);(focus (simp only [zl]<;>exact rfl));(focus rfl);(try dsimp only))|((with_reducible apply TX.cond_true);(focus rfl);(focus (first|rfl|(simp only [z1,zn,h1];done))))|((with_reducible apply TX.cond_false);(focus rfl);(focus (first|rfl|(simp only [z1,zn,h1];done))))|fail)
      rcases Bool.eq_false_or_eq_true ((decide ((v1.length : Int) > 32))) with h2|h2
      · rw [if_pos h2] at hr
        repeat (first|(with_reducible first|refine mv ?_|refine m12 rfl ?_|refine TO.nil ?_)|((with_reducible first|apply TO.asg);(repeat (focus (show _ = _;first|exact k1 rfl|exact k2 rfl|(simp only [zz,y31,e_i,Nat.reduceAdd,Nat.reduceMul,Nat.reduceLeDiff,Nat.reduceEqDiff,h1,h2]<;>exact rfl)|exact rfl)));(with_reducible apply TO.here))|((with_reducible apply TX.region);(focus (simp only [zl]<;>exact rfl));(focus rfl);(try dsimp only))|((with_reducible apply TX.cond_true);(focus rfl);(focus (first|rfl|(simp only [z1,zn,h1,h2];done))))|((with_reducible apply TX.cond_false);(focus rfl);(focus (first|rfl|(simp only [z1,zn,h1,h2];done))))|fail)
        cases hr
        refine ⟨.inr rfl,_,(by simp only [zy,y31,e_i,tresAll,tres,tload,rowOf,partT,h1,h2];exact rfl),?_⟩
        exact Wk.ren [] rfl .nil (by (repeat (first|exact RNs.nil|refine RNs.cons .junk ?_|refine RNs.cons (.keep rfl rfl) ?_|refine RNs.cons (.lsl rfl rfl) ?_|refine RNs.cons (.lsl rfl (by simp only [List.length_set])) ?_|refine RNs.cons (.lptr rfl) ?_|refine RNs.cons (.nil rfl) ?_|refine RNs.cons .nl ?_|refine RNs.cons (.keep (by simp only [h1,h2]) rfl) ?_|refine RNs.cons (.tuple' ?_) ?_|refine RNs.cons (.agg' ?_) ?_)))
      · rw [if_neg (by rw [h2];exact Bool.false_ne_true)] at hr
        repeat (first|(with_reducible first|refine mv ?_|refine m12 rfl ?_|refine TO.nil ?_)|((with_reducible first|apply TO.fa|apply TO.ld);(repeat (focus (show _ = _;first|exact k1 rfl|exact k2 rfl|(simp only [zz,y31,e_i,Nat.reduceAdd,Nat.reduceMul,Nat.reduceLeDiff,Nat.reduceEqDiff,tfieldAddr,tload,rowOf,partT,List.getElem?_map,h1,h2]<;>exact rfl)|exact rfl)));(with_reducible apply TO.here))|((with_reducible apply TX.region);(focus (simp only [zl]<;>exact rfl));(focus rfl);(try dsimp only))|((with_reducible apply TX.cond_true);(focus rfl);(focus (first|rfl|(simp only [z1,zn,h1,h2];done))))|((with_reducible apply TX.cond_false);(focus rfl);(focus (first|rfl|(simp only [z1,zn,h1,h2];done))))|fail)
        obtain ⟨v4,h3,hr⟩:=Option.bind_eq_some_iff.1 hr
        try dsimp only at hr
        have h3m:=tidx_map (f:=e_i) h3
        have h3l:=getI_lt h3
        try simp only [List.length_set] at h3l
        have h3a:=getI_at h3
        repeat (first|(with_reducible first|refine mv ?_|refine m12 rfl ?_|refine TO.nil ?_)|((with_reducible first|apply TO.ia|apply TO.ld|apply TO.bin);(repeat (focus (show _ = _;first|exact k1 rfl|exact k2 rfl|(simp only [zz,y31,e_i,Nat.reduceAdd,Nat.reduceMul,Nat.reduceLeDiff,Nat.reduceEqDiff,tindexAddr,Nat.zero_add,tload,rowOf,partT,List.getElem?_map,h1,h2,h3m,h3l,h3a]<;>exact rfl)|exact rfl)));(with_reducible apply TO.here))|((with_reducible apply TX.region);(focus (simp only [zl]<;>exact rfl));(focus rfl);(try dsimp only))|((with_reducible apply TX.cond_true);(focus rfl);(focus (first|rfl|(simp only [z1,zn,h1,h2,h3m,h3l,h3a];done))))|((with_reducible apply TX.cond_false);(focus rfl);(focus (first|rfl|(simp only [z1,zn,h1,h2,h3m,h3l,h3a];done))))|fail)
        rcases Bool.eq_false_or_eq_true ((decide (v4 ≠ 0))) with h4|h4
        · rw [if_pos h4] at hr
          repeat (first|(with_reducible first|refine mv ?_|refine m12 rfl ?_|refine TO.nil ?_)|((with_reducible first|apply TO.asg);(repeat (focus (show _ = _;first|exact k1 rfl|exact k2 rfl|(simp only [zz,y31,e_i,Nat.reduceAdd,Nat.reduceMul,Nat.reduceLeDiff,Nat.reduceEqDiff,h1,h2,h3m,h3l,h3a,h4]<;>exact rfl)|exact rfl)));(with_reducible apply TO.here))|((with_reducible apply TX.region);(focus (simp only [zl]<;>exact rfl));(focus rfl);(try dsimp only))|((with_reducible apply TX.cond_true);(focus rfl);(focus (first|rfl|(simp only [z1,zn,h1,h2,h3m,h3l,h3a,h4];done))))|((with_reducible apply TX.cond_false);(focus rfl);(focus (first|rfl|(simp only [z1,zn,h1,h2,h3m,h3l,h3a,h4];done))))|fail)
          cases hr
          refine ⟨.inr rfl,_,(by simp only [zy,y31,e_i,tresAll,tres,tload,rowOf,partT,h1,h2,h3m,h3l,h3a,h4];exact rfl),?_⟩
          exact Wk.ren [] rfl .nil (by (repeat (first|exact RNs.nil|refine RNs.cons .junk ?_|refine RNs.cons (.keep rfl rfl) ?_|refine RNs.cons (.lsl rfl rfl) ?_|refine RNs.cons (.lsl rfl (by simp only [List.length_set])) ?_|refine RNs.cons (.lptr rfl) ?_|refine RNs.cons (.nil rfl) ?_|refine RNs.cons .nl ?_|refine RNs.cons (.keep (by simp only [h1,h2,h4]) rfl) ?_|refine RNs.cons (.tuple' ?_) ?_|refine RNs.cons (.agg' ?_) ?_)))
        · rw [if_neg (by rw [h4];exact Bool.false_ne_true)] at hr
          repeat (first|(with_reducible first|refine mv ?_|refine m12 rfl ?_|refine TO.nil ?_)|((with_reducible first|apply TO.asg);(repeat (focus (show _ = _;first|exact k1 rfl|exact k2 rfl|(simp only [zz,y31,e_i,Nat.reduceAdd,Nat.reduceMul,Nat.reduceLeDiff,Nat.reduceEqDiff,h1,h2,h3m,h3l,h3a,h4]<;>exact rfl)|exact rfl)));(with_reducible apply TO.here))|((with_reducible apply TX.region);(focus (simp only [zl]<;>exact rfl));(focus rfl);(try dsimp only))|((with_reducible apply TX.cond_true);(focus rfl);(focus (first|rfl|(simp only [z1,zn,h1,h2,h3m,h3l,h3a,h4];done))))|((with_reducible apply TX.cond_false);(focus rfl);(focus (first|rfl|(simp only [z1,zn,h1,h2,h3m,h3l,h3a,h4];done))))|fail)
          obtain ⟨v10,h13,hr⟩:=Option.bind_eq_some_iff.1 hr
          refine TX.loopE (step:=ref08_CheckLoop_l1 v1) (x:=0) h13 (fun v5=>⟨.junk :: .fptr true [.list 1 (v1.map e_i),.v (.int .i64 v2)] 0 :: .junk :: .v (.int .i64 v5) :: .junk :: .junk :: .junk :: .junk :: .junk :: .junk :: .junk :: .junk :: .junk :: .junk :: .junk :: .junk :: .junk :: .junk :: .junk :: .junk :: .junk :: .junk :: .junk :: .junk :: .junk :: .junk :: .junk :: .junk :: .junk :: .junk :: .junk :: .junk :: .junk :: .junk :: .junk :: [],[]⟩) (fun e=>match e with|(.inl _)=>(.ret,⟨.junk :: .junk :: .v (.int .i64 2) :: .junk :: .junk :: .junk :: .junk :: .junk :: .junk :: .junk :: .junk :: .junk :: .junk :: .junk :: .junk :: .junk :: .junk :: .junk :: .junk :: .junk :: .junk :: .junk :: .junk :: .junk :: .junk :: .junk :: .junk :: .junk :: .junk :: .junk :: .junk :: .junk :: .junk :: .junk :: .junk :: [],[]⟩)|(.inr _)=>(.exit 0,⟨.junk :: .fptr true [.list 1 (v1.map e_i),.v (.int .i64 v2)] 0 :: .junk :: .junk :: .junk :: .junk :: .junk :: .junk :: .junk :: .junk :: .junk :: .junk :: .junk :: .junk :: .junk :: .junk :: .junk :: .junk :: .junk :: .junk :: .junk :: .junk :: .junk :: .junk :: .junk :: .junk :: .junk :: .junk :: .junk :: .junk :: .junk :: .junk :: .junk :: .junk :: .junk :: [],[]⟩)) ?_ ?_ ?_ ?_
          · rintro v5 v0 hr
            dsimp only [ref08_CheckLoop_l1] at hr
            try dsimp only
            repeat (first|(with_reducible first|refine mv ?_|refine m12 rfl ?_|refine TO.nil ?_)|((with_reducible first|apply TO.mv|apply TO.fa|apply TO.ld|apply TO.len|apply TO.bin);(repeat (focus (show _ = _;first|exact k1 rfl|exact k2 rfl|(simp only [zz,y31,e_i,Nat.reduceAdd,Nat.reduceMul,Nat.reduceLeDiff,Nat.reduceEqDiff,tfieldAddr,tload,rowOf,partT,List.getElem?_map,tlen,h1,h2,h3m,h3l,h3a,h4]<;>exact rfl)|exact rfl)));(with_reducible apply TO.here))|((with_reducible apply TX.region);(focus (simp only [zl]<;>exact rfl));(focus rfl);(try dsimp only))|((with_reducible apply TX.cond_true);(focus rfl);(focus (first|rfl|(simp only [z1,zn,h1,h2,h3m,h3l,h3a,h4];done))))|((with_reducible apply TX.cond_false);(focus rfl);(focus (first|rfl|(simp only [z1,zn,h1,h2,h3m,h3l,h3a,h4];done))))|fail)
            rcases Bool.eq_false_or_eq_true ((decide (v5 < (v1.length : Int)))) with h9|h9
            · rw [if_pos h9] at hr
              repeat (first|(with_reducible first|refine mv ?_|refine m12 rfl ?_|refine TO.nil ?_)|((with_reducible first|apply TO.fa|apply TO.ld|apply TO.mv);(repeat (focus (show _ = _;first|exact k1 rfl|exact k2 rfl|(simp only [zz,y31,e_i,Nat.reduceAdd,Nat.reduceMul,Nat.reduceLeDiff,Nat.reduceEqDiff,tfieldAddr,tload,rowOf,partT,List.getElem?_map,h1,h2,h3m,h3l,h3a,h4,h9]<;>exact rfl)|exact rfl)));(with_reducible apply TO.here))|((with_reducible apply TX.region);(focus (simp only [zl]<;>exact rfl));(focus rfl);(try dsimp only))|((with_reducible apply TX.cond_true);(focus rfl);(focus (first|rfl|(simp only [z1,zn,h1,h2,h3m,h3l,h3a,h4,h9];done))))|((with_reducible apply TX.cond_false);(focus rfl);(focus (first|rfl|(simp only [z1,zn,h1,h2,h3m,h3l,h3a,h4,h9];done))))|fail)
              obtain ⟨v8,h10,hr⟩:=Option.bind_eq_some_iff.1 hr
              try dsimp only at hr
              have h10m:=tidx_map (f:=e_i) h10
              have h10l:=getI_lt h10
              try simp only [List.length_set] at h10l
              have h10a:=getI_at h10
              repeat (first|(with_reducible first|refine mv ?_|refine m12 rfl ?_|refine TO.nil ?_)|((with_reducible first|apply TO.ia|apply TO.ld);(repeat (focus (show _ = _;first|exact k1 rfl|exact k2 rfl|(simp only [zz,y31,e_i,Nat.reduceAdd,Nat.reduceMul,Nat.reduceLeDiff,Nat.reduceEqDiff,tindexAddr,Nat.zero_add,tload,rowOf,partT,List.getElem?_map,h1,h2,h3m,h3l,h3a,h4,h9,h10m,h10l,h10a]<;>exact rfl)|exact rfl)));(with_reducible apply TO.here))|((with_reducible apply TX.region);(focus (simp only [zl]<;>exact rfl));(focus rfl);(try dsimp only))|fail)
              obtain ⟨v9,h11,hr⟩:=Option.bind_eq_some_iff.1 hr
              try dsimp only at hr
              apply TO.cal (by first|rfl|(simp only [twant,z1,zp,zs,h1,h2,h3m,h3l,h3a,h4,h9,h10m,h10l,h10a];done)) rfl goFn24 (base_Within_spec h11) rfl rfl rfl
              (repeat (focus (show _ = _;first|exact k1 rfl|exact k2 rfl|(simp only [zz,y31,e_i,Nat.reduceAdd,Nat.reduceMul,Nat.reduceLeDiff,Nat.reduceEqDiff,shift,kill,killB,frz,frzB,view,tml,tmlc,List.length_set,h1,h2,h3m,h3l,h3a,h4,h9,h10m,h10l,h10a]<;>exact rfl)|exact rfl)))
              with_reducible apply TO.here
              repeat (first|(with_reducible first|refine mv ?_|refine m12 rfl ?_|refine TO.nil ?_)|((with_reducible apply TX.region);(focus (simp only [zl]<;>exact rfl));(focus rfl);(try dsimp only))|fail)
              apply TO.pop1 (by first|rfl|(simp only [twant,z1,zp,zs,h1,h2,h3m,h3l,h3a,h4,h9,h10m,h10l,h10a];done)) (pop_not rfl)
              (repeat (focus (show _ = _;first|exact k1 rfl|exact k2 rfl|(simp only [zz,y31,e_i,Nat.reduceAdd,Nat.reduceMul,Nat.reduceLeDiff,Nat.reduceEqDiff,h1,h2,h3m,h3l,h3a,h4,h9,h10m,h10l,h10a]<;>exact rfl)|exact rfl)))
              with_reducible apply TO.here
              repeat (first|(with_reducible first|refine mv ?_|refine m12 rfl ?_|refine TO.nil ?_)|((with_reducible apply TX.region);(focus (simp only [zl]<;>exact rfl));(focus rfl);(try dsimp only))|((with_reducible apply TX.cond_true);(focus rfl);(focus (first|rfl|(simp only [z1,zn,h1,h2,h3m,h3l,h3a,h4,h9,h10m,h10l,h10a];done))))|((with_reducible apply TX.cond_false);(focus rfl);(focus (first|rfl|(simp only [z1,zn,h1,h2,h3m,h3l,h3a,h4,h9,h10m,h10l,h10a];done))))|fail)
              rcases Bool.eq_false_or_eq_true (v9) with h12|h12
              · rw [if_pos h12] at hr
                repeat (first|(with_reducible first|refine mv ?_|refine m12 rfl ?_|refine TO.nil ?_)|((with_reducible first|apply TO.mv|apply TO.bin|apply TO.asg);(repeat (focus (show _ = _;first|exact k1 rfl|exact k2 rfl|(simp only [zz,y31,e_i,Nat.reduceAdd,Nat.reduceMul,Nat.reduceLeDiff,Nat.reduceEqDiff,h1,h2,h3m,h3l,h3a,h4,h9,h10m,h10l,h10a,h12]<;>exact rfl)|exact rfl)));(with_reducible apply TO.here))|((with_reducible apply TX.region);(focus (simp only [zl]<;>exact rfl));(focus rfl);(try dsimp only))|((with_reducible apply TX.cond_true);(focus rfl);(focus (first|rfl|(simp only [z1,zn,h1,h2,h3m,h3l,h3a,h4,h9,h10m,h10l,h10a,h12];done))))|((with_reducible apply TX.cond_false);(focus rfl);(focus (first|rfl|(simp only [z1,zn,h1,h2,h3m,h3l,h3a,h4,h9,h10m,h10l,h10a,h12];done))))|fail)
                cases hr
                refine ⟨rfl,?_⟩
                exact Wk.ren [] rfl .nil (by (repeat (first|exact RNs.nil|refine RNs.cons .junk ?_|refine RNs.cons (.keep rfl rfl) ?_|refine RNs.cons (.lsl rfl rfl) ?_|refine RNs.cons (.lsl rfl (by simp only [List.length_set])) ?_|refine RNs.cons (.lptr rfl) ?_|refine RNs.cons (.nil rfl) ?_|refine RNs.cons .nl ?_|refine RNs.cons (.keep (by simp only [h1,h2,h4,h9,h12]) rfl) ?_|refine RNs.cons (.tuple' ?_) ?_|refine RNs.cons (.agg' ?_) ?_)))
              · rw [if_neg (by rw [h12];exact Bool.false_ne_true)] at hr
                repeat (first|(with_reducible first|refine mv ?_|refine m12 rfl ?_|refine TO.nil ?_)|((with_reducible first|apply TO.asg);(repeat (focus (show _ = _;first|exact k1 rfl|exact k2 rfl|(simp only [zz,y31,e_i,Nat.reduceAdd,Nat.reduceMul,Nat.reduceLeDiff,Nat.reduceEqDiff,h1,h2,h3m,h3l,h3a,h4,h9,h10m,h10l,h10a,h12]<;>exact rfl)|exact rfl)));(with_reducible apply TO.here))|((with_reducible apply TX.region);(focus (simp only [zl]<;>exact rfl));(focus rfl);(try dsimp only))|((with_reducible apply TX.cond_true);(focus rfl);(focus (first|rfl|(simp only [z1,zn,h1,h2,h3m,h3l,h3a,h4,h9,h10m,h10l,h10a,h12];done))))|((with_reducible apply TX.cond_false);(focus rfl);(focus (first|rfl|(simp only [z1,zn,h1,h2,h3m,h3l,h3a,h4,h9,h10m,h10l,h10a,h12];done))))|fail)
                cases hr
                refine ⟨rfl,?_⟩
                exact Wk.ren [] rfl .nil (by (repeat (first|exact RNs.nil|refine RNs.cons .junk ?_|refine RNs.cons (.keep rfl rfl) ?_|refine RNs.cons (.lsl rfl rfl) ?_|refine RNs.cons (.lsl rfl (by simp only [List.length_set])) ?_|refine RNs.cons (.lptr rfl) ?_|refine RNs.cons (.nil rfl) ?_|refine RNs.cons .nl ?_|refine RNs.cons (.keep (by simp only [h1,h2,h4,h9,h12]) rfl) ?_|refine RNs.cons (.tuple' ?_) ?_|refine RNs.cons (.agg' ?_) ?_)))
            · rw [if_neg (by rw [h9];exact Bool.false_ne_true)] at hr
              repeat (first|(with_reducible first|refine mv ?_|refine m12 rfl ?_)|((with_reducible apply TX.cond_true);(focus rfl);(focus (first|rfl|(simp only [z1,zn,h1,h2,h3m,h3l,h3a,h4,h9];done))))|((with_reducible apply TX.cond_false);(focus rfl);(focus (first|rfl|(simp only [z1,zn,h1,h2,h3m,h3l,h3a,h4,h9];done))))|fail)
              cases hr
              refine ⟨rfl,?_⟩
              exact Wk.ren [] rfl .nil (by (repeat (first|exact RNs.nil|refine RNs.cons .junk ?_|refine RNs.cons (.keep rfl rfl) ?_|refine RNs.cons (.lsl rfl rfl) ?_|refine RNs.cons (.lsl rfl (by simp only [List.length_set])) ?_|refine RNs.cons (.lptr rfl) ?_|refine RNs.cons (.nil rfl) ?_|refine RNs.cons .nl ?_|refine RNs.cons (.keep (by simp only [h1,h2,h4,h9]) rfl) ?_|refine RNs.cons (.tuple' ?_) ?_|refine RNs.cons (.agg' ?_) ?_)))
          · intro e h;rcases e with _|e<;>cases h
          · try dsimp only
            rcases v10 with _|_
            · try dsimp only at hr
              try dsimp only
              repeat (first|(with_reducible first|refine mv ?_|refine m12 rfl ?_)|fail)
              cases hr
              refine ⟨.inr rfl,_,(by simp only [zy,y31,e_i,tresAll,tres,tload,rowOf,partT,h1,h2,h3m,h3l,h3a,h4];exact rfl),?_⟩
              exact Wk.ren [] rfl .nil (by (repeat (first|exact RNs.nil|refine RNs.cons .junk ?_|refine RNs.cons (.keep rfl rfl) ?_|refine RNs.cons (.lsl rfl rfl) ?_|refine RNs.cons (.lsl rfl (by simp only [List.length_set])) ?_|refine RNs.cons (.lptr rfl) ?_|refine RNs.cons (.nil rfl) ?_|refine RNs.cons .nl ?_|refine RNs.cons (.keep (by simp only [h1,h2,h4]) rfl) ?_|refine RNs.cons (.tuple' ?_) ?_|refine RNs.cons (.agg' ?_) ?_)))
            · try dsimp only at hr
              try dsimp only
              repeat (first|(with_reducible first|refine mv ?_|refine m12 rfl ?_|refine TO.nil ?_)|((with_reducible first|apply TO.fa|apply TO.ld);(repeat (focus (show _ = _;first|exact k1 rfl|exact k2 rfl|(simp only [zz,y31,e_i,Nat.reduceAdd,Nat.reduceMul,Nat.reduceLeDiff,Nat.reduceEqDiff,tfieldAddr,tload,rowOf,partT,List.getElem?_map,h1,h2,h3m,h3l,h3a,h4]<;>exact rfl)|exact rfl)));(with_reducible apply TO.here))|((with_reducible apply TX.region);(focus (simp only [zl]<;>exact rfl));(focus rfl);(try dsimp only))|fail)
              obtain ⟨v11,h14,hr⟩:=Option.bind_eq_some_iff.1 hr
              try dsimp only at hr
              apply TO.cal (by first|rfl|(simp only [twant,z1,zp,zs,h1,h2,h3m,h3l,h3a,h4];done)) rfl goFn24 (base_Within_spec h14) rfl rfl rfl
              (repeat (focus (show _ = _;first|exact k1 rfl|exact k2 rfl|(simp only [zz,y31,e_i,Nat.reduceAdd,Nat.reduceMul,Nat.reduceLeDiff,Nat.reduceEqDiff,shift,kill,killB,frz,frzB,view,tml,tmlc,List.length_set,h1,h2,h3m,h3l,h3a,h4]<;>exact rfl)|exact rfl)))
              with_reducible apply TO.here
              repeat (first|(with_reducible first|refine mv ?_|refine m12 rfl ?_|refine TO.nil ?_)|((with_reducible apply TX.region);(focus (simp only [zl]<;>exact rfl));(focus rfl);(try dsimp only))|fail)
              apply TO.pop1 (by first|rfl|(simp only [twant,z1,zp,zs,h1,h2,h3m,h3l,h3a,h4];done)) (pop_not rfl)
              (repeat (focus (show _ = _;first|exact k1 rfl|exact k2 rfl|(simp only [zz,y31,e_i,Nat.reduceAdd,Nat.reduceMul,Nat.reduceLeDiff,Nat.reduceEqDiff,h1,h2,h3m,h3l,h3a,h4]<;>exact rfl)|exact rfl)))
              with_reducible apply TO.here
              repeat (first|(with_reducible first|refine mv ?_|refine m12 rfl ?_|refine TO.nil ?_)|((with_reducible apply TX.region);(focus (simp only [zl]<;>exact rfl));(focus rfl);(try dsimp only))|((with_reducible apply TX.cond_true);(focus rfl);(focus (first|rfl|(simp only [z1,zn,h1,h2,h3m,h3l,h3a,h4];done))))|((with_reducible apply TX.cond_false);(focus rfl);(focus (first|rfl|(simp only [z1,zn,h1,h2,h3m,h3l,h3a,h4];done))))|fail)
              rcases Bool.eq_false_or_eq_true (v11) with h15|h15
              · rw [if_pos h15] at hr
                repeat (first|(with_reducible first|refine mv ?_|refine m12 rfl ?_|refine TO.nil ?_)|((with_reducible first|apply TO.asg);(repeat (focus (show _ = _;first|exact k1 rfl|exact k2 rfl|(simp only [zz,y31,e_i,Nat.reduceAdd,Nat.reduceMul,Nat.reduceLeDiff,Nat.reduceEqDiff,h1,h2,h3m,h3l,h3a,h4,h15]<;>exact rfl)|exact rfl)));(with_reducible apply TO.here))|((with_reducible apply TX.region);(focus (simp only [zl]<;>exact rfl));(focus rfl);(try dsimp only))|((with_reducible apply TX.cond_true);(focus rfl);(focus (first|rfl|(simp only [z1,zn,h1,h2,h3m,h3l,h3a,h4,h15];done))))|((with_reducible apply TX.cond_false);(focus rfl);(focus (first|rfl|(simp only [z1,zn,h1,h2,h3m,h3l,h3a,h4,h15];done))))|fail)
                cases hr
                refine ⟨.inr rfl,_,(by simp only [zy,y31,e_i,tresAll,tres,tload,rowOf,partT,h1,h2,h3m,h3l,h3a,h4,h15];exact rfl),?_⟩
                exact Wk.ren [] rfl .nil (by (repeat (first|exact RNs.nil|refine RNs.cons .junk ?_|refine RNs.cons (.keep rfl rfl) ?_|refine RNs.cons (.lsl rfl rfl) ?_|refine RNs.cons (.lsl rfl (by simp only [List.length_set])) ?_|refine RNs.cons (.lptr rfl) ?_|refine RNs.cons (.nil rfl) ?_|refine RNs.cons .nl ?_|refine RNs.cons (.keep (by simp only [h1,h2,h4,h15]) rfl) ?_|refine RNs.cons (.tuple' ?_) ?_|refine RNs.cons (.agg' ?_) ?_)))
              · rw [if_neg (by rw [h15];exact Bool.false_ne_true)] at hr
                repeat (first|(with_reducible first|refine mv ?_|refine m12 rfl ?_|refine TO.nil ?_)|((with_reducible first|apply TO.asg);(repeat (focus (show _ = _;first|exact k1 rfl|exact k2 rfl|(simp only [zz,y31,e_i,Nat.reduceAdd,Nat.reduceMul,Nat.reduceLeDiff,Nat.reduceEqDiff,h1,h2,h3m,h3l,h3a,h4,h15]<;>exact rfl)|exact rfl)));(with_reducible apply TO.here))|((with_reducible apply TX.region);(focus (simp only [zl]<;>exact rfl));(focus rfl);(try dsimp only))|((with_reducible apply TX.cond_true);(focus rfl);(focus (first|rfl|(simp only [z1,zn,h1,h2,h3m,h3l,h3a,h4,h15];done))))|((with_reducible apply TX.cond_false);(focus rfl);(focus (first|rfl|(simp only [z1,zn,h1,h2,h3m,h3l,h3a,h4,h15];done))))|fail)
                cases hr
                refine ⟨.inr rfl,_,(by simp only [zy,y31,e_i,tresAll,tres,tload,rowOf,partT,h1,h2,h3m,h3l,h3a,h4,h15];exact rfl),?_⟩
                exact Wk.ren [] rfl .nil (by (repeat (first|exact RNs.nil|refine RNs.cons .junk ?_|refine RNs.cons (.keep rfl rfl) ?_|refine RNs.cons (.lsl rfl rfl) ?_|refine RNs.cons (.lsl rfl (by simp only [List.length_set])) ?_|refine RNs.cons (.lptr rfl) ?_|refine RNs.cons (.nil rfl) ?_|refine RNs.cons .nl ?_|refine RNs.cons (.keep (by simp only [h1,h2,h4,h15]) rfl) ?_|refine RNs.cons (.tuple' ?_) ?_|refine RNs.cons (.agg' ?_) ?_)))
          · try dsimp only
            exact Wk.ren [] rfl .nil (by (repeat (first|exact RNs.nil|refine RNs.cons .junk ?_|refine RNs.cons (.keep rfl rfl) ?_|refine RNs.cons (.lsl rfl rfl) ?_|refine RNs.cons (.lsl rfl (by simp only [List.length_set])) ?_|refine RNs.cons (.lptr rfl) ?_|refine RNs.cons (.nil rfl) ?_|refine RNs.cons .nl ?_|refine RNs.cons (.keep (by simp only [h1,h2,h4]) rfl) ?_|refine RNs.cons (.tuple' ?_) ?_|refine RNs.cons (.agg' ?_) ?_)))
  rfl

end Go.Rex

namespace Go.Rex
open Go.Proofs
open Go Go.Rex Go.RowKit
set_option maxRecDepth 100000
set_option maxHeartbeats 200000
def y32:=an @wi64_0a1073741824 <| @wi64_1073741824m1073741824
theorem base_Root_spec {v1 : Int} {v2 : Int} (hr : base_Root v1 = some (v2)) : Spec (lim Try.prog) 108 [.v (.int .i64 v1)] ⟨[.v (.int .i64 v2)],[]⟩:=by
  unfold base_Root at hr
  apply Spec.fn Try.func108 rfl
  focus (simp [Try.f108]<;>exact rfl)
  focus
    repeat (first|(with_reducible first|refine mv ?_|refine m12 rfl ?_|refine TO.nil ?_)|((with_reducible first|apply TO.asg);(repeat (focus (show _ = _;first|exact k1 rfl|exact k2 rfl|(simp only [zz,y32,Nat.reduceAdd,Nat.reduceMul,Nat.reduceLeDiff,Nat.reduceEqDiff]<;>exact rfl)|exact rfl)));(with_reducible apply TO.here))|((with_reducible apply TX.region);(focus (simp only [zl]<;>exact rfl));(focus rfl);(try dsimp only))|fail)
    obtain ⟨v6,h5,hr⟩:=Option.bind_eq_some_iff.1 hr
    try dsimp only at hr
    refine TX.loopE (step:=base_Root_l1 v1) (x:=(0,1073741824)) h5 (fun (v3,v4)=>⟨.v (.int .i64 v1) :: .junk :: .junk :: .v (.int .i64 v3) :: .v (.int .i64 v4) :: .junk :: .junk :: .junk :: .junk :: .junk :: .junk :: .junk :: .junk :: .junk :: .junk :: .junk :: .junk :: .junk :: .junk :: .junk :: .junk :: .junk :: [],[]⟩) (fun v5=>(.exit 0,⟨.junk :: .junk :: .junk :: .v (.int .i64 v5) :: .junk :: .junk :: .junk :: .junk :: .junk :: .junk :: .junk :: .junk :: .junk :: .junk :: .junk :: .junk :: .junk :: .junk :: .junk :: .junk :: .junk :: .junk :: [],[]⟩)) ?_ ?_ ?_ ?_
    · rintro ⟨v3,v4⟩ v0 hr
      dsimp only [base_Root_l1] at hr
      try dsimp only
      repeat (first|(with_reducible first|refine mv ?_|refine m12 rfl ?_|refine TO.nil ?_)|((with_reducible first|apply TO.mv|apply TO.bin);(repeat (focus (show _ = _;first|exact k1 rfl|exact k2 rfl|(simp only [zz,y32,Nat.reduceAdd,Nat.reduceMul,Nat.reduceLeDiff,Nat.reduceEqDiff]<;>exact rfl)|exact rfl)));(with_reducible apply TO.here))|((with_reducible apply TX.region);(focus (simp only [zl]<;>exact rfl));(focus rfl);(try dsimp only))|((with_reducible apply TX.cond_true);(focus rfl);(focus (first|rfl|(simp only [z1,zn];done))))|((with_reducible apply TX.cond_false);(focus rfl);(focus (first|rfl|(simp only [z1,zn];done))))|fail)
      rcases Bool.eq_false_or_eq_true ((decide (v4 > 0))) with h3|h3
      · rw [if_pos h3] at hr
        repeat (first|(with_reducible first|refine mv ?_|refine m12 rfl ?_|refine TO.nil ?_)|((with_reducible first|apply TO.mv|apply TO.bin);(repeat (focus (show _ = _;first|exact k1 rfl|exact k2 rfl|(simp only [zz,y32,Nat.reduceAdd,Nat.reduceMul,Nat.reduceLeDiff,Nat.reduceEqDiff,h3]<;>exact rfl)|exact rfl)));(with_reducible apply TO.here))|((with_reducible apply TX.region);(focus (simp only [zl]<;>exact rfl));(focus rfl);(try dsimp only))|((with_reducible apply TX.cond_true);(focus rfl);(focus (first|rfl|(simp only [z1,zn,h3];done))))|((with_reducible apply TX.cond_false);(focus rfl);(focus (first|rfl|(simp only [z1,zn,h3];done))))|fail)
        rcases Bool.eq_false_or_eq_true ((decide ((IntKind.i64.wrap ((IntKind.i64.wrap (v3 + v4)) * (IntKind.i64.wrap (v3 + v4)))) ≤ v1))) with h4|h4
        · rw [if_pos h4] at hr
          repeat (first|(with_reducible first|refine mv ?_|refine m12 rfl ?_|refine TO.nil ?_)|((with_reducible first|apply TO.mv|apply TO.bin|apply TO.asg);(repeat (focus (show _ = _;first|exact k1 rfl|exact k2 rfl|(simp only [zz,y32,Nat.reduceAdd,Nat.reduceMul,Nat.reduceLeDiff,Nat.reduceEqDiff,h3,h4]<;>exact rfl)|exact rfl)));(with_reducible apply TO.here))|((with_reducible apply TX.region);(focus (simp only [zl]<;>exact rfl));(focus rfl);(try dsimp only))|((with_reducible apply TX.cond_true);(focus rfl);(focus (first|rfl|(simp only [z1,zn,h3,h4];done))))|((with_reducible apply TX.cond_false);(focus rfl);(focus (first|rfl|(simp only [z1,zn,h3,h4];done))))|fail)
          cases hr
          refine ⟨rfl,?_⟩
          exact Wk.ren [] rfl .nil (by (repeat (first|exact RNs.nil|refine RNs.cons .junk ?_|refine RNs.cons (.keep rfl rfl) ?_|refine RNs.cons (.lsl rfl rfl) ?_|refine RNs.cons (.lsl rfl (by simp only [List.length_set])) ?_|refine RNs.cons (.lptr rfl) ?_|refine RNs.cons (.nil rfl) ?_|refine RNs.cons .nl ?_|refine RNs.cons (.keep (by simp only [h3,h4]) rfl) ?_|refine RNs.cons (.tuple' ?_) ?_|refine RNs.cons (.agg' ?_) ?_)))
        · rw [if_neg (by rw [h4];exact Bool.false_ne_true)] at hr
          repeat (first|(with_reducible first|refine mv ?_|refine m12 rfl ?_|refine TO.nil ?_)|((with_reducible first|apply TO.mv|apply TO.bin|apply TO.asg);(repeat (focus (show _ = _;first|exact k1 rfl|exact k2 rfl|(simp only [zz,y32,Nat.reduceAdd,Nat.reduceMul,Nat.reduceLeDiff,Nat.reduceEqDiff,h3,h4]<;>exact rfl)|exact rfl)));(with_reducible apply TO.here))|((with_reducible apply TX.region);(focus (simp only [zl]<;>exact rfl));(focus rfl);(try dsimp only))|((with_reducible apply TX.cond_true);(focus rfl);(focus (first|rfl|(simp only [z1,zn,h3,h4];done))))|((with_reducible apply TX.cond_false);(focus rfl);(focus (first|rfl|(simp only [z1,zn,h3,h4];done))))|fail)
          cases hr
          refine ⟨rfl,?_⟩
          exact Wk.ren [] rfl .nil (by (repeat (first|exact RNs.nil|refine RNs.cons .junk ?_|refine RNs.cons (.keep rfl rfl) ?_|refine RNs.cons (.lsl rfl rfl) ?_|refine RNs.cons (.lsl rfl (by simp only [List.length_set])) ?_|refine RNs.cons (.lptr rfl) ?_|refine RNs.cons (.nil rfl) ?_|refine RNs.cons .nl ?_|refine RNs.cons (.keep (by simp only [h3,h4]) rfl) ?_|refine RNs.cons (.tuple' ?_) ?_|refine RNs.cons (.agg' ?_) ?_)))
      · rw [if_neg (by rw [h3];exact Bool.false_ne_true)] at hr
        repeat (first|(with_reducible first|refine mv ?_|refine m12 rfl ?_)|((with_reducible apply TX.cond_true);(focus rfl);(focus (first|rfl|(simp only [z1,zn,h3];done))))|((with_reducible apply TX.cond_false);(focus rfl);(focus (first|rfl|(simp only [z1,zn,h3];done))))|fail)
        cases hr
        refine ⟨rfl,?_⟩
        exact Wk.ren [] rfl .nil (by (repeat (first|exact RNs.nil|refine RNs.cons .junk ?_|refine RNs.cons (.keep rfl rfl) ?_|refine RNs.cons (.lsl rfl rfl) ?_|refine RNs.cons (.lsl rfl (by simp only [List.length_set])) ?_|refine RNs.cons (.lptr rfl) ?_|refine RNs.cons (.nil rfl) ?_|refine RNs.cons .nl ?_|refine RNs.cons (.keep (by simp only [h3]) rfl) ?_|refine RNs.cons (.tuple' ?_) ?_|refine RNs.cons (.agg' ?_) ?_)))
    · intro e h;cases h
    · try dsimp only
      repeat (first|(with_reducible first|refine mv ?_|refine m12 rfl ?_|refine TO.nil ?_)|((with_reducible first|apply TO.mv|apply TO.asg);(repeat (focus (show _ = _;first|exact k1 rfl|exact k2 rfl|(simp only [zz,y32,Nat.reduceAdd,Nat.reduceMul,Nat.reduceLeDiff,Nat.reduceEqDiff]<;>exact rfl)|exact rfl)));(with_reducible apply TO.here))|((with_reducible apply TX.region);(focus (simp only [zl]<;>exact rfl));(focus rfl);(try dsimp only))|fail)
      cases hr
      refine ⟨.inr rfl,_,(by simp only [zy,y32,tresAll,tres,tload,rowOf,partT];exact rfl),?_⟩
      exact wr [] rfl .nil
    · try dsimp only
      exact wr [] rfl .nil
  rfl

end Go.Rex

namespace Go.Rex
open Go.Proofs
open Go Go.Rex Go.RowKit
set_option maxRecDepth 100000
set_option maxHeartbeats 200000
theorem base_Floor_spec {v1 : Int} {v2 : Int} {v3 : Int} (hr : base_Floor v1 v2 = some (v3)) : Spec (lim Try.prog) 51 [.v (.int .i64 v1),.v (.int .i64 v2)] ⟨[.v (.int .i64 v3)],[]⟩:=by
  unfold base_Floor at hr
  apply Spec.fn Try.func51 rfl
  focus (simp [Try.f51]<;>exact rfl)
  focus
    repeat (first|(with_reducible first|refine mv ?_|refine m12 rfl ?_|refine TO.nil ?_)|((with_reducible first|apply TO.asg|apply TO.mv);(repeat (focus (show _ = _;first|exact k1 rfl|exact k2 rfl|(simp only [zz,Nat.reduceAdd,Nat.reduceMul,Nat.reduceLeDiff,Nat.reduceEqDiff]<;>exact rfl)|exact rfl)));(with_reducible apply TO.here))|((with_reducible apply TX.region);(focus (simp only [zl]<;>exact rfl));(focus rfl);(try dsimp only))|fail)
    by_cases h1 : v2 = 0
    · rw [if_pos h1] at hr
      cases hr
    · rw [if_neg h1] at hr
      repeat (first|(with_reducible first|refine mv ?_|refine m12 rfl ?_|refine TO.nil ?_)|((with_reducible first|apply TO.bin|apply TO.asg|apply TO.mv);(repeat (focus (show _ = _;first|exact k1 rfl|exact k2 rfl|(simp only [zz,Nat.reduceAdd,Nat.reduceMul,Nat.reduceLeDiff,Nat.reduceEqDiff,h1]<;>exact rfl)|exact rfl)));(with_reducible apply TO.here))|((with_reducible apply TX.region);(focus (simp only [zl]<;>exact rfl));(focus rfl);(try dsimp only))|((with_reducible apply TX.cond_true);(focus rfl);(focus (first|rfl|(simp only [z1,zn,h1];done))))|((with_reducible apply TX.cond_false);(focus rfl);(focus (first|rfl|(simp only [z1,zn,h1];done))))|fail)
      rcases Bool.eq_false_or_eq_true ((decide ((v1.tmod v2) < 0))) with h2|h2
      · rw [if_pos h2] at hr
        repeat (first|(with_reducible first|refine mv ?_|refine m12 rfl ?_|refine TO.nil ?_)|((with_reducible first|apply TO.mv|apply TO.bin|apply TO.asg);(repeat (focus (show _ = _;first|exact k1 rfl|exact k2 rfl|(simp only [zz,Nat.reduceAdd,Nat.reduceMul,Nat.reduceLeDiff,Nat.reduceEqDiff,h1,h2]<;>exact rfl)|exact rfl)));(with_reducible apply TO.here))|((with_reducible apply TX.region);(focus (simp only [zl]<;>exact rfl));(focus rfl);(try dsimp only))|((with_reducible apply TX.cond_true);(focus rfl);(focus (first|rfl|(simp only [z1,zn,h1,h2];done))))|((with_reducible apply TX.cond_false);(focus rfl);(focus (first|rfl|(simp only [z1,zn,h1,h2];done))))|fail)
        cases hr
        refine ⟨.inr rfl,_,(by simp only [zy,tresAll,tres,tload,rowOf,partT,h1,h2];exact rfl),?_⟩
        exact Wk.ren [] rfl .nil (by (repeat (first|exact RNs.nil|refine RNs.cons .junk ?_|refine RNs.cons (.keep rfl rfl) ?_|refine RNs.cons (.lsl rfl rfl) ?_|refine RNs.cons (.lsl rfl (by simp only [List.length_set])) ?_|refine RNs.cons (.lptr rfl) ?_|refine RNs.cons (.nil rfl) ?_|refine RNs.cons .nl ?_|refine RNs.cons (.keep (by simp only [h2]) rfl) ?_|refine RNs.cons (.tuple' ?_) ?_|refine RNs.cons (.agg' ?_) ?_)))
      · rw [if_neg (by rw [h2];exact Bool.false_ne_true)] at hr
        repeat (first|(with_reducible first|refine mv ?_|refine m12 rfl ?_|refine TO.nil ?_)|((with_reducible first|apply TO.mv|apply TO.asg);(repeat (focus (show _ = _;first|exact k1 rfl|exact k2 rfl|(simp only [zz,Nat.reduceAdd,Nat.reduceMul,Nat.reduceLeDiff,Nat.reduceEqDiff,h1,h2]<;>exact rfl)|exact rfl)));(with_reducible apply TO.here))|((with_reducible apply TX.region);(focus (simp only [zl]<;>exact rfl));(focus rfl);(try dsimp only))|((with_reducible apply TX.cond_true);(focus rfl);(focus (first|rfl|(simp only [z1,zn,h1,h2];done))))|((with_reducible apply TX.cond_false);(focus rfl);(focus (first|rfl|(simp only [z1,zn,h1,h2];done))))|fail)
        cases hr
        refine ⟨.inr rfl,_,(by simp only [zy,tresAll,tres,tload,rowOf,partT,h1,h2];exact rfl),?_⟩
        exact Wk.ren [] rfl .nil (by (repeat (first|exact RNs.nil|refine RNs.cons .junk ?_|refine RNs.cons (.keep rfl rfl) ?_|refine RNs.cons (.lsl rfl rfl) ?_|refine RNs.cons (.lsl rfl (by simp only [List.length_set])) ?_|refine RNs.cons (.lptr rfl) ?_|refine RNs.cons (.nil rfl) ?_|refine RNs.cons .nl ?_|refine RNs.cons (.keep (by simp only [h2]) rfl) ?_|refine RNs.cons (.tuple' ?_) ?_|refine RNs.cons (.agg' ?_) ?_)))
  rfl

end Go.Rex

namespace Go.Rex
open Go.Proofs
open Go Go.Rex Go.RowKit
set_option maxRecDepth 100000
set_option maxHeartbeats 200000
def y33:=an @ag107 <| an @ag3 <| an @ar107 <| an @cs107 <| an @cs3 <| an @ok107 <| an @ok3 <| an @so107 <| an @st107 <| @zc107
theorem ref08_middle_spec {v1 : Int} {v2 : Int} {v3 : Int} {v4 : Int} {v5 : Int} {v6 : Int} (hr : ref08_middle v1 v2 v3 v4 = some (v5,v6)) : Spec (lim Try.prog) 75 [.agg [.v (.int .i64 v1),.v (.int .i64 v2)],.agg [.v (.int .i64 v3),.v (.int .i64 v4)]] ⟨[.agg [.v (.int .i64 v5),.v (.int .i64 v6)]],[]⟩:=by
  unfold ref08_middle at hr
  apply Spec.fn Try.func75 rfl
  focus (simp [Try.f75]<;>exact rfl)
  focus
    repeat (first|(with_reducible first|refine mv ?_|refine m12 rfl ?_|refine TO.nil ?_)|((with_reducible first|apply TO.bf|apply TO.al|apply TO.mv|apply TO.bin);(repeat (focus (show _ = _;first|exact k1 rfl|exact k2 rfl|(simp only [zz,y33,Nat.reduceAdd,Nat.reduceMul,Nat.reduceLeDiff,Nat.reduceEqDiff]<;>exact rfl)|exact rfl)));(with_reducible apply TO.here))|((with_reducible apply TX.region);(focus (simp only [zl]<;>exact rfl));(focus rfl);(try dsimp only))|with_reducible refine TD.nil ?_|((with_reducible first|apply TD.ia|apply TD.ld|apply TD.ldw|apply TD.bin|apply TD.asg);(repeat (focus (show _ = _;first|exact k1 rfl|exact k2 rfl|(simp only [zz,y33,Nat.reduceAdd,Nat.reduceMul,Nat.reduceLeDiff,Nat.reduceEqDiff,tindexAddr,z5,Int.reduceToNat,Int.reduceLE,Int.reduceLT,Int.cast_ofNat_Int,tload,rowOf,partT,List.getElem?_map]<;>exact rfl)|exact rfl)));(with_reducible refine TD.here ?_))|((with_reducible apply TX.drawn);(focus decide +kernel);(focus (simp only [zl]<;>exact rfl));(focus exact rfl);(try dsimp only))|fail)
    obtain ⟨v7,h1,hr⟩:=Option.bind_eq_some_iff.1 hr
    try dsimp only at hr
    apply TO.cal (by first|rfl|(simp only [twant,z1,zp,zs];done)) rfl goFn108 (base_Root_spec h1) rfl rfl rfl
    (repeat (focus (show _ = _;first|exact k1 rfl|exact k2 rfl|(simp only [zz,y33,Nat.reduceAdd,Nat.reduceMul,Nat.reduceLeDiff,Nat.reduceEqDiff,shift,kill,killB,frz,frzB,view,tml,tmlc,List.length_set]<;>exact rfl)|exact rfl)))
    with_reducible apply TO.here
    repeat (first|(with_reducible first|refine mv ?_|refine m12 rfl ?_|refine TO.nil ?_)|((with_reducible first|apply TO.asg|apply TO.mv|apply TO.bin);(repeat (focus (show _ = _;first|exact k1 rfl|exact k2 rfl|(simp only [zz,y33,Nat.reduceAdd,Nat.reduceMul,Nat.reduceLeDiff,Nat.reduceEqDiff]<;>exact rfl)|exact rfl)));(with_reducible apply TO.here))|((with_reducible apply TX.region);(focus (simp only [zl]<;>exact rfl));(focus rfl);(try dsimp only))|fail)
    obtain ⟨v8,h2,hr⟩:=Option.bind_eq_some_iff.1 hr
    try dsimp only at hr
    apply TO.cal (by first|rfl|(simp only [twant,z1,zp,zs];done)) rfl goFn51 (base_Floor_spec h2) rfl rfl rfl
    (repeat (focus (show _ = _;first|exact k1 rfl|exact k2 rfl|(simp only [zz,y33,Nat.reduceAdd,Nat.reduceMul,Nat.reduceLeDiff,Nat.reduceEqDiff,shift,kill,killB,frz,frzB,view,tml,tmlc,List.length_set]<;>exact rfl)|exact rfl)))
    with_reducible apply TO.here
    repeat (first|(with_reducible first|refine mv ?_|refine m12 rfl ?_|refine TO.nil ?_)|((with_reducible first|apply TO.mv|apply TO.bin);(repeat (focus (show _ = _;first|exact k1 rfl|exact k2 rfl|(simp only [zz,y33,Nat.reduceAdd,Nat.reduceMul,Nat.reduceLeDiff,Nat.reduceEqDiff]<;>exact rfl)|exact rfl)));(with_reducible apply TO.here))|((with_reducible apply TX.region);(focus (simp only [zl]<;>exact rfl));(focus rfl);(try dsimp only))|fail)
    obtain ⟨v9,h3,hr⟩:=Option.bind_eq_some_iff.1 hr
    try dsimp only at hr
    apply TO.cal (by first|rfl|(simp only [twant,z1,zp,zs];done)) rfl goFn51 (base_Floor_spec h3) rfl rfl rfl
    (repeat (focus (show _ = _;first|exact k1 rfl|exact k2 rfl|(simp only [zz,y33,Nat.reduceAdd,Nat.reduceMul,Nat.reduceLeDiff,Nat.reduceEqDiff,shift,kill,killB,frz,frzB,view,tml,tmlc,List.length_set]<;>exact rfl)|exact rfl)))
    with_reducible apply TO.here
    repeat (first|(with_reducible first|refine mv ?_|refine m12 rfl ?_|refine TO.nil ?_)|((with_reducible first|apply TO.bld|apply TO.sv);(repeat (focus (show _ = _;first|exact k1 rfl|exact k2 rfl|(simp only [zz,y33,Nat.reduceAdd,Nat.reduceMul,Nat.reduceLeDiff,Nat.reduceEqDiff,tbuild,tfill]<;>exact rfl)|exact rfl)));(with_reducible apply TO.here))|((with_reducible apply TX.region);(focus (simp only [zl]<;>exact rfl));(focus rfl);(try dsimp only))|fail)
    cases hr
    refine ⟨.inr rfl,_,(by simp only [zy,y33,tresAll,tres,tload,rowOf,partT];exact rfl),?_⟩
    exact wr [] rfl .nil
  rfl

end Go.Rex

namespace Go.Rex
open Go.Proofs
open Go Go.Rex Go.RowKit
set_option maxRecDepth 100000
set_option maxHeartbeats 1000000
def y34:=an @ag107 <| an @ar107 <| an @by107 <| an @cs107 <| an @cs3 <| an @ok107 <| an @ok3 <| an @so44 <| an @st107 <| an @zc107 <| an @wi64_256a256 <| an @wi64_256a512 <| an @wi64_2m256 <| @wi64_256s256
theorem ref08_Table_spec {v1 : (List (Int × Int))} (hr : ref08_Table = some (v1)) : Spec (lim Try.prog) 27 [] ⟨[.lsl 0 0 v1.length],[.rows 2 (v1.map e_ii)]⟩:=by
  unfold ref08_Table at hr
  apply Spec.fn Try.func27 rfl
  focus (simp [Try.f27]<;>exact rfl)
  focus
    repeat (first|(with_reducible first|refine mv ?_|refine m12 rfl ?_|refine TO.nil ?_)|((with_reducible first|apply TO.asg);(repeat (focus (show _ = _;first|exact k1 rfl|exact k2 rfl|(simp only [zz,y34,e_ii,Nat.reduceAdd,Nat.reduceMul,Nat.reduceLeDiff,Nat.reduceEqDiff]<;>exact rfl)|exact rfl)));(with_reducible apply TO.here))|((with_reducible apply TX.region);(focus (simp only [zl]<;>exact rfl));(focus rfl);(try dsimp only))|fail)
    obtain ⟨v2,h1,hr⟩:=Option.bind_eq_some_iff.1 hr
    try dsimp only at hr
    apply TO.mk e_ii h1 (by first|rfl|(simp only [twant,z1,zp,zs];done)) rfl rfl so44 zc107 by107 rfl rfl rfl
    (repeat (focus (show _ = _;first|exact k1 rfl|exact k2 rfl|(simp only [zz,y34,e_ii,Nat.reduceAdd,Nat.reduceMul,Nat.reduceLeDiff,Nat.reduceEqDiff]<;>exact rfl)|exact rfl)))
    with_reducible apply TO.here
    repeat (first|(with_reducible first|refine mv ?_|refine m12 rfl ?_|refine TO.nil ?_)|((with_reducible first|apply TO.asg|apply TO.mv|apply TO.bld);(repeat (focus (show _ = _;first|exact k1 rfl|exact k2 rfl|(simp only [zz,y34,e_ii,Nat.reduceAdd,Nat.reduceMul,Nat.reduceLeDiff,Nat.reduceEqDiff,tbuild,tfill]<;>exact rfl)|exact rfl)));(with_reducible apply TO.here))|((with_reducible apply TX.region);(focus (simp only [zl]<;>exact rfl));(focus rfl);(try dsimp only))|fail)
    obtain ⟨⟨v3,v4⟩,h2,hr⟩:=Option.bind_eq_some_iff.1 hr
    try dsimp only at hr
    have h2m:=tidx_map (f:=e_ii) h2
    have h2l:=getI_lt h2
    try simp only [List.length_set] at h2l
    have h2a:=getI_at h2
    repeat (first|(with_reducible first|refine mv ?_|refine m12 rfl ?_|refine TO.nil ?_)|((with_reducible first|apply TO.ia);(repeat (focus (show _ = _;first|exact k1 rfl|exact k2 rfl|(simp only [zz,y34,e_ii,Nat.reduceAdd,Nat.reduceMul,Nat.reduceLeDiff,Nat.reduceEqDiff,tindexAddr,Nat.zero_add,h2m,h2l,h2a]<;>exact rfl)|exact rfl)));(with_reducible apply TO.here))|((with_reducible apply TX.region);(focus (simp only [zl]<;>exact rfl));(focus rfl);(try dsimp only))|fail)
    apply TO.sr e_ii v2 (v3,v4) (67108864,0) h2a (by first|rfl|(simp only [twant,z1,zp,zs,h2m,h2l,h2a];done)) rfl rfl rfl rfl rfl ok107 (by rw [cs107];rfl) rfl rfl rfl rfl
    (repeat (focus (show _ = _;first|exact k1 rfl|exact k2 rfl|(simp only [zz,y34,e_ii,Nat.reduceAdd,Nat.reduceMul,Nat.reduceLeDiff,Nat.reduceEqDiff,shift,kill,killB,frz,frzB,view,tml,tmlc,List.length_set,h2m,h2l,h2a]<;>exact rfl)|exact rfl)))
    with_reducible apply TO.here
    repeat (first|(with_reducible first|refine mv ?_|refine m12 rfl ?_|refine TO.nil ?_)|((with_reducible apply TX.region);(focus (simp only [zl]<;>exact rfl));(focus rfl);(try dsimp only))|fail)
    obtain ⟨⟨v5,v6⟩,h3,hr⟩:=Option.bind_eq_some_iff.1 hr
    try dsimp only at hr
    have h3m:=tidx_map (f:=e_ii) h3
    have h3l:=getI_lt h3
    try simp only [List.length_set] at h3l
    have h3a:=getI_at h3
    repeat (first|(with_reducible first|refine mv ?_|refine m12 rfl ?_|refine TO.nil ?_)|((with_reducible first|apply TO.ia);(repeat (focus (show _ = _;first|exact k1 rfl|exact k2 rfl|(simp only [zz,y34,e_ii,Nat.reduceAdd,Nat.reduceMul,Nat.reduceLeDiff,Nat.reduceEqDiff,tindexAddr,Nat.zero_add,h2m,h2l,h2a,h3m,h3l,h3a]<;>exact rfl)|exact rfl)));(with_reducible apply TO.here))|((with_reducible apply TX.region);(focus (simp only [zl]<;>exact rfl));(focus rfl);(try dsimp only))|fail)
    apply TO.sr e_ii (v2.set (0 : Int).toNat (67108864,0)) (v5,v6) (47453132,47453132) h3a (by first|rfl|(simp only [twant,z1,zp,zs,h2m,h2l,h2a,h3m,h3l,h3a];done)) rfl rfl rfl rfl rfl ok107 (by rw [cs107];rfl) rfl rfl rfl rfl
    (repeat (focus (show _ = _;first|exact k1 rfl|exact k2 rfl|(simp only [zz,y34,e_ii,Nat.reduceAdd,Nat.reduceMul,Nat.reduceLeDiff,Nat.reduceEqDiff,shift,kill,killB,frz,frzB,view,tml,tmlc,List.length_set,h2m,h2l,h2a,h3m,h3l,h3a]<;>exact rfl)|exact rfl)))
    with_reducible apply TO.here
    repeat (first|(with_reducible first|refine mv ?_|refine m12 rfl ?_|refine TO.nil ?_)|((with_reducible apply TX.region);(focus (simp only [zl]<;>exact rfl));(focus rfl);(try dsimp only))|fail)
    obtain ⟨⟨v7,v8⟩,h4,hr⟩:=Option.bind_eq_some_iff.1 hr
    try dsimp only at hr
    have h4m:=tidx_map (f:=e_ii) h4
    have h4l:=getI_lt h4
    try simp only [List.length_set] at h4l
    have h4a:=getI_at h4
    repeat (first|(with_reducible first|refine mv ?_|refine m12 rfl ?_|refine TO.nil ?_)|((with_reducible first|apply TO.ia);(repeat (focus (show _ = _;first|exact k1 rfl|exact k2 rfl|(simp only [zz,y34,e_ii,Nat.reduceAdd,Nat.reduceMul,Nat.reduceLeDiff,Nat.reduceEqDiff,tindexAddr,Nat.zero_add,h2m,h2l,h2a,h3m,h3l,h3a,h4m,h4l,h4a]<;>exact rfl)|exact rfl)));(with_reducible apply TO.here))|((with_reducible apply TX.region);(focus (simp only [zl]<;>exact rfl));(focus rfl);(try dsimp only))|fail)
    apply TO.sr e_ii ((v2.set (0 : Int).toNat (67108864,0)).set (512 : Int).toNat (47453132,47453132)) (v7,v8) (0,67108864) h4a (by first|rfl|(simp only [twant,z1,zp,zs,h2m,h2l,h2a,h3m,h3l,h3a,h4m,h4l,h4a];done)) rfl rfl rfl rfl rfl ok107 (by rw [cs107];rfl) rfl rfl rfl rfl
    (repeat (focus (show _ = _;first|exact k1 rfl|exact k2 rfl|(simp only [zz,y34,e_ii,Nat.reduceAdd,Nat.reduceMul,Nat.reduceLeDiff,Nat.reduceEqDiff,shift,kill,killB,frz,frzB,view,tml,tmlc,List.length_set,h2m,h2l,h2a,h3m,h3l,h3a,h4m,h4l,h4a]<;>exact rfl)|exact rfl)))
    with_reducible apply TO.here
    repeat (first|(with_reducible first|refine mv ?_|refine m12 rfl ?_|refine TO.nil ?_)|((with_reducible first|apply TO.asg);(repeat (focus (show _ = _;first|exact k1 rfl|exact k2 rfl|(simp only [zz,y34,e_ii,Nat.reduceAdd,Nat.reduceMul,Nat.reduceLeDiff,Nat.reduceEqDiff,h2m,h2l,h2a,h3m,h3l,h3a,h4m,h4l,h4a]<;>exact rfl)|exact rfl)));(with_reducible apply TO.here))|((with_reducible apply TX.region);(focus (simp only [zl]<;>exact rfl));(focus rfl);(try dsimp only))|fail)
    obtain ⟨v52,h29,hr⟩:=Option.bind_eq_some_iff.1 hr
    try dsimp only at hr
    refine TX.loopE (step:=ref08_Table_l1) (x:=((((v2.set (0 : Int).toNat (67108864,0)).set (512 : Int).toNat (47453132,47453132)).set (1024 : Int).toNat (0,67108864)),256)) h29 (fun (v9,v10)=>⟨.junk :: .lsl 0 0 v9.length :: .v (.int .i64 v10) :: .junk :: .junk :: .junk :: .junk :: .junk :: .junk :: .junk :: .junk :: .junk :: .junk :: .junk :: .junk :: .junk :: .junk :: .junk :: .junk :: .junk :: .junk :: .junk :: .junk :: .junk :: .junk :: .junk :: .junk :: .junk :: .junk :: .junk :: .junk :: .junk :: .junk :: .junk :: .junk :: .junk :: .junk :: .junk :: .junk :: .junk :: .junk :: .junk :: [],[.rows 2 (v9.map e_ii)]⟩) (fun v31=>(.exit 0,⟨.junk :: .lsl 0 0 v31.length :: .junk :: .junk :: .junk :: .junk :: .junk :: .junk :: .junk :: .junk :: .junk :: .junk :: .junk :: .junk :: .junk :: .junk :: .junk :: .junk :: .junk :: .junk :: .junk :: .junk :: .junk :: .junk :: .junk :: .junk :: .junk :: .junk :: .junk :: .junk :: .junk :: .junk :: .junk :: .junk :: .junk :: .junk :: .junk :: .junk :: .junk :: .junk :: .junk :: .junk :: [],[.rows 2 (v31.map e_ii)]⟩)) ?_ ?_ ?_ ?_
    · rintro ⟨v9,v10⟩ v0 hr
      dsimp only [ref08_Table_l1] at hr
      try dsimp only
      repeat (first|(with_reducible first|refine mv ?_|refine m12 rfl ?_|refine TO.nil ?_)|((with_reducible first|apply TO.mv|apply TO.bin);(repeat (focus (show _ = _;first|exact k1 rfl|exact k2 rfl|(simp only [zz,y34,e_ii,Nat.reduceAdd,Nat.reduceMul,Nat.reduceLeDiff,Nat.reduceEqDiff,h2m,h2l,h2a,h3m,h3l,h3a,h4m,h4l,h4a]<;>exact rfl)|exact rfl)));(with_reducible apply TO.here))|((with_reducible apply TX.region);(focus (simp only [zl]<;>exact rfl));(focus rfl);(try dsimp only))|((with_reducible apply TX.cond_true);(focus rfl);(focus (first|rfl|(simp only [z1,zn,h2m,h2l,h2a,h3m,h3l,h3a,h4m,h4l,h4a];done))))|((with_reducible apply TX.cond_false);(focus rfl);(focus (first|rfl|(simp only [z1,zn,h2m,h2l,h2a,h3m,h3l,h3a,h4m,h4l,h4a];done))))|fail)
      rcases Bool.eq_false_or_eq_true ((decide (v10 ≥ 1))) with h17|h17
      · rw [if_pos h17] at hr
        repeat (first|(with_reducible first|refine mv ?_|refine m12 rfl ?_|refine TO.nil ?_)|((with_reducible first|apply TO.mv|apply TO.asg);(repeat (focus (show _ = _;first|exact k1 rfl|exact k2 rfl|(simp only [zz,y34,e_ii,Nat.reduceAdd,Nat.reduceMul,Nat.reduceLeDiff,Nat.reduceEqDiff,h2m,h2l,h2a,h3m,h3l,h3a,h4m,h4l,h4a,h17]<;>exact rfl)|exact rfl)));(with_reducible apply TO.here))|((with_reducible apply TX.region);(focus (simp only [zl]<;>exact rfl));(focus rfl);(try dsimp only))|((with_reducible apply TX.cond_true);(focus rfl);(focus (first|rfl|(simp only [z1,zn,h2m,h2l,h2a,h3m,h3l,h3a,h4m,h4l,h4a,h17];done))))|((with_reducible apply TX.cond_false);(focus rfl);(focus (first|rfl|(simp only [z1,zn,h2m,h2l,h2a,h3m,h3l,h3a,h4m,h4l,h4a,h17];done))))|fail)
        obtain ⟨v51,h28,hr⟩:=Option.bind_eq_some_iff.1 hr
        try dsimp only at hr
        refine TX.loopE (step:=ref08_Table_l2 v10) (x:=(v9,v10)) h28 (fun (v32,v33)=>⟨.junk :: .lsl 0 0 v32.length :: .v (.int .i64 v10) :: .v (.int .i64 v33) :: .junk :: .junk :: .junk :: .junk :: .junk :: .junk :: .junk :: .junk :: .junk :: .junk :: .junk :: .junk :: .junk :: .junk :: .junk :: .junk :: .junk :: .junk :: .junk :: .junk :: .junk :: .junk :: .junk :: .junk :: .junk :: .junk :: .junk :: .junk :: .junk :: .junk :: .junk :: .junk :: .junk :: .junk :: .junk :: .junk :: .junk :: .junk :: [],[.rows 2 (v32.map e_ii)]⟩) (fun v42=>(.exit 2,⟨.junk :: .lsl 0 0 v42.length :: .v (.int .i64 v10) :: .junk :: .junk :: .junk :: .junk :: .junk :: .junk :: .junk :: .junk :: .junk :: .junk :: .junk :: .junk :: .junk :: .junk :: .junk :: .junk :: .junk :: .junk :: .junk :: .junk :: .junk :: .junk :: .junk :: .junk :: .junk :: .junk :: .junk :: .junk :: .junk :: .junk :: .junk :: .junk :: .junk :: .junk :: .junk :: .junk :: .junk :: .junk :: .junk :: [],[.rows 2 (v42.map e_ii)]⟩)) ?_ ?_ ?_ ?_
        · rintro ⟨v32,v33⟩ v0 hr
          dsimp only [ref08_Table_l2] at hr
          try dsimp only
          repeat (first|(with_reducible first|refine mv ?_|refine m12 rfl ?_|refine TO.nil ?_)|((with_reducible first|apply TO.mv|apply TO.bin);(repeat (focus (show _ = _;first|exact k1 rfl|exact k2 rfl|(simp only [zz,y34,e_ii,Nat.reduceAdd,Nat.reduceMul,Nat.reduceLeDiff,Nat.reduceEqDiff,h2m,h2l,h2a,h3m,h3l,h3a,h4m,h4l,h4a,h17]<;>exact rfl)|exact rfl)));(with_reducible apply TO.here))|((with_reducible apply TX.region);(focus (simp only [zl]<;>exact rfl));(focus rfl);(try dsimp only))|((with_reducible apply TX.cond_true);(focus rfl);(focus (first|rfl|(simp only [z1,zn,h2m,h2l,h2a,h3m,h3l,h3a,h4m,h4l,h4a,h17];done))))|((with_reducible apply TX.cond_false);(focus rfl);(focus (first|rfl|(simp only [z1,zn,h2m,h2l,h2a,h3m,h3l,h3a,h4m,h4l,h4a,h17];done))))|fail)
          rcases Bool.eq_false_or_eq_true ((decide (v33 < 1024))) with h23|h23
          · rw [if_pos h23] at hr
            repeat (first|(with_reducible first|refine mv ?_|refine m12 rfl ?_|refine TD.nil ?_)|((with_reducible first|apply TD.mv|apply TD.bin);(repeat (focus (show _ = _;first|exact k1 rfl|exact k2 rfl|(simp only [zz,y34,e_ii,Nat.reduceAdd,Nat.reduceMul,Nat.reduceLeDiff,Nat.reduceEqDiff,h2m,h2l,h2a,h3m,h3l,h3a,h4m,h4l,h4a,h17,h23]<;>exact rfl)|exact rfl)));(with_reducible refine TD.here ?_))|((with_reducible apply TX.drawn);(focus decide +kernel);(focus (simp only [zl]<;>exact rfl));(focus exact rfl);(try dsimp only))|((with_reducible apply TX.cond_true);(focus rfl);(focus (first|rfl|(simp only [z1,zn,h2m,h2l,h2a,h3m,h3l,h3a,h4m,h4l,h4a,h17,h23];done))))|((with_reducible apply TX.cond_false);(focus rfl);(focus (first|rfl|(simp only [z1,zn,h2m,h2l,h2a,h3m,h3l,h3a,h4m,h4l,h4a,h17,h23];done))))|fail)
            obtain ⟨⟨v43,v44⟩,h24,hr⟩:=Option.bind_eq_some_iff.1 hr
            try dsimp only at hr
            have h24m:=tidx_map (f:=e_ii) h24
            have h24l:=getI_lt h24
            try simp only [List.length_set] at h24l
            have h24a:=getI_at h24
            repeat (first|(with_reducible first|refine mv ?_|refine m12 rfl ?_|refine TD.nil ?_)|((with_reducible first|apply TD.ia|apply TD.ld|apply TD.ldw|apply TD.mv|apply TD.bin);(repeat (focus (show _ = _;first|exact k1 rfl|exact k2 rfl|(simp only [zz,y34,e_ii,Nat.reduceAdd,Nat.reduceMul,Nat.reduceLeDiff,Nat.reduceEqDiff,tindexAddr,Nat.zero_add,tload,rowOf,partT,List.getElem?_map,h2m,h2l,h2a,h3m,h3l,h3a,h4m,h4l,h4a,h17,h23,h24m,h24l,h24a]<;>exact rfl)|exact rfl)));(with_reducible refine TD.here ?_))|((with_reducible apply TX.drawn);(focus decide +kernel);(focus (simp only [zl]<;>exact rfl));(focus exact rfl);(try dsimp only))|fail)
            obtain ⟨⟨v45,v46⟩,h25,hr⟩:=Option.bind_eq_some_iff.1 hr
            try dsimp only at hr
            have h25m:=tidx_map (f:=e_ii) h25
            have h25l:=getI_lt h25
            try simp only [List.length_set] at h25l
            have h25a:=getI_at h25
            repeat (first|(with_reducible first|refine mv ?_|refine m12 rfl ?_|refine TD.nil ?_)|((with_reducible first|apply TD.ia|apply TD.ld|apply TD.ldw);(repeat (focus (show _ = _;first|exact k1 rfl|exact k2 rfl|(simp only [zz,y34,e_ii,Nat.reduceAdd,Nat.reduceMul,Nat.reduceLeDiff,Nat.reduceEqDiff,tindexAddr,Nat.zero_add,tload,rowOf,partT,List.getElem?_map,h2m,h2l,h2a,h3m,h3l,h3a,h4m,h4l,h4a,h17,h23,h24m,h24l,h24a,h25m,h25l,h25a]<;>exact rfl)|exact rfl)));(with_reducible refine TD.here ?_))|((with_reducible apply TX.drawn);(focus decide +kernel);(focus (simp only [zl]<;>exact rfl));(focus exact rfl);(try dsimp only))|fail)
            obtain ⟨⟨v47,v48⟩,h26,hr⟩:=Option.bind_eq_some_iff.1 hr
            try dsimp only at hr
            first|apply TD.cal (by first|rfl|(simp only [twant,z1,zp,zs,h2m,h2l,h2a,h3m,h3l,h3a,h4m,h4l,h4a,h17,h23,h24m,h24l,h24a,h25m,h25l,h25a];done)) rfl goFn75 (ref08_middle_spec h26) rfl rfl rfl|apply TD.calw (by first|rfl|(simp only [twant,z1,zp,zs,h2m,h2l,h2a,h3m,h3l,h3a,h4m,h4l,h4a,h17,h23,h24m,h24l,h24a,h25m,h25l,h25a];done)) rfl goFn75 (ref08_middle_spec h26) rfl rfl rfl rfl
            (repeat (focus (show _ = _;first|exact k1 rfl|exact k2 rfl|(simp only [zz,y34,e_ii,Nat.reduceAdd,Nat.reduceMul,Nat.reduceLeDiff,Nat.reduceEqDiff,shift,kill,killB,frz,frzB,view,tml,tmlc,List.length_set,h2m,h2l,h2a,h3m,h3l,h3a,h4m,h4l,h4a,h17,h23,h24m,h24l,h24a,h25m,h25l,h25a]<;>exact rfl)|exact rfl)))
            with_reducible apply TD.here
            repeat (first|(with_reducible first|refine mv ?_|refine m12 rfl ?_|refine TD.nil ?_)|((with_reducible apply TX.drawn);(focus decide +kernel);(focus (simp only [zl]<;>exact rfl));(focus exact rfl);(try dsimp only))|fail)
            obtain ⟨⟨v49,v50⟩,h27,hr⟩:=Option.bind_eq_some_iff.1 hr
            try dsimp only at hr
            have h27m:=tidx_map (f:=e_ii) h27
            have h27l:=getI_lt h27
            try simp only [List.length_set] at h27l
            have h27a:=getI_at h27
            repeat (first|(with_reducible first|refine mv ?_|refine m12 rfl ?_|refine TD.nil ?_)|((with_reducible first|apply TD.ia);(repeat (focus (show _ = _;first|exact k1 rfl|exact k2 rfl|(simp only [zz,y34,e_ii,Nat.reduceAdd,Nat.reduceMul,Nat.reduceLeDiff,Nat.reduceEqDiff,tindexAddr,Nat.zero_add,h2m,h2l,h2a,h3m,h3l,h3a,h4m,h4l,h4a,h17,h23,h24m,h24l,h24a,h25m,h25l,h25a,h27m,h27l,h27a]<;>exact rfl)|exact rfl)));(with_reducible refine TD.here ?_))|((with_reducible apply TX.drawn);(focus decide +kernel);(focus (simp only [zl]<;>exact rfl));(focus exact rfl);(try dsimp only))|fail)
            apply TD.sr e_ii v32 (v49,v50) (v47,v48) h27a (by first|rfl|(simp only [twant,z1,zp,zs,h2m,h2l,h2a,h3m,h3l,h3a,h4m,h4l,h4a,h17,h23,h24m,h24l,h24a,h25m,h25l,h25a,h27m,h27l,h27a];done)) rfl rfl rfl rfl rfl ok107 (by rw [cs107];rfl) rfl rfl rfl rfl rfl
            (repeat (focus (show _ = _;first|exact k1 rfl|exact k2 rfl|(simp only [zz,y34,e_ii,Nat.reduceAdd,Nat.reduceMul,Nat.reduceLeDiff,Nat.reduceEqDiff,shift,kill,killB,frz,frzB,view,tml,tmlc,List.length_set,h2m,h2l,h2a,h3m,h3l,h3a,h4m,h4l,h4a,h17,h23,h24m,h24l,h24a,h25m,h25l,h25a,h27m,h27l,h27a]<;>exact rfl)|exact rfl)))
            with_reducible apply TD.here
            repeat (first|(with_reducible first|refine mv ?_|refine m12 rfl ?_|refine TO.nil ?_)|((with_reducible first|apply TO.mv|apply TO.bin|apply TO.asg);(repeat (focus (show _ = _;first|exact k1 rfl|exact k2 rfl|(simp only [zz,y34,e_ii,Nat.reduceAdd,Nat.reduceMul,Nat.reduceLeDiff,Nat.reduceEqDiff,h2m,h2l,h2a,h3m,h3l,h3a,h4m,h4l,h4a,h17,h23,h24m,h24l,h24a,h25m,h25l,h25a,h27m,h27l,h27a]<;>exact rfl)|exact rfl)));(with_reducible apply TO.here))|((with_reducible apply TX.region);(focus (simp only [zl]<;>exact rfl));(focus rfl);(try dsimp only))|with_reducible refine TD.nil ?_|((with_reducible apply TX.drawn);(focus decide +kernel);(focus (simp only [zl]<;>exact rfl));(focus exact rfl);(try dsimp only))|fail)
            cases hr
            refine ⟨rfl,?_⟩
            exact Wk.ren [some 0] rfl (.rows .nil rfl rfl) (by (repeat (first|exact RNs.nil|refine RNs.cons .junk ?_|refine RNs.cons (.keep rfl rfl) ?_|refine RNs.cons (.lsl rfl rfl) ?_|refine RNs.cons (.lsl rfl (by simp only [List.length_set])) ?_|refine RNs.cons (.lptr rfl) ?_|refine RNs.cons (.nil rfl) ?_|refine RNs.cons .nl ?_|refine RNs.cons (.keep (by simp only [h17,h23]) rfl) ?_|refine RNs.cons (.tuple' ?_) ?_|refine RNs.cons (.agg' ?_) ?_)))
          · rw [if_neg (by rw [h23];exact Bool.false_ne_true)] at hr
            repeat (first|(with_reducible first|refine mv ?_|refine m12 rfl ?_)|((with_reducible apply TX.cond_true);(focus rfl);(focus (first|rfl|(simp only [z1,zn,h2m,h2l,h2a,h3m,h3l,h3a,h4m,h4l,h4a,h17,h23];done))))|((with_reducible apply TX.cond_false);(focus rfl);(focus (first|rfl|(simp only [z1,zn,h2m,h2l,h2a,h3m,h3l,h3a,h4m,h4l,h4a,h17,h23];done))))|fail)
            cases hr
            refine ⟨rfl,?_⟩
            exact Wk.ren [some 0] rfl (.rows .nil rfl rfl) (by (repeat (first|exact RNs.nil|refine RNs.cons .junk ?_|refine RNs.cons (.keep rfl rfl) ?_|refine RNs.cons (.lsl rfl rfl) ?_|refine RNs.cons (.lsl rfl (by simp only [List.length_set])) ?_|refine RNs.cons (.lptr rfl) ?_|refine RNs.cons (.nil rfl) ?_|refine RNs.cons .nl ?_|refine RNs.cons (.keep (by simp only [h17,h23]) rfl) ?_|refine RNs.cons (.tuple' ?_) ?_|refine RNs.cons (.agg' ?_) ?_)))
        · intro e h;cases h
        · try dsimp only
          repeat (first|(with_reducible first|refine mv ?_|refine m12 rfl ?_|refine TO.nil ?_)|((with_reducible first|apply TO.mv|apply TO.bin|apply TO.asg);(repeat (focus (show _ = _;first|exact k1 rfl|exact k2 rfl|(simp only [zz,y34,e_ii,Nat.reduceAdd,Nat.reduceMul,Nat.reduceLeDiff,Nat.reduceEqDiff,h2m,h2l,h2a,h3m,h3l,h3a,h4m,h4l,h4a,h17]<;>exact rfl)|exact rfl)));(with_reducible apply TO.here))|((with_reducible apply TX.region);(focus (simp only [zl]<;>exact rfl));(focus rfl);(try dsimp only))|fail)
          cases hr
          refine ⟨rfl,?_⟩
          exact Wk.ren [some 0] rfl (.rows .nil rfl rfl) (by (repeat (first|exact RNs.nil|refine RNs.cons .junk ?_|refine RNs.cons (.keep rfl rfl) ?_|refine RNs.cons (.lsl rfl rfl) ?_|refine RNs.cons (.lsl rfl (by simp only [List.length_set])) ?_|refine RNs.cons (.lptr rfl) ?_|refine RNs.cons (.nil rfl) ?_|refine RNs.cons .nl ?_|refine RNs.cons (.keep (by simp only [h17]) rfl) ?_|refine RNs.cons (.tuple' ?_) ?_|refine RNs.cons (.agg' ?_) ?_)))
        · try dsimp only
          exact Wk.ren [some 0] rfl (.rows .nil rfl rfl) (by (repeat (first|exact RNs.nil|refine RNs.cons .junk ?_|refine RNs.cons (.keep rfl rfl) ?_|refine RNs.cons (.lsl rfl rfl) ?_|refine RNs.cons (.lsl rfl (by simp only [List.length_set])) ?_|refine RNs.cons (.lptr rfl) ?_|refine RNs.cons (.nil rfl) ?_|refine RNs.cons .nl ?_|refine RNs.cons (.keep (by simp only [h17]) rfl) ?_|refine RNs.cons (.tuple' ?_) ?_|refine RNs.cons (.agg' ?_) ?_)))
      · rw [if_neg (by rw [h17];exact Bool.false_ne_true)] at hr
        repeat (first|(with_reducible first|refine mv ?_|refine m12 rfl ?_)|((with_reducible apply TX.cond_true);(focus rfl);(focus (first|rfl|(simp only [z1,zn,h2m,h2l,h2a,h3m,h3l,h3a,h4m,h4l,h4a,h17];done))))|((with_reducible apply TX.cond_false);(focus rfl);(focus (first|rfl|(simp only [z1,zn,h2m,h2l,h2a,h3m,h3l,h3a,h4m,h4l,h4a,h17];done))))|fail)
        cases hr
        refine ⟨rfl,?_⟩
        exact Wk.ren [some 0] rfl (.rows .nil rfl rfl) (by (repeat (first|exact RNs.nil|refine RNs.cons .junk ?_|refine RNs.cons (.keep rfl rfl) ?_|refine RNs.cons (.lsl rfl rfl) ?_|refine RNs.cons (.lsl rfl (by simp only [List.length_set])) ?_|refine RNs.cons (.lptr rfl) ?_|refine RNs.cons (.nil rfl) ?_|refine RNs.cons .nl ?_|refine RNs.cons (.keep (by simp only [h17]) rfl) ?_|refine RNs.cons (.tuple' ?_) ?_|refine RNs.cons (.agg' ?_) ?_)))
    · intro e h;cases h
    · try dsimp only
      repeat (first|(with_reducible first|refine mv ?_|refine m12 rfl ?_|refine TO.nil ?_)|((with_reducible first|apply TO.mv|apply TO.asg);(repeat (focus (show _ = _;first|exact k1 rfl|exact k2 rfl|(simp only [zz,y34,e_ii,Nat.reduceAdd,Nat.reduceMul,Nat.reduceLeDiff,Nat.reduceEqDiff,h2m,h2l,h2a,h3m,h3l,h3a,h4m,h4l,h4a]<;>exact rfl)|exact rfl)));(with_reducible apply TO.here))|((with_reducible apply TX.region);(focus (simp only [zl]<;>exact rfl));(focus rfl);(try dsimp only))|fail)
      cases hr
      refine ⟨.inr rfl,_,(by simp only [zy,y34,e_ii,tresAll,tres,tload,rowOf,partT,h2m,h2l,h2a,h3m,h3l,h3a,h4m,h4l,h4a];exact rfl),?_⟩
      exact wr [some 0] rfl (.rows .nil rfl rfl)
    · try dsimp only
      exact wr [some 0] rfl (.rows .nil rfl rfl)
  rfl

end Go.Rex

namespace Go.Rex
open Go.Proofs
open Go Go.Rex Go.RowKit
set_option maxRecDepth 100000
set_option maxHeartbeats 200000
theorem base_Mod_spec {v1 : Int} {v2 : Int} {v3 : Int} (hr : base_Mod v1 v2 = some (v3)) : Spec (lim Try.prog) 63 [.v (.int .i64 v1),.v (.int .i64 v2)] ⟨[.v (.int .i64 v3)],[]⟩:=by
  unfold base_Mod at hr
  apply Spec.fn Try.func63 rfl
  focus (simp [Try.f63]<;>exact rfl)
  focus
    repeat (first|(with_reducible first|refine mv ?_|refine m12 rfl ?_|refine TO.nil ?_)|((with_reducible first|apply TO.asg|apply TO.mv);(repeat (focus (show _ = _;first|exact k1 rfl|exact k2 rfl|(simp only [zz,Nat.reduceAdd,Nat.reduceMul,Nat.reduceLeDiff,Nat.reduceEqDiff]<;>exact rfl)|exact rfl)));(with_reducible apply TO.here))|((with_reducible apply TX.region);(focus (simp only [zl]<;>exact rfl));(focus rfl);(try dsimp only))|fail)
    by_cases h1 : v2 = 0
    · rw [if_pos h1] at hr
      cases hr
    · rw [if_neg h1] at hr
      repeat (first|(with_reducible first|refine mv ?_|refine m12 rfl ?_|refine TO.nil ?_)|((with_reducible first|apply TO.bin|apply TO.asg|apply TO.mv);(repeat (focus (show _ = _;first|exact k1 rfl|exact k2 rfl|(simp only [zz,Nat.reduceAdd,Nat.reduceMul,Nat.reduceLeDiff,Nat.reduceEqDiff,h1]<;>exact rfl)|exact rfl)));(with_reducible apply TO.here))|((with_reducible apply TX.region);(focus (simp only [zl]<;>exact rfl));(focus rfl);(try dsimp only))|((with_reducible apply TX.cond_true);(focus rfl);(focus (first|rfl|(simp only [z1,zn,h1];done))))|((with_reducible apply TX.cond_false);(focus rfl);(focus (first|rfl|(simp only [z1,zn,h1];done))))|fail)
      rcases Bool.eq_false_or_eq_true ((decide ((v1.tmod v2) < 0))) with h2|h2
      · rw [if_pos h2] at hr
        repeat (first|(with_reducible first|refine mv ?_|refine m12 rfl ?_|refine TO.nil ?_)|((with_reducible first|apply TO.mv|apply TO.bin|apply TO.asg);(repeat (focus (show _ = _;first|exact k1 rfl|exact k2 rfl|(simp only [zz,Nat.reduceAdd,Nat.reduceMul,Nat.reduceLeDiff,Nat.reduceEqDiff,h1,h2]<;>exact rfl)|exact rfl)));(with_reducible apply TO.here))|((with_reducible apply TX.region);(focus (simp only [zl]<;>exact rfl));(focus rfl);(try dsimp only))|((with_reducible apply TX.cond_true);(focus rfl);(focus (first|rfl|(simp only [z1,zn,h1,h2];done))))|((with_reducible apply TX.cond_false);(focus rfl);(focus (first|rfl|(simp only [z1,zn,h1,h2];done))))|fail)
        cases hr
        refine ⟨.inr rfl,_,(by simp only [zy,tresAll,tres,tload,rowOf,partT,h1,h2];exact rfl),?_⟩
        exact Wk.ren [] rfl .nil (by (repeat (first|exact RNs.nil|refine RNs.cons .junk ?_|refine RNs.cons (.keep rfl rfl) ?_|refine RNs.cons (.lsl rfl rfl) ?_|refine RNs.cons (.lsl rfl (by simp only [List.length_set])) ?_|refine RNs.cons (.lptr rfl) ?_|refine RNs.cons (.nil rfl) ?_|refine RNs.cons .nl ?_|refine RNs.cons (.keep (by simp only [h2]) rfl) ?_|refine RNs.cons (.tuple' ?_) ?_|refine RNs.cons (.agg' ?_) ?_)))
      · rw [if_neg (by rw [h2];exact Bool.false_ne_true)] at hr
        repeat (first|(with_reducible first|refine mv ?_|refine m12 rfl ?_|refine TO.nil ?_)|((with_reducible first|apply TO.mv|apply TO.asg);(repeat (focus (show _ = _;first|exact k1 rfl|exact k2 rfl|(simp only [zz,Nat.reduceAdd,Nat.reduceMul,Nat.reduceLeDiff,Nat.reduceEqDiff,h1,h2]<;>exact rfl)|exact rfl)));(with_reducible apply TO.here))|((with_reducible apply TX.region);(focus (simp only [zl]<;>exact rfl));(focus rfl);(try dsimp only))|((with_reducible apply TX.cond_true);(focus rfl);(focus (first|rfl|(simp only [z1,zn,h1,h2];done))))|((with_reducible apply TX.cond_false);(focus rfl);(focus (first|rfl|(simp only [z1,zn,h1,h2];done))))|fail)
        cases hr
        refine ⟨.inr rfl,_,(by simp only [zy,tresAll,tres,tload,rowOf,partT,h1,h2];exact rfl),?_⟩
        exact Wk.ren [] rfl .nil (by (repeat (first|exact RNs.nil|refine RNs.cons .junk ?_|refine RNs.cons (.keep rfl rfl) ?_|refine RNs.cons (.lsl rfl rfl) ?_|refine RNs.cons (.lsl rfl (by simp only [List.length_set])) ?_|refine RNs.cons (.lptr rfl) ?_|refine RNs.cons (.nil rfl) ?_|refine RNs.cons .nl ?_|refine RNs.cons (.keep (by simp only [h2]) rfl) ?_|refine RNs.cons (.tuple' ?_) ?_|refine RNs.cons (.agg' ?_) ?_)))
  rfl

end Go.Rex

namespace Go.Rex
open Go.Proofs
open Go Go.Rex Go.RowKit
set_option maxRecDepth 100000
set_option maxHeartbeats 200000
theorem ref08_round_spec {v1 : Int} {v2 : Int} {v3 : Int} (hr : ref08_round v1 v2 = some (v3)) : Spec (lim Try.prog) 74 [.v (.int .i64 v1),.v (.int .i64 v2)] ⟨[.v (.int .i64 v3)],[]⟩:=by
  unfold ref08_round at hr
  apply Spec.fn Try.func74 rfl
  focus (simp [Try.f74]<;>exact rfl)
  focus
    repeat (first|(with_reducible first|refine mv ?_|refine m12 rfl ?_|refine TO.nil ?_)|((with_reducible first|apply TO.asg|apply TO.mv|apply TO.bin);(repeat (focus (show _ = _;first|exact k1 rfl|exact k2 rfl|(simp only [zz,Nat.reduceAdd,Nat.reduceMul,Nat.reduceLeDiff,Nat.reduceEqDiff]<;>exact rfl)|exact rfl)));(with_reducible apply TO.here))|((with_reducible apply TX.region);(focus (simp only [zl]<;>exact rfl));(focus rfl);(try dsimp only))|fail)
    obtain ⟨v4,h1,hr⟩:=Option.bind_eq_some_iff.1 hr
    try dsimp only at hr
    apply TO.cal (by first|rfl|(simp only [twant,z1,zp,zs];done)) rfl goFn51 (base_Floor_spec h1) rfl rfl rfl
    (repeat (focus (show _ = _;first|exact k1 rfl|exact k2 rfl|(simp only [zz,Nat.reduceAdd,Nat.reduceMul,Nat.reduceLeDiff,Nat.reduceEqDiff,shift,kill,killB,frz,frzB,view,tml,tmlc,List.length_set]<;>exact rfl)|exact rfl)))
    with_reducible apply TO.here
    repeat (first|(with_reducible first|refine mv ?_|refine m12 rfl ?_|refine TO.nil ?_)|((with_reducible first|apply TO.asg);(repeat (focus (show _ = _;first|exact k1 rfl|exact k2 rfl|(simp only [zz,Nat.reduceAdd,Nat.reduceMul,Nat.reduceLeDiff,Nat.reduceEqDiff]<;>exact rfl)|exact rfl)));(with_reducible apply TO.here))|((with_reducible apply TX.region);(focus (simp only [zl]<;>exact rfl));(focus rfl);(try dsimp only))|fail)
    cases hr
    refine ⟨.inr rfl,_,(by simp only [zy,tresAll,tres,tload,rowOf,partT];exact rfl),?_⟩
    exact wr [] rfl .nil
  rfl

end Go.Rex

namespace Go.Rex
open Go.Proofs
open Go Go.Rex Go.RowKit
set_option maxRecDepth 100000
set_option maxHeartbeats 200000
def y35:=an @ag107 <| an @ag3 <| an @ag41 <| an @ar107 <| an @cs107 <| an @cs3 <| an @cs41 <| an @ok107 <| an @ok3 <| an @ok41 <| an @so107 <| an @so44 <| an @st107 <| an @st41 <| an @zc107 <| an @zc41 <| @wi64_0a1
theorem ref08_Unit_spec {v1 : (List (Int × Int))} {v2 : Int} {v3 : Int} {v4 : Int} {v5 : Int} (hr : ref08_Unit v1 v2 = some (v3,v4,v5)) : Spec (lim Try.prog) 26 [.list 2 (v1.map e_ii),.v (.int .i64 v2)] ⟨[.agg [.v (.int .i64 v3),.v (.int .i64 v4),.v (.int .i64 v5)]],[]⟩:=by
  unfold ref08_Unit at hr
  apply Spec.fn Try.func26 rfl
  focus (simp [Try.f26]<;>exact rfl)
  focus
    repeat (first|(with_reducible first|refine mv ?_|refine m12 rfl ?_|refine TO.nil ?_)|((with_reducible first|apply TO.al|apply TO.mv);(repeat (focus (show _ = _;first|exact k1 rfl|exact k2 rfl|(simp only [zz,y35,e_ii,Nat.reduceAdd,Nat.reduceMul,Nat.reduceLeDiff,Nat.reduceEqDiff]<;>exact rfl)|exact rfl)));(with_reducible apply TO.here))|((with_reducible apply TX.region);(focus (simp only [zl]<;>exact rfl));(focus rfl);(try dsimp only))|fail)
    obtain ⟨v6,h1,hr⟩:=Option.bind_eq_some_iff.1 hr
    try dsimp only at hr
    apply TO.cal (by first|rfl|(simp only [twant,z1,zp,zs];done)) rfl goFn63 (base_Mod_spec h1) rfl rfl rfl
    (repeat (focus (show _ = _;first|exact k1 rfl|exact k2 rfl|(simp only [zz,y35,e_ii,Nat.reduceAdd,Nat.reduceMul,Nat.reduceLeDiff,Nat.reduceEqDiff,shift,kill,killB,frz,frzB,view,tml,tmlc,List.length_set]<;>exact rfl)|exact rfl)))
    with_reducible apply TO.here
    repeat (first|(with_reducible first|refine mv ?_|refine m12 rfl ?_|refine TO.nil ?_)|((with_reducible first|apply TO.asg|apply TO.mv|apply TO.bin);(repeat (focus (show _ = _;first|exact k1 rfl|exact k2 rfl|(simp only [zz,y35,e_ii,Nat.reduceAdd,Nat.reduceMul,Nat.reduceLeDiff,Nat.reduceEqDiff]<;>exact rfl)|exact rfl)));(with_reducible apply TO.here))|((with_reducible apply TX.region);(focus (simp only [zl]<;>exact rfl));(focus rfl);(try dsimp only))|fail)
    obtain ⟨⟨v7,v8⟩,h2,hr⟩:=Option.bind_eq_some_iff.1 hr
    try dsimp only at hr
    have h2m:=tidx_map (f:=e_ii) h2
    have h2l:=getI_lt h2
    try simp only [List.length_set] at h2l
    have h2a:=getI_at h2
    repeat (first|(with_reducible first|refine mv ?_|refine m12 rfl ?_|refine TO.nil ?_)|((with_reducible first|apply TO.ia|apply TO.ld|apply TO.al|apply TO.sv|apply TO.asg);(repeat (focus (show _ = _;first|exact k1 rfl|exact k2 rfl|(simp only [zz,y35,e_ii,Nat.reduceAdd,Nat.reduceMul,Nat.reduceLeDiff,Nat.reduceEqDiff,tindexAddr,Nat.zero_add,tload,rowOf,partT,List.getElem?_map,h2m,h2l,h2a]<;>exact rfl)|exact rfl)));(with_reducible apply TO.here))|((with_reducible apply TX.region);(focus (simp only [zl]<;>exact rfl));(focus rfl);(try dsimp only))|fail)
    obtain ⟨⟨v14,v15⟩,h5,hr⟩:=Option.bind_eq_some_iff.1 hr
    try dsimp only at hr
    refine TX.loopE (step:=ref08_Unit_l1 v6) (x:=(v7,v8,0)) h5 (fun (v9,v10,v11)=>⟨.junk :: .v (.int .i64 v6) :: .junk :: .junk :: .lptr 0 0 0 :: .lptr 1 0 0 :: .v (.int .i64 v11) :: .junk :: .junk :: .junk :: .junk :: .junk :: .junk :: .junk :: .junk :: .junk :: .junk :: .junk :: .junk :: .junk :: .junk :: .junk :: .junk :: .junk :: .junk :: .junk :: .junk :: .junk :: .junk :: .junk :: .junk :: .junk :: .junk :: .junk :: .junk :: .junk :: .junk :: .junk :: [],[.var [.v (.int .i64 0),.v (.int .i64 0),.v (.int .i64 0)],.var [.v (.int .i64 v9),.v (.int .i64 v10)]]⟩) (fun (v12,v13)=>(.exit 0,⟨.junk :: .v (.int .i64 v6) :: .junk :: .junk :: .lptr 0 0 0 :: .lptr 1 0 0 :: .junk :: .junk :: .junk :: .junk :: .junk :: .junk :: .junk :: .junk :: .junk :: .junk :: .junk :: .junk :: .junk :: .junk :: .junk :: .junk :: .junk :: .junk :: .junk :: .junk :: .junk :: .junk :: .junk :: .junk :: .junk :: .junk :: .junk :: .junk :: .junk :: .junk :: .junk :: .junk :: [],[.var [.v (.int .i64 0),.v (.int .i64 0),.v (.int .i64 0)],.var [.v (.int .i64 v12),.v (.int .i64 v13)]]⟩)) ?_ ?_ ?_ ?_
    · rintro ⟨v9,v10,v11⟩ v0 hr
      dsimp only [ref08_Unit_l1] at hr
      try dsimp only
      repeat (first|(with_reducible first|refine mv ?_|refine m12 rfl ?_|refine TO.nil ?_)|((with_reducible first|apply TO.mv|apply TO.bin);(repeat (focus (show _ = _;first|exact k1 rfl|exact k2 rfl|(simp only [zz,y35,e_ii,Nat.reduceAdd,Nat.reduceMul,Nat.reduceLeDiff,Nat.reduceEqDiff,h2m,h2l,h2a]<;>exact rfl)|exact rfl)));(with_reducible apply TO.here))|((with_reducible apply TX.region);(focus (simp only [zl]<;>exact rfl));(focus rfl);(try dsimp only))|((with_reducible apply TX.cond_true);(focus rfl);(focus (first|rfl|(simp only [z1,zn,h2m,h2l,h2a];done))))|((with_reducible apply TX.cond_false);(focus rfl);(focus (first|rfl|(simp only [z1,zn,h2m,h2l,h2a];done))))|fail)
      rcases Bool.eq_false_or_eq_true ((decide (v11 < (IntKind.i64.wrap (v6.tdiv 1024))))) with h4|h4
      · rw [if_pos h4] at hr
        repeat (first|(with_reducible first|refine mv ?_|refine m12 rfl ?_|refine TO.nil ?_)|((with_reducible first|apply TO.ia|apply TO.ld);(repeat (focus (show _ = _;first|exact k1 rfl|exact k2 rfl|(simp only [zz,y35,e_ii,Nat.reduceAdd,Nat.reduceMul,Nat.reduceLeDiff,Nat.reduceEqDiff,tindexAddr,z5,Int.reduceToNat,Int.reduceLE,Int.reduceLT,Int.cast_ofNat_Int,tload,rowOf,partT,List.getElem?_map,h2m,h2l,h2a,h4]<;>exact rfl)|exact rfl)));(with_reducible apply TO.here))|((with_reducible apply TX.region);(focus (simp only [zl]<;>exact rfl));(focus rfl);(try dsimp only))|((with_reducible apply TX.cond_true);(focus rfl);(focus (first|rfl|(simp only [z1,zn,h2m,h2l,h2a,h4];done))))|((with_reducible apply TX.cond_false);(focus rfl);(focus (first|rfl|(simp only [z1,zn,h2m,h2l,h2a,h4];done))))|fail)
        apply TO.pop1 (by first|rfl|(simp only [twant,z1,zp,zs,h2m,h2l,h2a,h4];done)) (pop_neg rfl)
        (repeat (focus (show _ = _;first|exact k1 rfl|exact k2 rfl|(simp only [zz,y35,e_ii,Nat.reduceAdd,Nat.reduceMul,Nat.reduceLeDiff,Nat.reduceEqDiff,h2m,h2l,h2a,h4]<;>exact rfl)|exact rfl)))
        with_reducible apply TO.here
        repeat (first|(with_reducible first|refine mv ?_|refine m12 rfl ?_|refine TO.nil ?_)|((with_reducible first|apply TO.ia|apply TO.ld|apply TO.bld|apply TO.sv|apply TO.mv|apply TO.bin|apply TO.asg);(repeat (focus (show _ = _;first|exact k1 rfl|exact k2 rfl|(simp only [zz,y35,e_ii,Nat.reduceAdd,Nat.reduceMul,Nat.reduceLeDiff,Nat.reduceEqDiff,tindexAddr,z5,Int.reduceToNat,Int.reduceLE,Int.reduceLT,Int.cast_ofNat_Int,tload,rowOf,partT,List.getElem?_map,tbuild,tfill,h2m,h2l,h2a,h4]<;>exact rfl)|exact rfl)));(with_reducible apply TO.here))|((with_reducible apply TX.region);(focus (simp only [zl]<;>exact rfl));(focus rfl);(try dsimp only))|fail)
        cases hr
        refine ⟨rfl,?_⟩
        exact Wk.ren [some 0,some 1] rfl (rv (rv .nil rfl) rfl) (by (repeat (first|exact RNs.nil|refine RNs.cons .junk ?_|refine RNs.cons (.keep rfl rfl) ?_|refine RNs.cons (.lsl rfl rfl) ?_|refine RNs.cons (.lsl rfl (by simp only [List.length_set])) ?_|refine RNs.cons (.lptr rfl) ?_|refine RNs.cons (.nil rfl) ?_|refine RNs.cons .nl ?_|refine RNs.cons (.keep (by simp only [h4]) rfl) ?_|refine RNs.cons (.tuple' ?_) ?_|refine RNs.cons (.agg' ?_) ?_)))
      · rw [if_neg (by rw [h4];exact Bool.false_ne_true)] at hr
        repeat (first|(with_reducible first|refine mv ?_|refine m12 rfl ?_)|((with_reducible apply TX.cond_true);(focus rfl);(focus (first|rfl|(simp only [z1,zn,h2m,h2l,h2a,h4];done))))|((with_reducible apply TX.cond_false);(focus rfl);(focus (first|rfl|(simp only [z1,zn,h2m,h2l,h2a,h4];done))))|fail)
        cases hr
        refine ⟨rfl,?_⟩
        exact Wk.ren [some 0,some 1] rfl (rv (rv .nil rfl) rfl) (by (repeat (first|exact RNs.nil|refine RNs.cons .junk ?_|refine RNs.cons (.keep rfl rfl) ?_|refine RNs.cons (.lsl rfl rfl) ?_|refine RNs.cons (.lsl rfl (by simp only [List.length_set])) ?_|refine RNs.cons (.lptr rfl) ?_|refine RNs.cons (.nil rfl) ?_|refine RNs.cons .nl ?_|refine RNs.cons (.keep (by simp only [h4]) rfl) ?_|refine RNs.cons (.tuple' ?_) ?_|refine RNs.cons (.agg' ?_) ?_)))
    · intro e h;cases h
    · try dsimp only
      repeat (first|(with_reducible first|refine mv ?_|refine m12 rfl ?_|refine TO.nil ?_)|((with_reducible first|apply TO.asg|apply TO.mv|apply TO.bin);(repeat (focus (show _ = _;first|exact k1 rfl|exact k2 rfl|(simp only [zz,y35,e_ii,Nat.reduceAdd,Nat.reduceMul,Nat.reduceLeDiff,Nat.reduceEqDiff,h2m,h2l,h2a]<;>exact rfl)|exact rfl)));(with_reducible apply TO.here))|((with_reducible apply TX.region);(focus (simp only [zl]<;>exact rfl));(focus rfl);(try dsimp only))|((with_reducible apply TX.cond_true);(focus rfl);(focus (first|rfl|(simp only [z1,zn,h2m,h2l,h2a];done))))|((with_reducible apply TX.cond_false);(focus rfl);(focus (first|rfl|(simp only [z1,zn,h2m,h2l,h2a];done))))|fail)
      rcases Bool.eq_false_or_eq_true ((decide ((v6.tmod 1024) = 0))) with h6|h6
      · rw [if_pos h6] at hr
        repeat (first|(with_reducible first|refine mv ?_|refine m12 rfl ?_|refine TO.nil ?_)|((with_reducible first|apply TO.asg);(repeat (focus (show _ = _;first|exact k1 rfl|exact k2 rfl|(simp only [zz,y35,e_ii,Nat.reduceAdd,Nat.reduceMul,Nat.reduceLeDiff,Nat.reduceEqDiff,h2m,h2l,h2a,h6]<;>exact rfl)|exact rfl)));(with_reducible apply TO.here))|((with_reducible apply TX.region);(focus (simp only [zl]<;>exact rfl));(focus rfl);(try dsimp only))|with_reducible refine TD.nil ?_|((with_reducible first|apply TD.ia|apply TD.ld|apply TD.ldw);(repeat (focus (show _ = _;first|exact k1 rfl|exact k2 rfl|(simp only [zz,y35,e_ii,Nat.reduceAdd,Nat.reduceMul,Nat.reduceLeDiff,Nat.reduceEqDiff,tindexAddr,z5,Int.reduceToNat,Int.reduceLE,Int.reduceLT,Int.cast_ofNat_Int,tload,rowOf,partT,List.getElem?_map,h2m,h2l,h2a,h6]<;>exact rfl)|exact rfl)));(with_reducible refine TD.here ?_))|((with_reducible apply TX.drawn);(focus decide +kernel);(focus (simp only [zl]<;>exact rfl));(focus exact rfl);(try dsimp only))|((with_reducible apply TX.cond_true);(focus rfl);(focus (first|rfl|(simp only [z1,zn,h2m,h2l,h2a,h6];done))))|((with_reducible apply TX.cond_false);(focus rfl);(focus (first|rfl|(simp only [z1,zn,h2m,h2l,h2a,h6];done))))|fail)
        obtain ⟨v16,h7,hr⟩:=Option.bind_eq_some_iff.1 hr
        try dsimp only at hr
        first|apply TD.cal (by first|rfl|(simp only [twant,z1,zp,zs,h2m,h2l,h2a,h6];done)) rfl goFn74 (ref08_round_spec h7) rfl rfl rfl|apply TD.calw (by first|rfl|(simp only [twant,z1,zp,zs,h2m,h2l,h2a,h6];done)) rfl goFn74 (ref08_round_spec h7) rfl rfl rfl rfl
        (repeat (focus (show _ = _;first|exact k1 rfl|exact k2 rfl|(simp only [zz,y35,e_ii,Nat.reduceAdd,Nat.reduceMul,Nat.reduceLeDiff,Nat.reduceEqDiff,shift,kill,killB,frz,frzB,view,tml,tmlc,List.length_set,h2m,h2l,h2a,h6]<;>exact rfl)|exact rfl)))
        with_reducible apply TD.here
        repeat (first|(with_reducible first|refine mv ?_|refine m12 rfl ?_|refine TD.nil ?_)|((with_reducible first|apply TD.ia|apply TD.ld|apply TD.ldw);(repeat (focus (show _ = _;first|exact k1 rfl|exact k2 rfl|(simp only [zz,y35,e_ii,Nat.reduceAdd,Nat.reduceMul,Nat.reduceLeDiff,Nat.reduceEqDiff,tindexAddr,z5,Int.reduceToNat,Int.reduceLE,Int.reduceLT,Int.cast_ofNat_Int,tload,rowOf,partT,List.getElem?_map,h2m,h2l,h2a,h6]<;>exact rfl)|exact rfl)));(with_reducible refine TD.here ?_))|((with_reducible apply TX.drawn);(focus decide +kernel);(focus (simp only [zl]<;>exact rfl));(focus exact rfl);(try dsimp only))|fail)
        obtain ⟨v17,h8,hr⟩:=Option.bind_eq_some_iff.1 hr
        try dsimp only at hr
        first|apply TD.cal (by first|rfl|(simp only [twant,z1,zp,zs,h2m,h2l,h2a,h6];done)) rfl goFn74 (ref08_round_spec h8) rfl rfl rfl|apply TD.calw (by first|rfl|(simp only [twant,z1,zp,zs,h2m,h2l,h2a,h6];done)) rfl goFn74 (ref08_round_spec h8) rfl rfl rfl rfl
        (repeat (focus (show _ = _;first|exact k1 rfl|exact k2 rfl|(simp only [zz,y35,e_ii,Nat.reduceAdd,Nat.reduceMul,Nat.reduceLeDiff,Nat.reduceEqDiff,shift,kill,killB,frz,frzB,view,tml,tmlc,List.length_set,h2m,h2l,h2a,h6]<;>exact rfl)|exact rfl)))
        with_reducible apply TD.here
        repeat (first|(with_reducible first|refine mv ?_|refine m12 rfl ?_|refine TD.nil ?_)|((with_reducible first|apply TD.mv|apply TD.bld|apply TD.sv);(repeat (focus (show _ = _;first|exact k1 rfl|exact k2 rfl|(simp only [zz,y35,e_ii,Nat.reduceAdd,Nat.reduceMul,Nat.reduceLeDiff,Nat.reduceEqDiff,tbuild,tfill,h2m,h2l,h2a,h6]<;>exact rfl)|exact rfl)));(with_reducible refine TD.here ?_))|((with_reducible apply TX.drawn);(focus decide +kernel);(focus (simp only [zl]<;>exact rfl));(focus exact rfl);(try dsimp only))|fail)
        cases hr
        refine ⟨.inr rfl,_,(by simp only [zy,y35,e_ii,tresAll,tres,tload,rowOf,partT,h2m,h2l,h2a,h6];exact rfl),?_⟩
        exact Wk.ren [] rfl .nil (by (repeat (first|exact RNs.nil|refine RNs.cons .junk ?_|refine RNs.cons (.keep rfl rfl) ?_|refine RNs.cons (.lsl rfl rfl) ?_|refine RNs.cons (.lsl rfl (by simp only [List.length_set])) ?_|refine RNs.cons (.lptr rfl) ?_|refine RNs.cons (.nil rfl) ?_|refine RNs.cons .nl ?_|refine RNs.cons (.keep (by simp only [h6]) rfl) ?_|refine RNs.cons (.tuple' ?_) ?_|refine RNs.cons (.agg' ?_) ?_)))
      · rw [if_neg (by rw [h6];exact Bool.false_ne_true)] at hr
        repeat (first|(with_reducible first|refine mv ?_|refine m12 rfl ?_|refine TD.nil ?_)|((with_reducible first|apply TD.ia|apply TD.ld|apply TD.ldw);(repeat (focus (show _ = _;first|exact k1 rfl|exact k2 rfl|(simp only [zz,y35,e_ii,Nat.reduceAdd,Nat.reduceMul,Nat.reduceLeDiff,Nat.reduceEqDiff,tindexAddr,z5,Int.reduceToNat,Int.reduceLE,Int.reduceLT,Int.cast_ofNat_Int,tload,rowOf,partT,List.getElem?_map,h2m,h2l,h2a,h6]<;>exact rfl)|exact rfl)));(with_reducible refine TD.here ?_))|((with_reducible apply TX.drawn);(focus decide +kernel);(focus (simp only [zl]<;>exact rfl));(focus exact rfl);(try dsimp only))|((with_reducible apply TX.cond_true);(focus rfl);(focus (first|rfl|(simp only [z1,zn,h2m,h2l,h2a,h6];done))))|((with_reducible apply TX.cond_false);(focus rfl);(focus (first|rfl|(simp only [z1,zn,h2m,h2l,h2a,h6];done))))|fail)
        obtain ⟨v18,h9,hr⟩:=Option.bind_eq_some_iff.1 hr
        try dsimp only at hr
        first|apply TD.cal (by first|rfl|(simp only [twant,z1,zp,zs,h2m,h2l,h2a,h6];done)) rfl goFn74 (ref08_round_spec h9) rfl rfl rfl|apply TD.calw (by first|rfl|(simp only [twant,z1,zp,zs,h2m,h2l,h2a,h6];done)) rfl goFn74 (ref08_round_spec h9) rfl rfl rfl rfl
        (repeat (focus (show _ = _;first|exact k1 rfl|exact k2 rfl|(simp only [zz,y35,e_ii,Nat.reduceAdd,Nat.reduceMul,Nat.reduceLeDiff,Nat.reduceEqDiff,shift,kill,killB,frz,frzB,view,tml,tmlc,List.length_set,h2m,h2l,h2a,h6]<;>exact rfl)|exact rfl)))
        with_reducible apply TD.here
        repeat (first|(with_reducible first|refine mv ?_|refine m12 rfl ?_|refine TD.nil ?_)|((with_reducible first|apply TD.ia|apply TD.ld|apply TD.ldw);(repeat (focus (show _ = _;first|exact k1 rfl|exact k2 rfl|(simp only [zz,y35,e_ii,Nat.reduceAdd,Nat.reduceMul,Nat.reduceLeDiff,Nat.reduceEqDiff,tindexAddr,z5,Int.reduceToNat,Int.reduceLE,Int.reduceLT,Int.cast_ofNat_Int,tload,rowOf,partT,List.getElem?_map,h2m,h2l,h2a,h6]<;>exact rfl)|exact rfl)));(with_reducible refine TD.here ?_))|((with_reducible apply TX.drawn);(focus decide +kernel);(focus (simp only [zl]<;>exact rfl));(focus exact rfl);(try dsimp only))|fail)
        obtain ⟨v19,h10,hr⟩:=Option.bind_eq_some_iff.1 hr
        try dsimp only at hr
        first|apply TD.cal (by first|rfl|(simp only [twant,z1,zp,zs,h2m,h2l,h2a,h6];done)) rfl goFn74 (ref08_round_spec h10) rfl rfl rfl|apply TD.calw (by first|rfl|(simp only [twant,z1,zp,zs,h2m,h2l,h2a,h6];done)) rfl goFn74 (ref08_round_spec h10) rfl rfl rfl rfl
        (repeat (focus (show _ = _;first|exact k1 rfl|exact k2 rfl|(simp only [zz,y35,e_ii,Nat.reduceAdd,Nat.reduceMul,Nat.reduceLeDiff,Nat.reduceEqDiff,shift,kill,killB,frz,frzB,view,tml,tmlc,List.length_set,h2m,h2l,h2a,h6]<;>exact rfl)|exact rfl)))
        with_reducible apply TD.here
        repeat (first|(with_reducible first|refine mv ?_|refine m12 rfl ?_|refine TD.nil ?_)|((with_reducible first|apply TD.mv|apply TD.bld|apply TD.sv);(repeat (focus (show _ = _;first|exact k1 rfl|exact k2 rfl|(simp only [zz,y35,e_ii,Nat.reduceAdd,Nat.reduceMul,Nat.reduceLeDiff,Nat.reduceEqDiff,tbuild,tfill,h2m,h2l,h2a,h6]<;>exact rfl)|exact rfl)));(with_reducible refine TD.here ?_))|((with_reducible apply TX.drawn);(focus decide +kernel);(focus (simp only [zl]<;>exact rfl));(focus exact rfl);(try dsimp only))|fail)
        cases hr
        refine ⟨.inr rfl,_,(by simp only [zy,y35,e_ii,tresAll,tres,tload,rowOf,partT,h2m,h2l,h2a,h6];exact rfl),?_⟩
        exact Wk.ren [] rfl .nil (by (repeat (first|exact RNs.nil|refine RNs.cons .junk ?_|refine RNs.cons (.keep rfl rfl) ?_|refine RNs.cons (.lsl rfl rfl) ?_|refine RNs.cons (.lsl rfl (by simp only [List.length_set])) ?_|refine RNs.cons (.lptr rfl) ?_|refine RNs.cons (.nil rfl) ?_|refine RNs.cons .nl ?_|refine RNs.cons (.keep (by simp only [h6]) rfl) ?_|refine RNs.cons (.tuple' ?_) ?_|refine RNs.cons (.agg' ?_) ?_)))
    · try dsimp only
      exact wr [some 0,some 1] rfl (rv (rv .nil rfl) rfl)
  rfl

end Go.Rex

namespace Go.Rex
open Go.Proofs
open Go Go.Rex Go.RowKit
set_option maxRecDepth 100000
set_option maxHeartbeats 200000
theorem base_Size_spec {v1 : Int} {v2 : Int} (hr : base_Size v1 = some (v2)) : Spec (lim Try.prog) 71 [.v (.int .i64 v1)] ⟨[.v (.int .i64 v2)],[]⟩:=by
  unfold base_Size at hr
  apply Spec.fn Try.func71 rfl
  focus (simp [Try.f71]<;>exact rfl)
  focus
    repeat (first|(with_reducible first|refine mv ?_|refine m12 rfl ?_|refine TO.nil ?_)|((with_reducible first|apply TO.asg|apply TO.mv);(repeat (focus (show _ = _;first|exact k1 rfl|exact k2 rfl|(simp only [zz,Nat.reduceAdd,Nat.reduceMul,Nat.reduceLeDiff,Nat.reduceEqDiff]<;>exact rfl)|exact rfl)));(with_reducible apply TO.here))|((with_reducible apply TX.region);(focus (simp only [zl]<;>exact rfl));(focus rfl);(try dsimp only))|fail)
    apply TO.pop1 (by first|rfl|(simp only [twant,z1,zp,zs];done)) (pop_neg rfl)
    (repeat (focus (show _ = _;first|exact k1 rfl|exact k2 rfl|(simp only [zz,Nat.reduceAdd,Nat.reduceMul,Nat.reduceLeDiff,Nat.reduceEqDiff]<;>exact rfl)|exact rfl)))
    with_reducible apply TO.here
    repeat (first|(with_reducible first|refine mv ?_|refine m12 rfl ?_|refine TO.nil ?_)|((with_reducible apply TX.region);(focus (simp only [zl]<;>exact rfl));(focus rfl);(try dsimp only))|fail)
    apply TO.pop1 (by first|rfl|(simp only [twant,z1,zp,zs];done)) (pop_max rfl rfl)
    (repeat (focus (show _ = _;first|exact k1 rfl|exact k2 rfl|(simp only [zz,Nat.reduceAdd,Nat.reduceMul,Nat.reduceLeDiff,Nat.reduceEqDiff]<;>exact rfl)|exact rfl)))
    with_reducible apply TO.here
    repeat (first|(with_reducible first|refine mv ?_|refine m12 rfl ?_|refine TO.nil ?_)|((with_reducible first|apply TO.asg);(repeat (focus (show _ = _;first|exact k1 rfl|exact k2 rfl|(simp only [zz,Nat.reduceAdd,Nat.reduceMul,Nat.reduceLeDiff,Nat.reduceEqDiff]<;>exact rfl)|exact rfl)));(with_reducible apply TO.here))|((with_reducible apply TX.region);(focus (simp only [zl]<;>exact rfl));(focus rfl);(try dsimp only))|fail)
    cases hr
    refine ⟨.inr rfl,_,(by simp only [zy,tresAll,tres,tload,rowOf,partT];exact rfl),?_⟩
    exact wr [] rfl .nil
  rfl

end Go.Rex

namespace Go.Rex
open Go.Proofs
open Go Go.Rex Go.RowKit
set_option maxRecDepth 100000
set_option maxHeartbeats 200000
theorem base_Ceil_spec {v1 : Int} {v2 : Int} {v3 : Int} (hr : base_Ceil v1 v2 = some (v3)) : Spec (lim Try.prog) 70 [.v (.int .i64 v1),.v (.int .i64 v2)] ⟨[.v (.int .i64 v3)],[]⟩:=by
  unfold base_Ceil at hr
  apply Spec.fn Try.func70 rfl
  focus (simp [Try.f70]<;>exact rfl)
  focus
    repeat (first|(with_reducible first|refine mv ?_|refine m12 rfl ?_|refine TO.nil ?_)|((with_reducible first|apply TO.asg|apply TO.mv);(repeat (focus (show _ = _;first|exact k1 rfl|exact k2 rfl|(simp only [zz,Nat.reduceAdd,Nat.reduceMul,Nat.reduceLeDiff,Nat.reduceEqDiff]<;>exact rfl)|exact rfl)));(with_reducible apply TO.here))|((with_reducible apply TX.region);(focus (simp only [zl]<;>exact rfl));(focus rfl);(try dsimp only))|fail)
    apply TO.pop1 (by first|rfl|(simp only [twant,z1,zp,zs];done)) (pop_neg rfl)
    (repeat (focus (show _ = _;first|exact k1 rfl|exact k2 rfl|(simp only [zz,Nat.reduceAdd,Nat.reduceMul,Nat.reduceLeDiff,Nat.reduceEqDiff]<;>exact rfl)|exact rfl)))
    with_reducible apply TO.here
    repeat (first|(with_reducible first|refine mv ?_|refine m12 rfl ?_|refine TO.nil ?_)|((with_reducible first|apply TO.mv);(repeat (focus (show _ = _;first|exact k1 rfl|exact k2 rfl|(simp only [zz,Nat.reduceAdd,Nat.reduceMul,Nat.reduceLeDiff,Nat.reduceEqDiff]<;>exact rfl)|exact rfl)));(with_reducible apply TO.here))|((with_reducible apply TX.region);(focus (simp only [zl]<;>exact rfl));(focus rfl);(try dsimp only))|fail)
    obtain ⟨v4,h1,hr⟩:=Option.bind_eq_some_iff.1 hr
    try dsimp only at hr
    apply TO.cal (by first|rfl|(simp only [twant,z1,zp,zs];done)) rfl goFn51 (base_Floor_spec h1) rfl rfl rfl
    (repeat (focus (show _ = _;first|exact k1 rfl|exact k2 rfl|(simp only [zz,Nat.reduceAdd,Nat.reduceMul,Nat.reduceLeDiff,Nat.reduceEqDiff,shift,kill,killB,frz,frzB,view,tml,tmlc,List.length_set]<;>exact rfl)|exact rfl)))
    with_reducible apply TO.here
    repeat (first|(with_reducible first|refine mv ?_|refine m12 rfl ?_|refine TO.nil ?_)|((with_reducible apply TX.region);(focus (simp only [zl]<;>exact rfl));(focus rfl);(try dsimp only))|fail)
    apply TO.pop1 (by first|rfl|(simp only [twant,z1,zp,zs];done)) (pop_neg rfl)
    (repeat (focus (show _ = _;first|exact k1 rfl|exact k2 rfl|(simp only [zz,Nat.reduceAdd,Nat.reduceMul,Nat.reduceLeDiff,Nat.reduceEqDiff]<;>exact rfl)|exact rfl)))
    with_reducible apply TO.here
    repeat (first|(with_reducible first|refine mv ?_|refine m12 rfl ?_|refine TO.nil ?_)|((with_reducible first|apply TO.asg);(repeat (focus (show _ = _;first|exact k1 rfl|exact k2 rfl|(simp only [zz,Nat.reduceAdd,Nat.reduceMul,Nat.reduceLeDiff,Nat.reduceEqDiff]<;>exact rfl)|exact rfl)));(with_reducible apply TO.here))|((with_reducible apply TX.region);(focus (simp only [zl]<;>exact rfl));(focus rfl);(try dsimp only))|fail)
    cases hr
    refine ⟨.inr rfl,_,(by simp only [zy,tresAll,tres,tload,rowOf,partT];exact rfl),?_⟩
    exact wr [] rfl .nil
  rfl

end Go.Rex

namespace Go.Rex
open Go.Proofs
open Go Go.Rex Go.RowKit
set_option maxRecDepth 100000
set_option maxHeartbeats 1000000
def y36:=an @ag22 <| an @ag3 <| an @ag41 <| an @cs3 <| an @cs41 <| an @fd24_0 <| an @fd24_1 <| an @fd41_0 <| an @fd41_1 <| an @fd41_2 <| an @ok3 <| an @ok41 <| an @so22 <| an @st41 <| an @zc41 <| @wi64_0a1
theorem ref08_Value_spec {v1 : (List (Int × Int))} {v2 : (List Int)} {v3 : Int} {v4 : Int} {v5 : Int} {v6 : Int} {v7 : Int} (hr : ref08_Value v1 v2 v3 v4 = some (v5,v6,v7)) : Spec (lim Try.prog) 30 [.list 2 (v1.map e_ii),.agg [.list 1 (v2.map e_i),.v (.int .i64 v3)],.v (.int .i64 v4)] ⟨[.agg [.v (.int .i64 v5),.v (.int .i64 v6),.v (.int .i64 v7)]],[]⟩:=by
  unfold ref08_Value at hr
  apply Spec.fn Try.func30 rfl
  focus (simp [Try.f30]<;>exact rfl)
  focus
    repeat (first|(with_reducible first|refine mv ?_|refine m12 rfl ?_|refine TO.nil ?_)|((with_reducible first|apply TO.bf|apply TO.al|apply TO.asg);(repeat (focus (show _ = _;first|exact k1 rfl|exact k2 rfl|(simp only [zz,y36,e_i,e_ii,Nat.reduceAdd,Nat.reduceMul,Nat.reduceLeDiff,Nat.reduceEqDiff]<;>exact rfl)|exact rfl)));(with_reducible apply TO.here))|((with_reducible apply TX.region);(focus (simp only [zl]<;>exact rfl));(focus rfl);(try dsimp only))|fail)
    obtain ⟨⟨v25,v26,v27⟩,h9,hr⟩:=Option.bind_eq_some_iff.1 hr
    try dsimp only at hr
    refine TX.loopE (step:=ref08_Value_l1 v1 v2 v4) (x:=(0,0,0,0)) h9 (fun (v8,v9,v10,v11)=>⟨.list 2 (v1.map e_ii) :: .junk :: .v (.int .i64 v4) :: .junk :: .fptr true [.list 1 (v2.map e_i),.v (.int .i64 v3)] 0 :: .junk :: .lptr 0 0 0 :: .v (.int .i64 v8) :: .v (.int .i64 v9) :: .v (.int .i64 v10) :: .v (.int .i64 v11) :: .junk :: .junk :: .junk :: .junk :: .junk :: .junk :: .junk :: .junk :: .junk :: .junk :: .junk :: .junk :: .junk :: .junk :: .junk :: .junk :: .junk :: .junk :: .junk :: .junk :: .junk :: .junk :: .junk :: .junk :: .junk :: .junk :: .junk :: .junk :: .junk :: .junk :: .junk :: .junk :: .junk :: .junk :: .junk :: .junk :: .junk :: .junk :: .junk :: .junk :: .junk :: .junk :: .junk :: .junk :: .junk :: .junk :: .junk :: .junk :: .junk :: .junk :: .junk :: .junk :: .junk :: .junk :: .junk :: .junk :: .junk :: .junk :: .junk :: .junk :: .junk :: .junk :: .junk :: .junk :: .junk :: .junk :: .junk :: .junk :: .junk :: .junk :: .junk :: .junk :: .junk :: .junk :: .junk :: .junk :: .junk :: .junk :: [],[.var [.v (.int .i64 0),.v (.int .i64 0),.v (.int .i64 0)]]⟩) (fun (v17,v18,v19)=>(.exit 0,⟨.junk :: .junk :: .junk :: .junk :: .fptr true [.list 1 (v2.map e_i),.v (.int .i64 v3)] 0 :: .junk :: .lptr 0 0 0 :: .v (.int .i64 v17) :: .v (.int .i64 v18) :: .v (.int .i64 v19) :: .junk :: .junk :: .junk :: .junk :: .junk :: .junk :: .junk :: .junk :: .junk :: .junk :: .junk :: .junk :: .junk :: .junk :: .junk :: .junk :: .junk :: .junk :: .junk :: .junk :: .junk :: .junk :: .junk :: .junk :: .junk :: .junk :: .junk :: .junk :: .junk :: .junk :: .junk :: .junk :: .junk :: .junk :: .junk :: .junk :: .junk :: .junk :: .junk :: .junk :: .junk :: .junk :: .junk :: .junk :: .junk :: .junk :: .junk :: .junk :: .junk :: .junk :: .junk :: .junk :: .junk :: .junk :: .junk :: .junk :: .junk :: .junk :: .junk :: .junk :: .junk :: .junk :: .junk :: .junk :: .junk :: .junk :: .junk :: .junk :: .junk :: .junk :: .junk :: .junk :: .junk :: .junk :: .junk :: .junk :: .junk :: .junk :: .junk :: [],[.var [.v (.int .i64 0),.v (.int .i64 0),.v (.int .i64 0)]]⟩)) ?_ ?_ ?_ ?_
    · rintro ⟨v8,v9,v10,v11⟩ v0 hr
      dsimp only [ref08_Value_l1] at hr
      try dsimp only
      repeat (first|(with_reducible first|refine mv ?_|refine m12 rfl ?_|refine TO.nil ?_)|((with_reducible first|apply TO.mv|apply TO.fa|apply TO.ld|apply TO.len|apply TO.bin);(repeat (focus (show _ = _;first|exact k1 rfl|exact k2 rfl|(simp only [zz,y36,e_i,e_ii,Nat.reduceAdd,Nat.reduceMul,Nat.reduceLeDiff,Nat.reduceEqDiff,tfieldAddr,tload,rowOf,partT,List.getElem?_map,tlen]<;>exact rfl)|exact rfl)));(with_reducible apply TO.here))|((with_reducible apply TX.region);(focus (simp only [zl]<;>exact rfl));(focus rfl);(try dsimp only))|((with_reducible apply TX.cond_true);(focus rfl);(focus (first|rfl|(simp only [z1,zn];done))))|((with_reducible apply TX.cond_false);(focus rfl);(focus (first|rfl|(simp only [z1,zn];done))))|fail)
      rcases Bool.eq_false_or_eq_true ((decide (v11 < (v2.length : Int)))) with h5|h5
      · rw [if_pos h5] at hr
        repeat (first|(with_reducible first|refine mv ?_|refine m12 rfl ?_|refine TO.nil ?_)|((with_reducible first|apply TO.mv);(repeat (focus (show _ = _;first|exact k1 rfl|exact k2 rfl|(simp only [zz,y36,e_i,e_ii,Nat.reduceAdd,Nat.reduceMul,Nat.reduceLeDiff,Nat.reduceEqDiff,h5]<;>exact rfl)|exact rfl)));(with_reducible apply TO.here))|((with_reducible apply TX.region);(focus (simp only [zl]<;>exact rfl));(focus rfl);(try dsimp only))|((with_reducible apply TX.cond_true);(focus rfl);(focus (first|rfl|(simp only [z1,zn,h5];done))))|((with_reducible apply TX.cond_false);(focus rfl);(focus (first|rfl|(simp only [z1,zn,h5];done))))|fail)
        apply TO.pop1 (by first|rfl|(simp only [twant,z1,zp,zs,h5];done)) (pop_neg rfl)
        (repeat (focus (show _ = _;first|exact k1 rfl|exact k2 rfl|(simp only [zz,y36,e_i,e_ii,Nat.reduceAdd,Nat.reduceMul,Nat.reduceLeDiff,Nat.reduceEqDiff,h5]<;>exact rfl)|exact rfl)))
        with_reducible apply TO.here
        repeat (first|(with_reducible first|refine mv ?_|refine m12 rfl ?_|refine TO.nil ?_)|((with_reducible first|apply TO.mv|apply TO.bin);(repeat (focus (show _ = _;first|exact k1 rfl|exact k2 rfl|(simp only [zz,y36,e_i,e_ii,Nat.reduceAdd,Nat.reduceMul,Nat.reduceLeDiff,Nat.reduceEqDiff,h5]<;>exact rfl)|exact rfl)));(with_reducible apply TO.here))|((with_reducible apply TX.region);(focus (simp only [zl]<;>exact rfl));(focus rfl);(try dsimp only))|fail)
        obtain ⟨⟨v20,v21,v22⟩,h6,hr⟩:=Option.bind_eq_some_iff.1 hr
        try dsimp only at hr
        apply TO.cal (by first|rfl|(simp only [twant,z1,zp,zs,h5];done)) rfl goFn26 (ref08_Unit_spec h6) rfl rfl rfl
        (repeat (focus (show _ = _;first|exact k1 rfl|exact k2 rfl|(simp only [zz,y36,e_i,e_ii,Nat.reduceAdd,Nat.reduceMul,Nat.reduceLeDiff,Nat.reduceEqDiff,shift,kill,killB,frz,frzB,view,tml,tmlc,List.length_set,h5]<;>exact rfl)|exact rfl)))
        with_reducible apply TO.here
        repeat (first|(with_reducible first|refine mv ?_|refine m12 rfl ?_|refine TO.nil ?_)|((with_reducible first|apply TO.al|apply TO.sv);(repeat (focus (show _ = _;first|exact k1 rfl|exact k2 rfl|(simp only [zz,y36,e_i,e_ii,Nat.reduceAdd,Nat.reduceMul,Nat.reduceLeDiff,Nat.reduceEqDiff,h5]<;>exact rfl)|exact rfl)));(with_reducible apply TO.here))|((with_reducible apply TX.region);(focus (simp only [zl]<;>exact rfl));(focus rfl);(try dsimp only))|with_reducible refine TD.nil ?_|((with_reducible first|apply TD.mv|apply TD.fa|apply TD.ld|apply TD.ldw);(repeat (focus (show _ = _;first|exact k1 rfl|exact k2 rfl|(simp only [zz,y36,e_i,e_ii,Nat.reduceAdd,Nat.reduceMul,Nat.reduceLeDiff,Nat.reduceEqDiff,tfieldAddr,tload,rowOf,partT,List.getElem?_map,h5]<;>exact rfl)|exact rfl)));(with_reducible refine TD.here ?_))|((with_reducible apply TX.drawn);(focus decide +kernel);(focus (simp only [zl]<;>exact rfl));(focus exact rfl);(try dsimp only))|fail)
        obtain ⟨v23,h7,hr⟩:=Option.bind_eq_some_iff.1 hr
        try dsimp only at hr
        have h7m:=tidx_map (f:=e_i) h7
        have h7l:=getI_lt h7
        try simp only [List.length_set] at h7l
        have h7a:=getI_at h7
        repeat (first|(with_reducible first|refine mv ?_|refine m12 rfl ?_|refine TD.nil ?_)|((with_reducible first|apply TD.ia|apply TD.ld|apply TD.ldw|apply TD.fa|apply TD.bin|apply TD.mv);(repeat (focus (show _ = _;first|exact k1 rfl|exact k2 rfl|(simp only [zz,y36,e_i,e_ii,Nat.reduceAdd,Nat.reduceMul,Nat.reduceLeDiff,Nat.reduceEqDiff,tindexAddr,Nat.zero_add,tload,rowOf,partT,List.getElem?_map,tfieldAddr,h5,h7m,h7l,h7a]<;>exact rfl)|exact rfl)));(with_reducible refine TD.here ?_))|((with_reducible apply TX.drawn);(focus decide +kernel);(focus (simp only [zl]<;>exact rfl));(focus exact rfl);(try dsimp only))|fail)
        obtain ⟨v24,h8,hr⟩:=Option.bind_eq_some_iff.1 hr
        try dsimp only at hr
        first|apply TD.cal (by first|rfl|(simp only [twant,z1,zp,zs,h5,h7m,h7l,h7a];done)) rfl goFn71 (base_Size_spec h8) rfl rfl rfl|apply TD.calw (by first|rfl|(simp only [twant,z1,zp,zs,h5,h7m,h7l,h7a];done)) rfl goFn71 (base_Size_spec h8) rfl rfl rfl rfl
        (repeat (focus (show _ = _;first|exact k1 rfl|exact k2 rfl|(simp only [zz,y36,e_i,e_ii,Nat.reduceAdd,Nat.reduceMul,Nat.reduceLeDiff,Nat.reduceEqDiff,shift,kill,killB,frz,frzB,view,tml,tmlc,List.length_set,h5,h7m,h7l,h7a]<;>exact rfl)|exact rfl)))
        with_reducible apply TD.here
        repeat (first|(with_reducible first|refine mv ?_|refine m12 rfl ?_|refine TO.nil ?_)|((with_reducible first|apply TO.mv|apply TO.bin|apply TO.asg);(repeat (focus (show _ = _;first|exact k1 rfl|exact k2 rfl|(simp only [zz,y36,e_i,e_ii,Nat.reduceAdd,Nat.reduceMul,Nat.reduceLeDiff,Nat.reduceEqDiff,h5,h7m,h7l,h7a]<;>exact rfl)|exact rfl)));(with_reducible apply TO.here))|((with_reducible apply TX.region);(focus (simp only [zl]<;>exact rfl));(focus rfl);(try dsimp only))|with_reducible refine TD.nil ?_|((with_reducible first|apply TD.fa|apply TD.ld|apply TD.ldw|apply TD.bin|apply TD.asg);(repeat (focus (show _ = _;first|exact k1 rfl|exact k2 rfl|(simp only [zz,y36,e_i,e_ii,Nat.reduceAdd,Nat.reduceMul,Nat.reduceLeDiff,Nat.reduceEqDiff,tfieldAddr,tload,rowOf,partT,List.getElem?_map,h5,h7m,h7l,h7a]<;>exact rfl)|exact rfl)));(with_reducible refine TD.here ?_))|((with_reducible apply TX.drawn);(focus decide +kernel);(focus (simp only [zl]<;>exact rfl));(focus exact rfl);(try dsimp only))|fail)
        cases hr
        refine ⟨rfl,?_⟩
        exact Wk.ren [some 0] rfl (rv .nil rfl) (by (repeat (first|exact RNs.nil|refine RNs.cons .junk ?_|refine RNs.cons (.keep rfl rfl) ?_|refine RNs.cons (.lsl rfl rfl) ?_|refine RNs.cons (.lsl rfl (by simp only [List.length_set])) ?_|refine RNs.cons (.lptr rfl) ?_|refine RNs.cons (.nil rfl) ?_|refine RNs.cons .nl ?_|refine RNs.cons (.keep (by simp only [h5]) rfl) ?_|refine RNs.cons (.tuple' ?_) ?_|refine RNs.cons (.agg' ?_) ?_)))
      · rw [if_neg (by rw [h5];exact Bool.false_ne_true)] at hr
        repeat (first|(with_reducible first|refine mv ?_|refine m12 rfl ?_)|((with_reducible apply TX.cond_true);(focus rfl);(focus (first|rfl|(simp only [z1,zn,h5];done))))|((with_reducible apply TX.cond_false);(focus rfl);(focus (first|rfl|(simp only [z1,zn,h5];done))))|fail)
        cases hr
        refine ⟨rfl,?_⟩
        exact Wk.ren [some 0] rfl (rv .nil rfl) (by (repeat (first|exact RNs.nil|refine RNs.cons .junk ?_|refine RNs.cons (.keep rfl rfl) ?_|refine RNs.cons (.lsl rfl rfl) ?_|refine RNs.cons (.lsl rfl (by simp only [List.length_set])) ?_|refine RNs.cons (.lptr rfl) ?_|refine RNs.cons (.nil rfl) ?_|refine RNs.cons .nl ?_|refine RNs.cons (.keep (by simp only [h5]) rfl) ?_|refine RNs.cons (.tuple' ?_) ?_|refine RNs.cons (.agg' ?_) ?_)))
    · intro e h;cases h
    · try dsimp only
      repeat (first|(with_reducible first|refine mv ?_|refine m12 rfl ?_|refine TO.nil ?_)|((with_reducible first|apply TO.mv);(repeat (focus (show _ = _;first|exact k1 rfl|exact k2 rfl|(simp only [zz,y36,e_i,e_ii,Nat.reduceAdd,Nat.reduceMul,Nat.reduceLeDiff,Nat.reduceEqDiff]<;>exact rfl)|exact rfl)));(with_reducible apply TO.here))|((with_reducible apply TX.region);(focus (simp only [zl]<;>exact rfl));(focus rfl);(try dsimp only))|with_reducible refine TD.nil ?_|((with_reducible first|apply TD.mv|apply TD.fa|apply TD.ld|apply TD.ldw|apply TD.bin|apply TD.asg);(repeat (focus (show _ = _;first|exact k1 rfl|exact k2 rfl|(simp only [zz,y36,e_i,e_ii,Nat.reduceAdd,Nat.reduceMul,Nat.reduceLeDiff,Nat.reduceEqDiff,tfieldAddr,tload,rowOf,partT,List.getElem?_map]<;>exact rfl)|exact rfl)));(with_reducible refine TD.here ?_))|((with_reducible apply TX.drawn);(focus decide +kernel);(focus (simp only [zl]<;>exact rfl));(focus exact rfl);(try dsimp only))|fail)
      obtain ⟨v28,h10,hr⟩:=Option.bind_eq_some_iff.1 hr
      try dsimp only at hr
      apply TO.cal (by first|rfl|(simp only [twant,z1,zp,zs];done)) rfl goFn74 (ref08_round_spec h10) rfl rfl rfl
      (repeat (focus (show _ = _;first|exact k1 rfl|exact k2 rfl|(simp only [zz,y36,e_i,e_ii,Nat.reduceAdd,Nat.reduceMul,Nat.reduceLeDiff,Nat.reduceEqDiff,shift,kill,killB,frz,frzB,view,tml,tmlc,List.length_set]<;>exact rfl)|exact rfl)))
      with_reducible apply TO.here
      repeat (first|(with_reducible first|refine mv ?_|refine m12 rfl ?_|refine TO.nil ?_)|((with_reducible first|apply TO.mv);(repeat (focus (show _ = _;first|exact k1 rfl|exact k2 rfl|(simp only [zz,y36,e_i,e_ii,Nat.reduceAdd,Nat.reduceMul,Nat.reduceLeDiff,Nat.reduceEqDiff]<;>exact rfl)|exact rfl)));(with_reducible apply TO.here))|((with_reducible apply TX.region);(focus (simp only [zl]<;>exact rfl));(focus rfl);(try dsimp only))|fail)
      obtain ⟨v29,h11,hr⟩:=Option.bind_eq_some_iff.1 hr
      try dsimp only at hr
      apply TO.cal (by first|rfl|(simp only [twant,z1,zp,zs];done)) rfl goFn74 (ref08_round_spec h11) rfl rfl rfl
      (repeat (focus (show _ = _;first|exact k1 rfl|exact k2 rfl|(simp only [zz,y36,e_i,e_ii,Nat.reduceAdd,Nat.reduceMul,Nat.reduceLeDiff,Nat.reduceEqDiff,shift,kill,killB,frz,frzB,view,tml,tmlc,List.length_set]<;>exact rfl)|exact rfl)))
      with_reducible apply TO.here
      repeat (first|(with_reducible first|refine mv ?_|refine m12 rfl ?_|refine TO.nil ?_)|((with_reducible first|apply TO.mv);(repeat (focus (show _ = _;first|exact k1 rfl|exact k2 rfl|(simp only [zz,y36,e_i,e_ii,Nat.reduceAdd,Nat.reduceMul,Nat.reduceLeDiff,Nat.reduceEqDiff]<;>exact rfl)|exact rfl)));(with_reducible apply TO.here))|((with_reducible apply TX.region);(focus (simp only [zl]<;>exact rfl));(focus rfl);(try dsimp only))|fail)
      obtain ⟨v30,h12,hr⟩:=Option.bind_eq_some_iff.1 hr
      try dsimp only at hr
      apply TO.cal (by first|rfl|(simp only [twant,z1,zp,zs];done)) rfl goFn70 (base_Ceil_spec h12) rfl rfl rfl
      (repeat (focus (show _ = _;first|exact k1 rfl|exact k2 rfl|(simp only [zz,y36,e_i,e_ii,Nat.reduceAdd,Nat.reduceMul,Nat.reduceLeDiff,Nat.reduceEqDiff,shift,kill,killB,frz,frzB,view,tml,tmlc,List.length_set]<;>exact rfl)|exact rfl)))
      with_reducible apply TO.here
      repeat (first|(with_reducible first|refine mv ?_|refine m12 rfl ?_|refine TO.nil ?_)|((with_reducible first|apply TO.bld|apply TO.al|apply TO.sv|apply TO.mv);(repeat (focus (show _ = _;first|exact k1 rfl|exact k2 rfl|(simp only [zz,y36,e_i,e_ii,Nat.reduceAdd,Nat.reduceMul,Nat.reduceLeDiff,Nat.reduceEqDiff,tbuild,tfill]<;>exact rfl)|exact rfl)));(with_reducible apply TO.here))|((with_reducible apply TX.region);(focus (simp only [zl]<;>exact rfl));(focus rfl);(try dsimp only))|fail)
      obtain ⟨v31,h13,hr⟩:=Option.bind_eq_some_iff.1 hr
      try dsimp only at hr
      apply TO.cal (by first|rfl|(simp only [twant,z1,zp,zs];done)) rfl goFn63 (base_Mod_spec h13) rfl rfl rfl
      (repeat (focus (show _ = _;first|exact k1 rfl|exact k2 rfl|(simp only [zz,y36,e_i,e_ii,Nat.reduceAdd,Nat.reduceMul,Nat.reduceLeDiff,Nat.reduceEqDiff,shift,kill,killB,frz,frzB,view,tml,tmlc,List.length_set]<;>exact rfl)|exact rfl)))
      with_reducible apply TO.here
      repeat (first|(with_reducible first|refine mv ?_|refine m12 rfl ?_|refine TO.nil ?_)|((with_reducible first|apply TO.bin|apply TO.mv);(repeat (focus (show _ = _;first|exact k1 rfl|exact k2 rfl|(simp only [zz,y36,e_i,e_ii,Nat.reduceAdd,Nat.reduceMul,Nat.reduceLeDiff,Nat.reduceEqDiff]<;>exact rfl)|exact rfl)));(with_reducible apply TO.here))|((with_reducible apply TX.region);(focus (simp only [zl]<;>exact rfl));(focus rfl);(try dsimp only))|fail)
      rcases Bool.eq_false_or_eq_true ((decide (v31 ≠ 0))) with h14|h14
      · rw [if_pos h14] at hr
        repeat (first|(with_reducible first|refine mv ?_|refine m12 rfl ?_|refine TO.nil ?_)|((with_reducible first|apply TO.pk|apply TO.fa|apply TO.ld|apply TO.bin|apply TO.sv);(repeat (focus (show _ = _;first|exact k1 rfl|exact k2 rfl|(simp only [zz,y36,e_i,e_ii,Nat.reduceAdd,Nat.reduceMul,Nat.reduceLeDiff,Nat.reduceEqDiff,tfieldAddr,tload,rowOf,partT,List.getElem?_map,h14]<;>exact rfl)|exact rfl)));(with_reducible apply TO.here))|((with_reducible apply TO.skip1);(repeat (focus (show _ = _;first|exact k1 rfl|exact k2 rfl|(simp only [zz,y36,e_i,e_ii,Nat.reduceAdd,Nat.reduceMul,Nat.reduceLeDiff,Nat.reduceEqDiff,twant,zp,zs,h14]<;>exact rfl)|exact rfl)));(with_reducible apply TO.here))|((with_reducible apply TX.region);(focus (simp only [zl]<;>exact rfl));(focus rfl);(try dsimp only))|((with_reducible apply TX.cond_true);(focus rfl);(focus (first|rfl|(simp only [z1,zn,h14];done))))|((with_reducible apply TX.cond_false);(focus rfl);(focus (first|rfl|(simp only [z1,zn,h14];done))))|fail)
        cases hr
        refine ⟨.inr rfl,_,(by simp only [zy,y36,e_i,e_ii,tresAll,tres,tload,rowOf,partT,h14];exact rfl),?_⟩
        exact Wk.ren [] rfl .nil (by (repeat (first|exact RNs.nil|refine RNs.cons .junk ?_|refine RNs.cons (.keep rfl rfl) ?_|refine RNs.cons (.lsl rfl rfl) ?_|refine RNs.cons (.lsl rfl (by simp only [List.length_set])) ?_|refine RNs.cons (.lptr rfl) ?_|refine RNs.cons (.nil rfl) ?_|refine RNs.cons .nl ?_|refine RNs.cons (.keep (by simp only [h14]) rfl) ?_|refine RNs.cons (.tuple' ?_) ?_|refine RNs.cons (.agg' ?_) ?_)))
      · rw [if_neg (by rw [h14];exact Bool.false_ne_true)] at hr
        repeat (first|(with_reducible first|refine mv ?_|refine m12 rfl ?_|refine TO.nil ?_)|((with_reducible first|apply TO.mv);(repeat (focus (show _ = _;first|exact k1 rfl|exact k2 rfl|(simp only [zz,y36,e_i,e_ii,Nat.reduceAdd,Nat.reduceMul,Nat.reduceLeDiff,Nat.reduceEqDiff,h14]<;>exact rfl)|exact rfl)));(with_reducible apply TO.here))|((with_reducible apply TX.region);(focus (simp only [zl]<;>exact rfl));(focus rfl);(try dsimp only))|fail)
        obtain ⟨v32,h15,hr⟩:=Option.bind_eq_some_iff.1 hr
        try dsimp only at hr
        apply TO.cal (by first|rfl|(simp only [twant,z1,zp,zs,h14];done)) rfl goFn63 (base_Mod_spec h15) rfl rfl rfl
        (repeat (focus (show _ = _;first|exact k1 rfl|exact k2 rfl|(simp only [zz,y36,e_i,e_ii,Nat.reduceAdd,Nat.reduceMul,Nat.reduceLeDiff,Nat.reduceEqDiff,shift,kill,killB,frz,frzB,view,tml,tmlc,List.length_set,h14]<;>exact rfl)|exact rfl)))
        with_reducible apply TO.here
        repeat (first|(with_reducible first|refine mv ?_|refine m12 rfl ?_|refine TO.nil ?_)|((with_reducible first|apply TO.bin|apply TO.pk);(repeat (focus (show _ = _;first|exact k1 rfl|exact k2 rfl|(simp only [zz,y36,e_i,e_ii,Nat.reduceAdd,Nat.reduceMul,Nat.reduceLeDiff,Nat.reduceEqDiff,h14]<;>exact rfl)|exact rfl)));(with_reducible apply TO.here))|((with_reducible apply TX.region);(focus (simp only [zl]<;>exact rfl));(focus rfl);(try dsimp only))|((with_reducible apply TX.cond_true);(focus rfl);(focus (first|rfl|(simp only [z1,zn,h14];done))))|((with_reducible apply TX.cond_false);(focus rfl);(focus (first|rfl|(simp only [z1,zn,h14];done))))|fail)
        rcases Bool.eq_false_or_eq_true ((decide (v32 ≠ 0))) with h16|h16
        · rw [if_pos h16] at hr
          repeat (first|(with_reducible first|refine mv ?_|refine m12 rfl ?_|refine TO.nil ?_)|((with_reducible first|apply TO.fa|apply TO.ld|apply TO.bin|apply TO.sv);(repeat (focus (show _ = _;first|exact k1 rfl|exact k2 rfl|(simp only [zz,y36,e_i,e_ii,Nat.reduceAdd,Nat.reduceMul,Nat.reduceLeDiff,Nat.reduceEqDiff,tfieldAddr,tload,rowOf,partT,List.getElem?_map,h14,h16]<;>exact rfl)|exact rfl)));(with_reducible apply TO.here))|((with_reducible apply TX.region);(focus (simp only [zl]<;>exact rfl));(focus rfl);(try dsimp only))|((with_reducible apply TX.cond_true);(focus rfl);(focus (first|rfl|(simp only [z1,zn,h14,h16];done))))|((with_reducible apply TX.cond_false);(focus rfl);(focus (first|rfl|(simp only [z1,zn,h14,h16];done))))|fail)
          cases hr
          refine ⟨.inr rfl,_,(by simp only [zy,y36,e_i,e_ii,tresAll,tres,tload,rowOf,partT,h14,h16];exact rfl),?_⟩
          exact Wk.ren [] rfl .nil (by (repeat (first|exact RNs.nil|refine RNs.cons .junk ?_|refine RNs.cons (.keep rfl rfl) ?_|refine RNs.cons (.lsl rfl rfl) ?_|refine RNs.cons (.lsl rfl (by simp only [List.length_set])) ?_|refine RNs.cons (.lptr rfl) ?_|refine RNs.cons (.nil rfl) ?_|refine RNs.cons .nl ?_|refine RNs.cons (.keep (by simp only [h14,h16]) rfl) ?_|refine RNs.cons (.tuple' ?_) ?_|refine RNs.cons (.agg' ?_) ?_)))
        · rw [if_neg (by rw [h16];exact Bool.false_ne_true)] at hr
          repeat (first|(with_reducible first|refine mv ?_|refine m12 rfl ?_|refine TO.nil ?_)|((with_reducible first|apply TO.ld|apply TO.sv);(repeat (focus (show _ = _;first|exact k1 rfl|exact k2 rfl|(simp only [zz,y36,e_i,e_ii,Nat.reduceAdd,Nat.reduceMul,Nat.reduceLeDiff,Nat.reduceEqDiff,tload,rowOf,partT,List.getElem?_map,h14,h16]<;>exact rfl)|exact rfl)));(with_reducible apply TO.here))|((with_reducible apply TX.region);(focus (simp only [zl]<;>exact rfl));(focus rfl);(try dsimp only))|((with_reducible apply TX.cond_true);(focus rfl);(focus (first|rfl|(simp only [z1,zn,h14,h16];done))))|((with_reducible apply TX.cond_false);(focus rfl);(focus (first|rfl|(simp only [z1,zn,h14,h16];done))))|fail)
          cases hr
          refine ⟨.inr rfl,_,(by simp only [zy,y36,e_i,e_ii,tresAll,tres,tload,rowOf,partT,h14,h16];exact rfl),?_⟩
          exact Wk.ren [] rfl .nil (by (repeat (first|exact RNs.nil|refine RNs.cons .junk ?_|refine RNs.cons (.keep rfl rfl) ?_|refine RNs.cons (.lsl rfl rfl) ?_|refine RNs.cons (.lsl rfl (by simp only [List.length_set])) ?_|refine RNs.cons (.lptr rfl) ?_|refine RNs.cons (.nil rfl) ?_|refine RNs.cons .nl ?_|refine RNs.cons (.keep (by simp only [h14,h16]) rfl) ?_|refine RNs.cons (.tuple' ?_) ?_|refine RNs.cons (.agg' ?_) ?_)))
    · try dsimp only
      exact wr [some 0] rfl (rv .nil rfl)
  rfl

end Go.Rex

namespace Go.Rex
open Go.Proofs
open Go Go.Rex Go.RowKit
set_option maxRecDepth 100000
set_option maxHeartbeats 200000
def y37:=an @ag3 <| an @fd48_0 <| @fd48_1
theorem ref08_ArcErr_spec {v1 : Int} {v2 : Int} {v3 : Int} (hr : ref08_ArcErr v1 v2 = some (v3)) : Spec (lim Try.prog) 31 [.agg [.v (.int .i64 v1),.v (.int .i64 v2)]] ⟨[.v (.int .i64 v3)],[]⟩:=by
  unfold ref08_ArcErr at hr
  apply Spec.fn Try.func31 rfl
  focus (simp [Try.f31]<;>exact rfl)
  focus
    repeat (first|(with_reducible first|refine mv ?_|refine m12 rfl ?_|refine TO.nil ?_)|((with_reducible first|apply TO.bf|apply TO.asg|apply TO.fa|apply TO.ld);(repeat (focus (show _ = _;first|exact k1 rfl|exact k2 rfl|(simp only [zz,y37,Nat.reduceAdd,Nat.reduceMul,Nat.reduceLeDiff,Nat.reduceEqDiff,tfieldAddr,tload,rowOf,partT,List.getElem?_map]<;>exact rfl)|exact rfl)));(with_reducible apply TO.here))|((with_reducible apply TX.region);(focus (simp only [zl]<;>exact rfl));(focus rfl);(try dsimp only))|fail)
    obtain ⟨v4,h1,hr⟩:=Option.bind_eq_some_iff.1 hr
    try dsimp only at hr
    apply TO.cal (by first|rfl|(simp only [twant,z1,zp,zs];done)) rfl goFn24 (base_Within_spec h1) rfl rfl rfl
    (repeat (focus (show _ = _;first|exact k1 rfl|exact k2 rfl|(simp only [zz,y37,Nat.reduceAdd,Nat.reduceMul,Nat.reduceLeDiff,Nat.reduceEqDiff,shift,kill,killB,frz,frzB,view,tml,tmlc,List.length_set]<;>exact rfl)|exact rfl)))
    with_reducible apply TO.here
    repeat (first|(with_reducible first|refine mv ?_|refine m12 rfl ?_|refine TO.nil ?_)|((with_reducible apply TX.region);(focus (simp only [zl]<;>exact rfl));(focus rfl);(try dsimp only))|fail)
    apply TO.pop1 (by first|rfl|(simp only [twant,z1,zp,zs];done)) (pop_not rfl)
    (repeat (focus (show _ = _;first|exact k1 rfl|exact k2 rfl|(simp only [zz,y37,Nat.reduceAdd,Nat.reduceMul,Nat.reduceLeDiff,Nat.reduceEqDiff]<;>exact rfl)|exact rfl)))
    with_reducible apply TO.here
    repeat (first|(with_reducible first|refine mv ?_|refine m12 rfl ?_|refine TO.nil ?_)|((with_reducible first|apply TO.mv);(repeat (focus (show _ = _;first|exact k1 rfl|exact k2 rfl|(simp only [zz,y37,Nat.reduceAdd,Nat.reduceMul,Nat.reduceLeDiff,Nat.reduceEqDiff]<;>exact rfl)|exact rfl)));(with_reducible apply TO.here))|((with_reducible apply TX.region);(focus (simp only [zl]<;>exact rfl));(focus rfl);(try dsimp only))|fail)
    rcases Bool.eq_false_or_eq_true (v4) with h2|h2
    · rw [if_pos h2] at hr
      repeat (first|(with_reducible first|refine mv ?_|refine m12 rfl ?_|refine TO.nil ?_)|((with_reducible first|apply TO.fa|apply TO.ld);(repeat (focus (show _ = _;first|exact k1 rfl|exact k2 rfl|(simp only [zz,y37,Nat.reduceAdd,Nat.reduceMul,Nat.reduceLeDiff,Nat.reduceEqDiff,tfieldAddr,tload,rowOf,partT,List.getElem?_map,h2]<;>exact rfl)|exact rfl)));(with_reducible apply TO.here))|((with_reducible apply TX.region);(focus (simp only [zl]<;>exact rfl));(focus rfl);(try dsimp only))|fail)
      obtain ⟨v5,h3,hr⟩:=Option.bind_eq_some_iff.1 hr
      try dsimp only at hr
      apply TO.cal (by first|rfl|(simp only [twant,z1,zp,zs,h2];done)) rfl goFn24 (base_Within_spec h3) rfl rfl rfl
      (repeat (focus (show _ = _;first|exact k1 rfl|exact k2 rfl|(simp only [zz,y37,Nat.reduceAdd,Nat.reduceMul,Nat.reduceLeDiff,Nat.reduceEqDiff,shift,kill,killB,frz,frzB,view,tml,tmlc,List.length_set,h2]<;>exact rfl)|exact rfl)))
      with_reducible apply TO.here
      repeat (first|(with_reducible first|refine mv ?_|refine m12 rfl ?_|refine TO.nil ?_)|((with_reducible apply TX.region);(focus (simp only [zl]<;>exact rfl));(focus rfl);(try dsimp only))|fail)
      apply TO.pop1 (by first|rfl|(simp only [twant,z1,zp,zs,h2];done)) (pop_not rfl)
      (repeat (focus (show _ = _;first|exact k1 rfl|exact k2 rfl|(simp only [zz,y37,Nat.reduceAdd,Nat.reduceMul,Nat.reduceLeDiff,Nat.reduceEqDiff,h2]<;>exact rfl)|exact rfl)))
      with_reducible apply TO.here
      repeat (first|(with_reducible first|refine mv ?_|refine m12 rfl ?_|refine TO.nil ?_)|((with_reducible first|apply TO.pk);(repeat (focus (show _ = _;first|exact k1 rfl|exact k2 rfl|(simp only [zz,y37,Nat.reduceAdd,Nat.reduceMul,Nat.reduceLeDiff,Nat.reduceEqDiff,h2]<;>exact rfl)|exact rfl)));(with_reducible apply TO.here))|((with_reducible apply TX.region);(focus (simp only [zl]<;>exact rfl));(focus rfl);(try dsimp only))|((with_reducible apply TX.cond_true);(focus rfl);(focus (first|rfl|(simp only [z1,zn,h2];done))))|((with_reducible apply TX.cond_false);(focus rfl);(focus (first|rfl|(simp only [z1,zn,h2];done))))|fail)
      rcases Bool.eq_false_or_eq_true (v5) with h4|h4
      · rw [if_pos h4] at hr
        repeat (first|(with_reducible first|refine mv ?_|refine m12 rfl ?_|refine TO.nil ?_)|((with_reducible first|apply TO.fa|apply TO.ld|apply TO.bin);(repeat (focus (show _ = _;first|exact k1 rfl|exact k2 rfl|(simp only [zz,y37,Nat.reduceAdd,Nat.reduceMul,Nat.reduceLeDiff,Nat.reduceEqDiff,tfieldAddr,tload,rowOf,partT,List.getElem?_map,h2,h4]<;>exact rfl)|exact rfl)));(with_reducible apply TO.here))|((with_reducible apply TX.region);(focus (simp only [zl]<;>exact rfl));(focus rfl);(try dsimp only))|((with_reducible apply TX.cond_true);(focus rfl);(focus (first|rfl|(simp only [z1,zn,h2,h4];done))))|((with_reducible apply TX.cond_false);(focus rfl);(focus (first|rfl|(simp only [z1,zn,h2,h4];done))))|fail)
        rcases Bool.eq_false_or_eq_true ((decide (v1 > v2))) with h5|h5
        · rw [if_pos h5] at hr
          repeat (first|(with_reducible first|refine mv ?_|refine m12 rfl ?_|refine TO.nil ?_)|((with_reducible first|apply TO.asg);(repeat (focus (show _ = _;first|exact k1 rfl|exact k2 rfl|(simp only [zz,y37,Nat.reduceAdd,Nat.reduceMul,Nat.reduceLeDiff,Nat.reduceEqDiff,h2,h4,h5]<;>exact rfl)|exact rfl)));(with_reducible apply TO.here))|((with_reducible apply TX.region);(focus (simp only [zl]<;>exact rfl));(focus rfl);(try dsimp only))|((with_reducible apply TX.cond_true);(focus rfl);(focus (first|rfl|(simp only [z1,zn,h2,h4,h5];done))))|((with_reducible apply TX.cond_false);(focus rfl);(focus (first|rfl|(simp only [z1,zn,h2,h4,h5];done))))|fail)
          cases hr
          refine ⟨.inr rfl,_,(by simp only [zy,y37,tresAll,tres,tload,rowOf,partT,h2,h4,h5];exact rfl),?_⟩
          exact Wk.ren [] rfl .nil (by (repeat (first|exact RNs.nil|refine RNs.cons .junk ?_|refine RNs.cons (.keep rfl rfl) ?_|refine RNs.cons (.lsl rfl rfl) ?_|refine RNs.cons (.lsl rfl (by simp only [List.length_set])) ?_|refine RNs.cons (.lptr rfl) ?_|refine RNs.cons (.nil rfl) ?_|refine RNs.cons .nl ?_|refine RNs.cons (.keep (by simp only [h2,h4,h5]) rfl) ?_|refine RNs.cons (.tuple' ?_) ?_|refine RNs.cons (.agg' ?_) ?_)))
        · rw [if_neg (by rw [h5];exact Bool.false_ne_true)] at hr
          repeat (first|(with_reducible first|refine mv ?_|refine m12 rfl ?_|refine TO.nil ?_)|((with_reducible first|apply TO.asg);(repeat (focus (show _ = _;first|exact k1 rfl|exact k2 rfl|(simp only [zz,y37,Nat.reduceAdd,Nat.reduceMul,Nat.reduceLeDiff,Nat.reduceEqDiff,h2,h4,h5]<;>exact rfl)|exact rfl)));(with_reducible apply TO.here))|((with_reducible apply TX.region);(focus (simp only [zl]<;>exact rfl));(focus rfl);(try dsimp only))|((with_reducible apply TX.cond_true);(focus rfl);(focus (first|rfl|(simp only [z1,zn,h2,h4,h5];done))))|((with_reducible apply TX.cond_false);(focus rfl);(focus (first|rfl|(simp only [z1,zn,h2,h4,h5];done))))|fail)
          cases hr
          refine ⟨.inr rfl,_,(by simp only [zy,y37,tresAll,tres,tload,rowOf,partT,h2,h4,h5];exact rfl),?_⟩
          exact Wk.ren [] rfl .nil (by (repeat (first|exact RNs.nil|refine RNs.cons .junk ?_|refine RNs.cons (.keep rfl rfl) ?_|refine RNs.cons (.lsl rfl rfl) ?_|refine RNs.cons (.lsl rfl (by simp only [List.length_set])) ?_|refine RNs.cons (.lptr rfl) ?_|refine RNs.cons (.nil rfl) ?_|refine RNs.cons .nl ?_|refine RNs.cons (.keep (by simp only [h2,h4,h5]) rfl) ?_|refine RNs.cons (.tuple' ?_) ?_|refine RNs.cons (.agg' ?_) ?_)))
      · rw [if_neg (by rw [h4];exact Bool.false_ne_true)] at hr
        repeat (first|(with_reducible first|refine mv ?_|refine m12 rfl ?_|refine TO.nil ?_)|((with_reducible first|apply TO.asg);(repeat (focus (show _ = _;first|exact k1 rfl|exact k2 rfl|(simp only [zz,y37,Nat.reduceAdd,Nat.reduceMul,Nat.reduceLeDiff,Nat.reduceEqDiff,h2,h4]<;>exact rfl)|exact rfl)));(with_reducible apply TO.here))|((with_reducible apply TX.region);(focus (simp only [zl]<;>exact rfl));(focus rfl);(try dsimp only))|((with_reducible apply TX.cond_true);(focus rfl);(focus (first|rfl|(simp only [z1,zn,h2,h4];done))))|((with_reducible apply TX.cond_false);(focus rfl);(focus (first|rfl|(simp only [z1,zn,h2,h4];done))))|fail)
        cases hr
        refine ⟨.inr rfl,_,(by simp only [zy,y37,tresAll,tres,tload,rowOf,partT,h2,h4];exact rfl),?_⟩
        exact Wk.ren [] rfl .nil (by (repeat (first|exact RNs.nil|refine RNs.cons .junk ?_|refine RNs.cons (.keep rfl rfl) ?_|refine RNs.cons (.lsl rfl rfl) ?_|refine RNs.cons (.lsl rfl (by simp only [List.length_set])) ?_|refine RNs.cons (.lptr rfl) ?_|refine RNs.cons (.nil rfl) ?_|refine RNs.cons .nl ?_|refine RNs.cons (.keep (by simp only [h2,h4]) rfl) ?_|refine RNs.cons (.tuple' ?_) ?_|refine RNs.cons (.agg' ?_) ?_)))
    · rw [if_neg (by rw [h2];exact Bool.false_ne_true)] at hr
      repeat (first|(with_reducible first|refine mv ?_|refine m12 rfl ?_|refine TO.nil ?_)|((with_reducible first|apply TO.pk|apply TO.asg);(repeat (focus (show _ = _;first|exact k1 rfl|exact k2 rfl|(simp only [zz,y37,Nat.reduceAdd,Nat.reduceMul,Nat.reduceLeDiff,Nat.reduceEqDiff,h2]<;>exact rfl)|exact rfl)));(with_reducible apply TO.here))|((with_reducible apply TO.skip1);(repeat (focus (show _ = _;first|exact k1 rfl|exact k2 rfl|(simp only [zz,y37,Nat.reduceAdd,Nat.reduceMul,Nat.reduceLeDiff,Nat.reduceEqDiff,twant,zp,zs,h2]<;>exact rfl)|exact rfl)));(with_reducible apply TO.here))|((with_reducible apply TX.region);(focus (simp only [zl]<;>exact rfl));(focus rfl);(try dsimp only))|((with_reducible apply TX.cond_true);(focus rfl);(focus (first|rfl|(simp only [z1,zn,h2];done))))|((with_reducible apply TX.cond_false);(focus rfl);(focus (first|rfl|(simp only [z1,zn,h2];done))))|fail)
      cases hr
      refine ⟨.inr rfl,_,(by simp only [zy,y37,tresAll,tres,tload,rowOf,partT,h2];exact rfl),?_⟩
      exact Wk.ren [] rfl .nil (by (repeat (first|exact RNs.nil|refine RNs.cons .junk ?_|refine RNs.cons (.keep rfl rfl) ?_|refine RNs.cons (.lsl rfl rfl) ?_|refine RNs.cons (.lsl rfl (by simp only [List.length_set])) ?_|refine RNs.cons (.lptr rfl) ?_|refine RNs.cons (.nil rfl) ?_|refine RNs.cons .nl ?_|refine RNs.cons (.keep (by simp only [h2]) rfl) ?_|refine RNs.cons (.tuple' ?_) ?_|refine RNs.cons (.agg' ?_) ?_)))
  rfl

end Go.Rex

namespace Go.Rex
open Go.Proofs
open Go Go.Rex Go.RowKit
set_option maxRecDepth 100000
set_option maxHeartbeats 200000
def y38:=an @ag22 <| an @ag24 <| an @ag3 <| an @ag41 <| an @cs24 <| an @cs3 <| an @cs41 <| an @fd24_0 <| an @fd24_1 <| an @fd41_2 <| an @fd48_0 <| an @fd48_1 <| an @ok24 <| an @ok3 <| an @ok41 <| an @so22 <| an @zc41 <| @wi64_0a1
theorem ref08_Arc_spec {v1 : (List (Int × Int))} {v2 : (List Int)} {v3 : Int} {v4 : Int} {v5 : Int} {v6 : Int} {v7 : Int} {v8 : Int} (hr : ref08_Arc v1 v2 v3 v4 v5 = some (v6,v7,v8)) : Spec (lim Try.prog) 32 [.list 2 (v1.map e_ii),.agg [.list 1 (v2.map e_i),.v (.int .i64 v3)],.agg [.v (.int .i64 v4),.v (.int .i64 v5)]] ⟨[.agg [.v (.int .i64 v6),.v (.int .i64 v7),.v (.int .i64 v8)]],[]⟩:=by
  unfold ref08_Arc at hr
  apply Spec.fn Try.func32 rfl
  focus (simp [Try.f32]<;>exact rfl)
  focus
    repeat (first|(with_reducible first|refine mv ?_|refine m12 rfl ?_|refine TO.nil ?_)|((with_reducible first|apply TO.bf|apply TO.al|apply TO.fa|apply TO.ld|apply TO.bin);(repeat (focus (show _ = _;first|exact k1 rfl|exact k2 rfl|(simp only [zz,y38,e_i,e_ii,Nat.reduceAdd,Nat.reduceMul,Nat.reduceLeDiff,Nat.reduceEqDiff,tfieldAddr,tload,rowOf,partT,List.getElem?_map]<;>exact rfl)|exact rfl)));(with_reducible apply TO.here))|((with_reducible apply TX.region);(focus (simp only [zl]<;>exact rfl));(focus rfl);(try dsimp only))|fail)
    obtain ⟨v9,h1,hr⟩:=Option.bind_eq_some_iff.1 hr
    try dsimp only at hr
    apply TO.cal (by first|rfl|(simp only [twant,z1,zp,zs];done)) rfl goFn51 (base_Floor_spec h1) rfl rfl rfl
    (repeat (focus (show _ = _;first|exact k1 rfl|exact k2 rfl|(simp only [zz,y38,e_i,e_ii,Nat.reduceAdd,Nat.reduceMul,Nat.reduceLeDiff,Nat.reduceEqDiff,shift,kill,killB,frz,frzB,view,tml,tmlc,List.length_set]<;>exact rfl)|exact rfl)))
    with_reducible apply TO.here
    repeat (first|(with_reducible first|refine mv ?_|refine m12 rfl ?_|refine TO.nil ?_)|((with_reducible first|apply TO.asg|apply TO.mv|apply TO.ld);(repeat (focus (show _ = _;first|exact k1 rfl|exact k2 rfl|(simp only [zz,y38,e_i,e_ii,Nat.reduceAdd,Nat.reduceMul,Nat.reduceLeDiff,Nat.reduceEqDiff,tload,rowOf,partT,List.getElem?_map]<;>exact rfl)|exact rfl)));(with_reducible apply TO.here))|((with_reducible apply TX.region);(focus (simp only [zl]<;>exact rfl));(focus rfl);(try dsimp only))|fail)
    obtain ⟨⟨v10,v11,v12⟩,h2,hr⟩:=Option.bind_eq_some_iff.1 hr
    try dsimp only at hr
    apply TO.cal (by first|rfl|(simp only [twant,z1,zp,zs];done)) rfl goFn30 (ref08_Value_spec h2) rfl rfl rfl
    (repeat (focus (show _ = _;first|exact k1 rfl|exact k2 rfl|(simp only [zz,y38,e_i,e_ii,Nat.reduceAdd,Nat.reduceMul,Nat.reduceLeDiff,Nat.reduceEqDiff,shift,kill,killB,frz,frzB,view,tml,tmlc,List.length_set]<;>exact rfl)|exact rfl)))
    with_reducible apply TO.here
    repeat (first|(with_reducible first|refine mv ?_|refine m12 rfl ?_|refine TO.nil ?_)|((with_reducible first|apply TO.al|apply TO.sv|apply TO.asg);(repeat (focus (show _ = _;first|exact k1 rfl|exact k2 rfl|(simp only [zz,y38,e_i,e_ii,Nat.reduceAdd,Nat.reduceMul,Nat.reduceLeDiff,Nat.reduceEqDiff]<;>exact rfl)|exact rfl)));(with_reducible apply TO.here))|((with_reducible apply TX.region);(focus (simp only [zl]<;>exact rfl));(focus rfl);(try dsimp only))|fail)
    obtain ⟨v20,h9,hr⟩:=Option.bind_eq_some_iff.1 hr
    try dsimp only at hr
    refine TX.loopE (step:=ref08_Arc_l1 v2) (x:=(0,0)) h9 (fun (v13,v14)=>⟨.junk :: .junk :: .junk :: .junk :: .fptr true [.list 1 (v2.map e_i),.v (.int .i64 v3)] 0 :: .fptr true [.v (.int .i64 v4),.v (.int .i64 v5)] 0 :: .lptr 0 0 0 :: .v (.int .i64 v9) :: .lptr 1 0 0 :: .v (.int .i64 v13) :: .v (.int .i64 v14) :: .junk :: .junk :: .junk :: .junk :: .junk :: .junk :: .junk :: .junk :: .junk :: .junk :: .junk :: .junk :: .junk :: .junk :: .junk :: .junk :: .junk :: .junk :: .junk :: .junk :: .junk :: .junk :: .junk :: .junk :: .junk :: .junk :: .junk :: .junk :: .junk :: .junk :: .junk :: .junk :: .junk :: .junk :: .junk :: .junk :: .junk :: .junk :: .junk :: .junk :: .junk :: .junk :: .junk :: [],[.var [.v (.int .i64 0),.v (.int .i64 0),.v (.int .i64 0)],.var [.v (.int .i64 v10),.v (.int .i64 v11),.v (.int .i64 v12)]]⟩) (fun v17=>(.exit 0,⟨.junk :: .junk :: .junk :: .junk :: .fptr true [.list 1 (v2.map e_i),.v (.int .i64 v3)] 0 :: .fptr true [.v (.int .i64 v4),.v (.int .i64 v5)] 0 :: .lptr 0 0 0 :: .v (.int .i64 v9) :: .lptr 1 0 0 :: .v (.int .i64 v17) :: .junk :: .junk :: .junk :: .junk :: .junk :: .junk :: .junk :: .junk :: .junk :: .junk :: .junk :: .junk :: .junk :: .junk :: .junk :: .junk :: .junk :: .junk :: .junk :: .junk :: .junk :: .junk :: .junk :: .junk :: .junk :: .junk :: .junk :: .junk :: .junk :: .junk :: .junk :: .junk :: .junk :: .junk :: .junk :: .junk :: .junk :: .junk :: .junk :: .junk :: .junk :: .junk :: .junk :: .junk :: [],[.var [.v (.int .i64 0),.v (.int .i64 0),.v (.int .i64 0)],.var [.v (.int .i64 v10),.v (.int .i64 v11),.v (.int .i64 v12)]]⟩)) ?_ ?_ ?_ ?_
    · rintro ⟨v13,v14⟩ v0 hr
      dsimp only [ref08_Arc_l1] at hr
      try dsimp only
      repeat (first|(with_reducible first|refine mv ?_|refine m12 rfl ?_|refine TO.nil ?_)|((with_reducible first|apply TO.mv|apply TO.fa|apply TO.ld|apply TO.len|apply TO.bin);(repeat (focus (show _ = _;first|exact k1 rfl|exact k2 rfl|(simp only [zz,y38,e_i,e_ii,Nat.reduceAdd,Nat.reduceMul,Nat.reduceLeDiff,Nat.reduceEqDiff,tfieldAddr,tload,rowOf,partT,List.getElem?_map,tlen]<;>exact rfl)|exact rfl)));(with_reducible apply TO.here))|((with_reducible apply TX.region);(focus (simp only [zl]<;>exact rfl));(focus rfl);(try dsimp only))|((with_reducible apply TX.cond_true);(focus rfl);(focus (first|rfl|(simp only [z1,zn];done))))|((with_reducible apply TX.cond_false);(focus rfl);(focus (first|rfl|(simp only [z1,zn];done))))|fail)
      rcases Bool.eq_false_or_eq_true ((decide (v14 < (v2.length : Int)))) with h6|h6
      · rw [if_pos h6] at hr
        repeat (first|(with_reducible first|refine mv ?_|refine m12 rfl ?_|refine TO.nil ?_)|((with_reducible first|apply TO.mv|apply TO.fa|apply TO.ld);(repeat (focus (show _ = _;first|exact k1 rfl|exact k2 rfl|(simp only [zz,y38,e_i,e_ii,Nat.reduceAdd,Nat.reduceMul,Nat.reduceLeDiff,Nat.reduceEqDiff,tfieldAddr,tload,rowOf,partT,List.getElem?_map,h6]<;>exact rfl)|exact rfl)));(with_reducible apply TO.here))|((with_reducible apply TX.region);(focus (simp only [zl]<;>exact rfl));(focus rfl);(try dsimp only))|((with_reducible apply TX.cond_true);(focus rfl);(focus (first|rfl|(simp only [z1,zn,h6];done))))|((with_reducible apply TX.cond_false);(focus rfl);(focus (first|rfl|(simp only [z1,zn,h6];done))))|fail)
        obtain ⟨v18,h7,hr⟩:=Option.bind_eq_some_iff.1 hr
        try dsimp only at hr
        have h7m:=tidx_map (f:=e_i) h7
        have h7l:=getI_lt h7
        try simp only [List.length_set] at h7l
        have h7a:=getI_at h7
        repeat (first|(with_reducible first|refine mv ?_|refine m12 rfl ?_|refine TO.nil ?_)|((with_reducible first|apply TO.ia|apply TO.ld);(repeat (focus (show _ = _;first|exact k1 rfl|exact k2 rfl|(simp only [zz,y38,e_i,e_ii,Nat.reduceAdd,Nat.reduceMul,Nat.reduceLeDiff,Nat.reduceEqDiff,tindexAddr,Nat.zero_add,tload,rowOf,partT,List.getElem?_map,h6,h7m,h7l,h7a]<;>exact rfl)|exact rfl)));(with_reducible apply TO.here))|((with_reducible apply TX.region);(focus (simp only [zl]<;>exact rfl));(focus rfl);(try dsimp only))|fail)
        obtain ⟨v19,h8,hr⟩:=Option.bind_eq_some_iff.1 hr
        try dsimp only at hr
        apply TO.cal (by first|rfl|(simp only [twant,z1,zp,zs,h6,h7m,h7l,h7a];done)) rfl goFn71 (base_Size_spec h8) rfl rfl rfl
        (repeat (focus (show _ = _;first|exact k1 rfl|exact k2 rfl|(simp only [zz,y38,e_i,e_ii,Nat.reduceAdd,Nat.reduceMul,Nat.reduceLeDiff,Nat.reduceEqDiff,shift,kill,killB,frz,frzB,view,tml,tmlc,List.length_set,h6,h7m,h7l,h7a]<;>exact rfl)|exact rfl)))
        with_reducible apply TO.here
        repeat (first|(with_reducible first|refine mv ?_|refine m12 rfl ?_|refine TO.nil ?_)|((with_reducible first|apply TO.bin|apply TO.asg|apply TO.mv);(repeat (focus (show _ = _;first|exact k1 rfl|exact k2 rfl|(simp only [zz,y38,e_i,e_ii,Nat.reduceAdd,Nat.reduceMul,Nat.reduceLeDiff,Nat.reduceEqDiff,h6,h7m,h7l,h7a]<;>exact rfl)|exact rfl)));(with_reducible apply TO.here))|((with_reducible apply TX.region);(focus (simp only [zl]<;>exact rfl));(focus rfl);(try dsimp only))|fail)
        cases hr
        refine ⟨rfl,?_⟩
        exact Wk.ren [some 0,some 1] rfl (rv (rv .nil rfl) rfl) (by (repeat (first|exact RNs.nil|refine RNs.cons .junk ?_|refine RNs.cons (.keep rfl rfl) ?_|refine RNs.cons (.lsl rfl rfl) ?_|refine RNs.cons (.lsl rfl (by simp only [List.length_set])) ?_|refine RNs.cons (.lptr rfl) ?_|refine RNs.cons (.nil rfl) ?_|refine RNs.cons .nl ?_|refine RNs.cons (.keep (by simp only [h6]) rfl) ?_|refine RNs.cons (.tuple' ?_) ?_|refine RNs.cons (.agg' ?_) ?_)))
      · rw [if_neg (by rw [h6];exact Bool.false_ne_true)] at hr
        repeat (first|(with_reducible first|refine mv ?_|refine m12 rfl ?_)|((with_reducible apply TX.cond_true);(focus rfl);(focus (first|rfl|(simp only [z1,zn,h6];done))))|((with_reducible apply TX.cond_false);(focus rfl);(focus (first|rfl|(simp only [z1,zn,h6];done))))|fail)
        cases hr
        refine ⟨rfl,?_⟩
        exact Wk.ren [some 0,some 1] rfl (rv (rv .nil rfl) rfl) (by (repeat (first|exact RNs.nil|refine RNs.cons .junk ?_|refine RNs.cons (.keep rfl rfl) ?_|refine RNs.cons (.lsl rfl rfl) ?_|refine RNs.cons (.lsl rfl (by simp only [List.length_set])) ?_|refine RNs.cons (.lptr rfl) ?_|refine RNs.cons (.nil rfl) ?_|refine RNs.cons .nl ?_|refine RNs.cons (.keep (by simp only [h6]) rfl) ?_|refine RNs.cons (.tuple' ?_) ?_|refine RNs.cons (.agg' ?_) ?_)))
    · intro e h;cases h
    · try dsimp only
      repeat (first|(with_reducible first|refine mv ?_|refine m12 rfl ?_|refine TD.nil ?_)|((with_reducible first|apply TD.fa|apply TD.ld|apply TD.ldw|apply TD.mv|apply TD.bin);(repeat (focus (show _ = _;first|exact k1 rfl|exact k2 rfl|(simp only [zz,y38,e_i,e_ii,Nat.reduceAdd,Nat.reduceMul,Nat.reduceLeDiff,Nat.reduceEqDiff,tfieldAddr,tload,rowOf,partT,List.getElem?_map]<;>exact rfl)|exact rfl)));(with_reducible refine TD.here ?_))|((with_reducible apply TX.drawn);(focus decide +kernel);(focus (simp only [zl]<;>exact rfl));(focus exact rfl);(try dsimp only))|fail)
      obtain ⟨v21,h10,hr⟩:=Option.bind_eq_some_iff.1 hr
      try dsimp only at hr
      first|apply TD.cal (by first|rfl|(simp only [twant,z1,zp,zs];done)) rfl goFn70 (base_Ceil_spec h10) rfl rfl rfl|apply TD.calw (by first|rfl|(simp only [twant,z1,zp,zs];done)) rfl goFn70 (base_Ceil_spec h10) rfl rfl rfl rfl
      (repeat (focus (show _ = _;first|exact k1 rfl|exact k2 rfl|(simp only [zz,y38,e_i,e_ii,Nat.reduceAdd,Nat.reduceMul,Nat.reduceLeDiff,Nat.reduceEqDiff,shift,kill,killB,frz,frzB,view,tml,tmlc,List.length_set]<;>exact rfl)|exact rfl)))
      with_reducible apply TD.here
      repeat (first|(with_reducible first|refine mv ?_|refine m12 rfl ?_|refine TO.nil ?_)|((with_reducible first|apply TO.ld|apply TO.sv);(repeat (focus (show _ = _;first|exact k1 rfl|exact k2 rfl|(simp only [zz,y38,e_i,e_ii,Nat.reduceAdd,Nat.reduceMul,Nat.reduceLeDiff,Nat.reduceEqDiff,tload,rowOf,partT,List.getElem?_map]<;>exact rfl)|exact rfl)));(with_reducible apply TO.here))|((with_reducible apply TX.region);(focus (simp only [zl]<;>exact rfl));(focus rfl);(try dsimp only))|with_reducible refine TD.nil ?_|((with_reducible first|apply TD.bin|apply TD.fa|apply TD.sv);(repeat (focus (show _ = _;first|exact k1 rfl|exact k2 rfl|(simp only [zz,y38,e_i,e_ii,Nat.reduceAdd,Nat.reduceMul,Nat.reduceLeDiff,Nat.reduceEqDiff,tfieldAddr]<;>exact rfl)|exact rfl)));(with_reducible refine TD.here ?_))|((with_reducible apply TX.drawn);(focus decide +kernel);(focus (simp only [zl]<;>exact rfl));(focus exact rfl);(try dsimp only))|fail)
      cases hr
      refine ⟨.inr rfl,_,(by simp only [zy,y38,e_i,e_ii,tresAll,tres,tload,rowOf,partT];exact rfl),?_⟩
      exact wr [] rfl .nil
    · try dsimp only
      exact wr [some 0,some 1] rfl (rv (rv .nil rfl) rfl)
  rfl

end Go.Rex

namespace Go.Rex
open Go.Proofs
open Go Go.Rex Go.RowKit
set_option maxRecDepth 100000
def circV : List Value:=circT.flatMap fun p=>[.int .i64 p.1,.int .i64 p.2]
theorem flat_ii : ∀ l : List (Int × Int),(l.map e_ii).flatten = (l.flatMap fun p=>[Value.int .i64 p.1,.int .i64 p.2]).map TV.v
  | []=>rfl
  | p :: t=>by simp only [List.map_cons,List.flatten_cons,List.flatMap_cons,List.map_append,flat_ii t];rfl
theorem follows : Try.prog.follows .mixedOrders = true:=by decide +kernel
theorem circ_res : ResOk Try.prog 72 (tabRes 2 circV 1025):=by
  have h:=loop_newCircle_spec newCircle_T
  rw [← List.length_map (f:=e_ii)] at h
  have:=res_of_spec follows h (flat_ii _) (fun v hv=>by
    simp only [List.mem_flatMap,List.mem_cons,List.not_mem_nil,or_false] at hv
    obtain ⟨p,_,rfl|rfl⟩:=hv<;>rfl) (fun he=>by
    have h1:=congrArg List.length he
    rw [List.length_map,circ_len] at h1
    cases h1)
  rw [List.length_map,circ_len] at this
  exact this
theorem awake_true : AwT Try.prog 14:=awT_of_ecallO follows circ_res (k:=2000) (d:=60) (by decide +kernel)

end Go.Rex
