/- Proofs that the program's functions do what these plain functions say. -/
import Derived.Test.YtnjbkoobeobfiaaGreatGB
import Derived.Test.YtnjbkoobeobfiaaGreatS
set_option linter.unusedSimpArgs false
set_option linter.unusedVariables false
set_option linter.defProp false
namespace Go.Rex
open Go.Proofs
open Go Go.Rex Go.RowKit
set_option maxRecDepth 100000
set_option maxHeartbeats 1000000
def y1:=an @ag43 <| an @ag44 <| an @cs44 <| an @fd46_0 <| an @fd46_1 <| an @ok44 <| an @so43 <| an @so44 <| @wi64_0a1
theorem law03_patches_spec {v1 : (List (List Int))} {v2 : (List Int)} {v3 : (List Int)} {v4 : Bool} (hr : law03_patches v1 v2 v3 = some (v4)) : Spec (lim Tryz.prog) 19 [.agg [.list 1 (v1.map e_Li_),.list 1 (v2.map e_i)],.list 1 (v3.map e_i)] ⟨[.v (.bool v4)],[]⟩:=by
  unfold law03_patches at hr
  apply Spec.fn Tryz.func19 rfl
  focus (simp [Tryz.f19]<;>exact rfl)
  focus
    repeat (first|(with_reducible first|refine mv ?_|refine TO.nil ?_)|((with_reducible first|apply TO.bf|apply TO.asg|apply TO.fa|apply TO.ld|apply TO.len|apply TO.bin|apply TO.mv);(repeat (focus (show _ = _;first|exact k1 rfl|exact k2 rfl|(simp only [zz,y1,Nat.reduceAdd,tfieldAddr,tload,rowOf,partT,tlen]<;>exact rfl)|exact rfl)));(with_reducible apply TO.here))|((with_reducible apply TX.region);(focus (simp only []<;>exact rfl));(focus rfl);(try dsimp only)))
    rcases Bool.eq_false_or_eq_true ((decide ((v1.length : Int) > 5))) with h1|h1
    · rw [if_pos h1] at hr
      repeat (first|((with_reducible first|apply TO.fa|apply TO.ld|apply TO.len|apply TO.bin|apply TO.pk|apply TO.mv);(repeat (focus (show _ = _;first|exact k2 rfl|(simp only [zz,y1,Nat.reduceAdd,tfieldAddr,tload,rowOf,partT,tlen,h1]<;>exact rfl)|exact rfl)));(with_reducible apply TO.here)))
      rcases Bool.eq_false_or_eq_true ((decide ((v1.length : Int) ≤ 12))) with h2|h2
      · rw [if_pos h2] at hr
        repeat (first|(with_reducible first|refine mv ?_|refine TO.nil ?_)|((with_reducible first|apply TO.pk|apply TO.mv|apply TO.asg);(repeat (focus (show _ = _;first|exact k2 rfl|(simp only [zz]<;>exact rfl))));(with_reducible apply TO.here))|((with_reducible apply TO.skip1);(repeat (focus (show _ = _;(simp only [zz,twant,zp,zs,h2]<;>exact rfl))));(with_reducible apply TO.here))|((with_reducible apply TX.region);(focus (simp only []<;>exact rfl));(focus rfl);(try dsimp only))|((with_reducible apply TX.cond_true);(focus rfl);(focus (rfl))))
        cases hr
        refine ⟨.inr rfl,_,(by simp only [];exact rfl),?_⟩
        exact Wk.ren [] rfl .nil (by (repeat (first|exact RNs.nil|refine RNs.cons (.keep rfl rfl) ?_)))
      · rw [if_neg (by rw [h2];exact Bool.false_ne_true)] at hr
        repeat (first|((with_reducible first|apply TO.fa|apply TO.ld|apply TO.len|apply TO.bin|apply TO.pk|apply TO.mv);(repeat (focus (show _ = _;first|exact k2 rfl|(simp only [zz,y1,Nat.reduceAdd,tfieldAddr,tload,rowOf,partT,tlen,h2]<;>exact rfl)|exact rfl)));(with_reducible apply TO.here)))
        rcases Bool.eq_false_or_eq_true ((decide ((v1.length : Int) > 14))) with h3|h3
        · rw [if_pos h3] at hr
          repeat (first|(with_reducible first|refine mv ?_|refine TO.nil ?_)|((with_reducible first|apply TO.pk|apply TO.mv|apply TO.asg);(repeat (focus (show _ = _;first|exact k2 rfl|(simp only [zz]<;>exact rfl))));(with_reducible apply TO.here))|((with_reducible apply TO.skip1);(repeat (focus (show _ = _;(simp only [zz,twant,zp,zs,h3]<;>exact rfl))));(with_reducible apply TO.here))|((with_reducible apply TX.region);(focus (simp only []<;>exact rfl));(focus rfl);(try dsimp only))|((with_reducible apply TX.cond_true);(focus rfl);(focus (rfl))))
          cases hr
          refine ⟨.inr rfl,_,(by simp only [];exact rfl),?_⟩
          exact Wk.ren [] rfl .nil (by (repeat (first|exact RNs.nil|refine RNs.cons (.keep rfl rfl) ?_)))
        · rw [if_neg (by rw [h3];exact Bool.false_ne_true)] at hr
          repeat (first|((with_reducible first|apply TO.fa|apply TO.ld|apply TO.len|apply TO.bin|apply TO.pk|apply TO.mv);(repeat (focus (show _ = _;first|exact k2 rfl|(simp only [zz,y1,Nat.reduceAdd,tfieldAddr,tload,rowOf,partT,tlen,h3]<;>exact rfl)|exact rfl)));(with_reducible apply TO.here)))
          rcases Bool.eq_false_or_eq_true ((decide ((v2.length : Int) > 16))) with h4|h4
          · rw [if_pos h4] at hr
            repeat (first|(with_reducible first|refine mv ?_|refine TO.nil ?_)|((with_reducible first|apply TO.pk|apply TO.asg);(repeat (focus (show _ = _;first|exact k2 rfl|(simp only [zz]<;>exact rfl))));(with_reducible apply TO.here))|((with_reducible apply TO.skip1);(repeat (focus (show _ = _;(simp only [zz,twant,zp,zs,h4]<;>exact rfl))));(with_reducible apply TO.here))|((with_reducible apply TX.region);(focus (simp only []<;>exact rfl));(focus rfl);(try dsimp only))|((with_reducible apply TX.cond_true);(focus rfl);(focus (rfl))))
            cases hr
            refine ⟨.inr rfl,_,(by simp only [];exact rfl),?_⟩
            exact Wk.ren [] rfl .nil (by (repeat (first|exact RNs.nil|refine RNs.cons (.keep rfl rfl) ?_)))
          · rw [if_neg (by rw [h4];exact Bool.false_ne_true)] at hr
            repeat (first|(with_reducible first|refine mv ?_|refine TO.nil ?_)|((with_reducible first|apply TO.mv|apply TO.len|apply TO.bin|apply TO.pk);(repeat (focus (show _ = _;first|exact k2 rfl|(simp only [zz,y1,tlen,h4]<;>exact rfl))));(with_reducible apply TO.here)))
            rcases Bool.eq_false_or_eq_true ((decide ((v3.length : Int) > 16))) with h5|h5
            · rw [if_pos h5] at hr
              repeat (first|(with_reducible first|refine mv ?_|refine TO.nil ?_)|((with_reducible apply TO.asg);(repeat (focus (show _ = _;first|exact k2 rfl|(simp only [zz,h5]<;>exact rfl))));(with_reducible apply TO.here))|((with_reducible apply TX.region);(focus (simp only []<;>exact rfl));(focus rfl);(try dsimp only))|((with_reducible apply TX.cond_true);(focus rfl);(focus ((simp only [z1,h5];done)))))
              cases hr
              refine ⟨.inr rfl,_,(by simp only [];exact rfl),?_⟩
              exact Wk.ren [] rfl .nil (by (repeat (first|exact RNs.nil|refine RNs.cons (.keep rfl rfl) ?_)))
            · rw [if_neg (by rw [h5];exact Bool.false_ne_true)] at hr
              repeat (first|(with_reducible first|refine mv ?_|refine TO.nil ?_)|((with_reducible apply TO.asg);(repeat (focus (show _ = _;first|exact k2 rfl|(simp only [zz,h5]<;>exact rfl))));(with_reducible apply TO.here))|((with_reducible apply TX.region);(focus (simp only []<;>exact rfl));(focus rfl);(try dsimp only))|((with_reducible apply TX.cond_false);(focus rfl);(focus ((simp only [z1,h5];done)))))
              obtain ⟨v8,h12,hr⟩:=Option.bind_eq_some_iff.1 hr
              refine TX.loopE (step:=law03_patches_l1 v1) (x:=0) h12 (fun v5=>⟨.junk :: .junk :: .fptr true [.list 1 (v1.map e_Li_),.list 1 (v2.map e_i)] 0 :: .junk :: .junk :: .v (.int .i64 v5) :: .junk :: .junk :: .junk :: .junk :: .junk :: .junk :: .junk :: .junk :: .junk :: .junk :: .junk :: .junk :: .junk :: .junk :: .junk :: .junk :: .junk :: .junk :: .junk :: .junk :: .junk :: .junk :: .junk :: .junk :: .junk :: .junk :: .junk :: .junk :: .junk :: .junk :: .junk :: .junk :: .junk :: .junk :: .junk :: .junk :: .junk :: .junk :: .junk :: .junk :: .junk :: [],[]⟩) (fun e=>match e with|(.inl _)=>(.ret,⟨.junk :: .junk :: .junk :: .junk :: .v (.bool false) :: .junk :: .junk :: .junk :: .junk :: .junk :: .junk :: .junk :: .junk :: .junk :: .junk :: .junk :: .junk :: .junk :: .junk :: .junk :: .junk :: .junk :: .junk :: .junk :: .junk :: .junk :: .junk :: .junk :: .junk :: .junk :: .junk :: .junk :: .junk :: .junk :: .junk :: .junk :: .junk :: .junk :: .junk :: .junk :: .junk :: .junk :: .junk :: .junk :: .junk :: .junk :: .junk :: [],[]⟩)|(.inr _)=>(.exit 0,⟨.junk :: .junk :: .junk :: .junk :: .junk :: .junk :: .junk :: .junk :: .junk :: .junk :: .junk :: .junk :: .junk :: .junk :: .junk :: .junk :: .junk :: .junk :: .junk :: .junk :: .junk :: .junk :: .junk :: .junk :: .junk :: .junk :: .junk :: .junk :: .junk :: .junk :: .junk :: .junk :: .junk :: .junk :: .junk :: .junk :: .junk :: .junk :: .junk :: .junk :: .junk :: .junk :: .junk :: .junk :: .junk :: .junk :: .junk :: [],[]⟩)) ?_ ?_ ?_ ?_
              · rintro v5 v0 hr
                dsimp only [law03_patches_l1] at hr
                try dsimp only
                repeat (first|(with_reducible first|refine mv ?_|refine TO.nil ?_)|((with_reducible first|apply TO.mv|apply TO.fa|apply TO.ld|apply TO.len|apply TO.bin);(repeat (focus (show _ = _;first|exact k2 rfl|(simp only [zz,y1,Nat.reduceAdd,tfieldAddr,tload,rowOf,partT,tlen]<;>exact rfl)|exact rfl)));(with_reducible apply TO.here))|((with_reducible apply TX.region);(focus (simp only []<;>exact rfl));(focus rfl);(try dsimp only)))
                rcases Bool.eq_false_or_eq_true ((decide (v5 < (v1.length : Int)))) with h9|h9
                · rw [if_pos h9] at hr
                  repeat (first|with_reducible refine mv ?_|((with_reducible first|apply TO.fa|apply TO.ld|apply TO.mv);(repeat (focus (show _ = _;first|exact k2 rfl|(simp only [zz,y1,Nat.reduceAdd,tfieldAddr,tload,rowOf,partT,h9]<;>exact rfl)|exact rfl)));(with_reducible apply TO.here))|((with_reducible apply TX.region);(focus (simp only []<;>exact rfl));(focus rfl);(try dsimp only))|((with_reducible apply TX.cond_true);(focus rfl);(focus ((simp only [z1,h9];done)))))
                  obtain ⟨v7,h10,hr⟩:=Option.bind_eq_some_iff.1 hr
                  try dsimp only at hr
                  have h10m:=tidx_map (f:=e_Li_) h10
                  have h10l:=getI_lt h10
                  try simp only [List.length_set] at h10l
                  have h10a:=getI_at h10
                  repeat (first|(with_reducible first|refine mv ?_|refine TO.nil ?_)|((with_reducible first|apply TO.ia|apply TO.ld|apply TO.len|apply TO.bin);(repeat (focus (show _ = _;first|exact k2 rfl|(simp only [zz,y1,e_Li_,tindexAddr,tload,rowOf,partT,tlen,h10m]<;>exact rfl)|exact rfl)));(with_reducible apply TO.here)))
                  rcases Bool.eq_false_or_eq_true ((decide ((v7.length : Int) > 16))) with h11|h11
                  · rw [if_pos h11] at hr
                    repeat (first|(with_reducible first|refine mv ?_|refine TO.nil ?_)|((with_reducible apply TO.asg);(repeat (focus (show _ = _;first|exact k2 rfl|(simp only [zz,h11]<;>exact rfl))));(with_reducible apply TO.here))|((with_reducible apply TX.region);(focus (simp only []<;>exact rfl));(focus rfl);(try dsimp only))|((with_reducible apply TX.cond_true);(focus rfl);(focus ((simp only [z1,h11];done)))))
                    cases hr
                    refine ⟨rfl,?_⟩
                    exact Wk.ren [] rfl .nil (by (repeat (first|exact RNs.nil|refine RNs.cons .junk ?_|refine RNs.cons (.keep rfl rfl) ?_)))
                  · rw [if_neg (by rw [h11];exact Bool.false_ne_true)] at hr
                    repeat (first|(with_reducible first|refine mv ?_|refine TO.nil ?_)|((with_reducible first|apply TO.mv|apply TO.bin|apply TO.asg);(repeat (focus (show _ = _;first|exact k2 rfl|(simp only [zz,h11]<;>exact rfl))));(with_reducible apply TO.here))|((with_reducible apply TX.region);(focus (simp only []<;>exact rfl));(focus rfl);(try dsimp only))|((with_reducible apply TX.cond_false);(focus rfl);(focus ((simp only [z1,h11];done)))))
                    cases hr
                    refine ⟨rfl,?_⟩
                    exact Wk.ren [] rfl .nil (by (repeat (first|exact RNs.nil|refine RNs.cons .junk ?_|refine RNs.cons (.keep rfl rfl) ?_)))
                · rw [if_neg (by rw [h9];exact Bool.false_ne_true)] at hr
                  repeat (first|with_reducible refine mv ?_|((with_reducible apply TX.cond_false);(focus rfl);(focus ((simp only [z1,h9];done)))))
                  cases hr
                  refine ⟨rfl,?_⟩
                  exact Wk.ren [] rfl .nil (by (repeat (first|exact RNs.nil|refine RNs.cons .junk ?_)))
              · intro e h;rcases e with _|e<;>cases h
              · try dsimp only
                rcases v8 with _|_
                · try dsimp only at hr
                  try dsimp only
                  repeat (first|with_reducible refine mv ?_)
                  cases hr
                  refine ⟨.inr rfl,_,(by simp only [];exact rfl),?_⟩
                  exact Wk.ren [] rfl .nil (by (repeat (first|exact RNs.nil|refine RNs.cons (.keep rfl rfl) ?_)))
                · try dsimp only at hr
                  try dsimp only
                  repeat (first|(with_reducible first|refine mv ?_|refine TO.nil ?_)|((with_reducible apply TO.asg);(repeat (focus (show _ = _;first|exact k2 rfl|(simp only [zz]<;>exact rfl))));(with_reducible apply TO.here))|((with_reducible apply TX.region);(focus (simp only []<;>exact rfl));(focus rfl);(try dsimp only)))
                  cases hr
                  refine ⟨.inr rfl,_,(by simp only [];exact rfl),?_⟩
                  exact Wk.ren [] rfl .nil (by (repeat (first|exact RNs.nil|refine RNs.cons (.keep rfl rfl) ?_)))
              · try dsimp only
                exact Wk.ren [] rfl .nil (by (repeat (first|exact RNs.nil|refine RNs.cons .junk ?_|refine RNs.cons (.keep rfl rfl) ?_)))
    · rw [if_neg (by rw [h1];exact Bool.false_ne_true)] at hr
      repeat (first|((with_reducible first|apply TO.pk|apply TO.mv|apply TO.fa|apply TO.ld|apply TO.len|apply TO.bin);(repeat (focus (show _ = _;first|exact k2 rfl|(simp only [zz,y1,Nat.reduceAdd,tfieldAddr,tload,rowOf,partT,tlen,h1]<;>exact rfl)|exact rfl)));(with_reducible apply TO.here))|((with_reducible apply TO.skip1);(repeat (focus (show _ = _;(simp only [zz,twant,zp,zs,h1]<;>exact rfl))));(with_reducible apply TO.here)))
      rcases Bool.eq_false_or_eq_true ((decide ((v1.length : Int) > 14))) with h13|h13
      · rw [if_pos h13] at hr
        repeat (first|(with_reducible first|refine mv ?_|refine TO.nil ?_)|((with_reducible first|apply TO.pk|apply TO.mv|apply TO.asg);(repeat (focus (show _ = _;first|exact k2 rfl|(simp only [zz]<;>exact rfl))));(with_reducible apply TO.here))|((with_reducible apply TO.skip1);(repeat (focus (show _ = _;(simp only [zz,twant,zp,zs,h13]<;>exact rfl))));(with_reducible apply TO.here))|((with_reducible apply TX.region);(focus (simp only []<;>exact rfl));(focus rfl);(try dsimp only))|((with_reducible apply TX.cond_true);(focus rfl);(focus (rfl))))
        cases hr
        refine ⟨.inr rfl,_,(by simp only [];exact rfl),?_⟩
        exact Wk.ren [] rfl .nil (by (repeat (first|exact RNs.nil|refine RNs.cons (.keep rfl rfl) ?_)))
      · rw [if_neg (by rw [h13];exact Bool.false_ne_true)] at hr
        repeat (first|((with_reducible first|apply TO.fa|apply TO.ld|apply TO.len|apply TO.bin|apply TO.pk|apply TO.mv);(repeat (focus (show _ = _;first|exact k2 rfl|(simp only [zz,y1,Nat.reduceAdd,tfieldAddr,tload,rowOf,partT,tlen,h13]<;>exact rfl)|exact rfl)));(with_reducible apply TO.here)))
        rcases Bool.eq_false_or_eq_true ((decide ((v2.length : Int) > 16))) with h14|h14
        · rw [if_pos h14] at hr
          repeat (first|(with_reducible first|refine mv ?_|refine TO.nil ?_)|((with_reducible first|apply TO.pk|apply TO.asg);(repeat (focus (show _ = _;first|exact k2 rfl|(simp only [zz]<;>exact rfl))));(with_reducible apply TO.here))|((with_reducible apply TO.skip1);(repeat (focus (show _ = _;(simp only [zz,twant,zp,zs,h14]<;>exact rfl))));(with_reducible apply TO.here))|((with_reducible apply TX.region);(focus (simp only []<;>exact rfl));(focus rfl);(try dsimp only))|((with_reducible apply TX.cond_true);(focus rfl);(focus (rfl))))
          cases hr
          refine ⟨.inr rfl,_,(by simp only [];exact rfl),?_⟩
          exact Wk.ren [] rfl .nil (by (repeat (first|exact RNs.nil|refine RNs.cons (.keep rfl rfl) ?_)))
        · rw [if_neg (by rw [h14];exact Bool.false_ne_true)] at hr
          repeat (first|(with_reducible first|refine mv ?_|refine TO.nil ?_)|((with_reducible first|apply TO.mv|apply TO.len|apply TO.bin|apply TO.pk);(repeat (focus (show _ = _;first|exact k2 rfl|(simp only [zz,y1,tlen,h14]<;>exact rfl))));(with_reducible apply TO.here)))
          rcases Bool.eq_false_or_eq_true ((decide ((v3.length : Int) > 16))) with h15|h15
          · rw [if_pos h15] at hr
            repeat (first|(with_reducible first|refine mv ?_|refine TO.nil ?_)|((with_reducible apply TO.asg);(repeat (focus (show _ = _;first|exact k2 rfl|(simp only [zz,h15]<;>exact rfl))));(with_reducible apply TO.here))|((with_reducible apply TX.region);(focus (simp only []<;>exact rfl));(focus rfl);(try dsimp only))|((with_reducible apply TX.cond_true);(focus rfl);(focus ((simp only [z1,h15];done)))))
            cases hr
            refine ⟨.inr rfl,_,(by simp only [];exact rfl),?_⟩
            exact Wk.ren [] rfl .nil (by (repeat (first|exact RNs.nil|refine RNs.cons (.keep rfl rfl) ?_)))
          · rw [if_neg (by rw [h15];exact Bool.false_ne_true)] at hr
            repeat (first|(with_reducible first|refine mv ?_|refine TO.nil ?_)|((with_reducible apply TO.asg);(repeat (focus (show _ = _;first|exact k2 rfl|(simp only [zz,h15]<;>exact rfl))));(with_reducible apply TO.here))|((with_reducible apply TX.region);(focus (simp only []<;>exact rfl));(focus rfl);(try dsimp only))|((with_reducible apply TX.cond_false);(focus rfl);(focus ((simp only [z1,h15];done)))))
            obtain ⟨v12,h22,hr⟩:=Option.bind_eq_some_iff.1 hr
            refine TX.loopE (step:=law03_patches_l2 v1) (x:=0) h22 (fun v9=>⟨.junk :: .junk :: .fptr true [.list 1 (v1.map e_Li_),.list 1 (v2.map e_i)] 0 :: .junk :: .junk :: .v (.int .i64 v9) :: .junk :: .junk :: .junk :: .junk :: .junk :: .junk :: .junk :: .junk :: .junk :: .junk :: .junk :: .junk :: .junk :: .junk :: .junk :: .junk :: .junk :: .junk :: .junk :: .junk :: .junk :: .junk :: .junk :: .junk :: .junk :: .junk :: .junk :: .junk :: .junk :: .junk :: .junk :: .junk :: .junk :: .junk :: .junk :: .junk :: .junk :: .junk :: .junk :: .junk :: .junk :: [],[]⟩) (fun e=>match e with|(.inl _)=>(.ret,⟨.junk :: .junk :: .junk :: .junk :: .v (.bool false) :: .junk :: .junk :: .junk :: .junk :: .junk :: .junk :: .junk :: .junk :: .junk :: .junk :: .junk :: .junk :: .junk :: .junk :: .junk :: .junk :: .junk :: .junk :: .junk :: .junk :: .junk :: .junk :: .junk :: .junk :: .junk :: .junk :: .junk :: .junk :: .junk :: .junk :: .junk :: .junk :: .junk :: .junk :: .junk :: .junk :: .junk :: .junk :: .junk :: .junk :: .junk :: .junk :: [],[]⟩)|(.inr _)=>(.exit 0,⟨.junk :: .junk :: .junk :: .junk :: .junk :: .junk :: .junk :: .junk :: .junk :: .junk :: .junk :: .junk :: .junk :: .junk :: .junk :: .junk :: .junk :: .junk :: .junk :: .junk :: .junk :: .junk :: .junk :: .junk :: .junk :: .junk :: .junk :: .junk :: .junk :: .junk :: .junk :: .junk :: .junk :: .junk :: .junk :: .junk :: .junk :: .junk :: .junk :: .junk :: .junk :: .junk :: .junk :: .junk :: .junk :: .junk :: .junk :: [],[]⟩)) ?_ ?_ ?_ ?_
            · rintro v9 v0 hr
              dsimp only [law03_patches_l2] at hr
              try dsimp only
              repeat (first|(with_reducible first|refine mv ?_|refine TO.nil ?_)|((with_reducible first|apply TO.mv|apply TO.fa|apply TO.ld|apply TO.len|apply TO.bin);(repeat (focus (show _ = _;first|exact k2 rfl|(simp only [zz,y1,Nat.reduceAdd,tfieldAddr,tload,rowOf,partT,tlen]<;>exact rfl)|exact rfl)));(with_reducible apply TO.here))|((with_reducible apply TX.region);(focus (simp only []<;>exact rfl));(focus rfl);(try dsimp only)))
              rcases Bool.eq_false_or_eq_true ((decide (v9 < (v1.length : Int)))) with h19|h19
              · rw [if_pos h19] at hr
                repeat (first|with_reducible refine mv ?_|((with_reducible first|apply TO.fa|apply TO.ld|apply TO.mv);(repeat (focus (show _ = _;first|exact k2 rfl|(simp only [zz,y1,Nat.reduceAdd,tfieldAddr,tload,rowOf,partT,h19]<;>exact rfl)|exact rfl)));(with_reducible apply TO.here))|((with_reducible apply TX.region);(focus (simp only []<;>exact rfl));(focus rfl);(try dsimp only))|((with_reducible apply TX.cond_true);(focus rfl);(focus ((simp only [z1,h19];done)))))
                obtain ⟨v11,h20,hr⟩:=Option.bind_eq_some_iff.1 hr
                try dsimp only at hr
                have h20m:=tidx_map (f:=e_Li_) h20
                have h20l:=getI_lt h20
                try simp only [List.length_set] at h20l
                have h20a:=getI_at h20
                repeat (first|(with_reducible first|refine mv ?_|refine TO.nil ?_)|((with_reducible first|apply TO.ia|apply TO.ld|apply TO.len|apply TO.bin);(repeat (focus (show _ = _;first|exact k2 rfl|(simp only [zz,y1,e_Li_,tindexAddr,tload,rowOf,partT,tlen,h20m]<;>exact rfl)|exact rfl)));(with_reducible apply TO.here)))
                rcases Bool.eq_false_or_eq_true ((decide ((v11.length : Int) > 16))) with h21|h21
                · rw [if_pos h21] at hr
                  repeat (first|(with_reducible first|refine mv ?_|refine TO.nil ?_)|((with_reducible apply TO.asg);(repeat (focus (show _ = _;first|exact k2 rfl|(simp only [zz,h21]<;>exact rfl))));(with_reducible apply TO.here))|((with_reducible apply TX.region);(focus (simp only []<;>exact rfl));(focus rfl);(try dsimp only))|((with_reducible apply TX.cond_true);(focus rfl);(focus ((simp only [z1,h21];done)))))
                  cases hr
                  refine ⟨rfl,?_⟩
                  exact Wk.ren [] rfl .nil (by (repeat (first|exact RNs.nil|refine RNs.cons .junk ?_|refine RNs.cons (.keep rfl rfl) ?_)))
                · rw [if_neg (by rw [h21];exact Bool.false_ne_true)] at hr
                  repeat (first|(with_reducible first|refine mv ?_|refine TO.nil ?_)|((with_reducible first|apply TO.mv|apply TO.bin|apply TO.asg);(repeat (focus (show _ = _;first|exact k2 rfl|(simp only [zz,h21]<;>exact rfl))));(with_reducible apply TO.here))|((with_reducible apply TX.region);(focus (simp only []<;>exact rfl));(focus rfl);(try dsimp only))|((with_reducible apply TX.cond_false);(focus rfl);(focus ((simp only [z1,h21];done)))))
                  cases hr
                  refine ⟨rfl,?_⟩
                  exact Wk.ren [] rfl .nil (by (repeat (first|exact RNs.nil|refine RNs.cons .junk ?_|refine RNs.cons (.keep rfl rfl) ?_)))
              · rw [if_neg (by rw [h19];exact Bool.false_ne_true)] at hr
                repeat (first|with_reducible refine mv ?_|((with_reducible apply TX.cond_false);(focus rfl);(focus ((simp only [z1,h19];done)))))
                cases hr
                refine ⟨rfl,?_⟩
                exact Wk.ren [] rfl .nil (by (repeat (first|exact RNs.nil|refine RNs.cons .junk ?_)))
            · intro e h;rcases e with _|e<;>cases h
            · try dsimp only
              rcases v12 with _|_
              · try dsimp only at hr
                try dsimp only
                repeat (first|with_reducible refine mv ?_)
                cases hr
                refine ⟨.inr rfl,_,(by simp only [];exact rfl),?_⟩
                exact Wk.ren [] rfl .nil (by (repeat (first|exact RNs.nil|refine RNs.cons (.keep rfl rfl) ?_)))
              · try dsimp only at hr
                try dsimp only
                repeat (first|(with_reducible first|refine mv ?_|refine TO.nil ?_)|((with_reducible apply TO.asg);(repeat (focus (show _ = _;first|exact k2 rfl|(simp only [zz]<;>exact rfl))));(with_reducible apply TO.here))|((with_reducible apply TX.region);(focus (simp only []<;>exact rfl));(focus rfl);(try dsimp only)))
                cases hr
                refine ⟨.inr rfl,_,(by simp only [];exact rfl),?_⟩
                exact Wk.ren [] rfl .nil (by (repeat (first|exact RNs.nil|refine RNs.cons (.keep rfl rfl) ?_)))
            · try dsimp only
              exact Wk.ren [] rfl .nil (by (repeat (first|exact RNs.nil|refine RNs.cons .junk ?_|refine RNs.cons (.keep rfl rfl) ?_)))
  rfl

end Go.Rex

namespace Go.Rex
open Go.Proofs
open Go Go.Rex Go.RowKit
set_option maxRecDepth 100000
set_option maxHeartbeats 200000
def y2:=an @by3 <| an @cs3 <| an @ni44 <| an @so44 <| @zc3
theorem base_CopyInts_spec {v1 : (List Int)} {v2 : (List Int)} (hr : base_CopyInts v1 = some (v2)) : Spec (lim Tryz.prog) 23 [.list 1 (v1.map e_i)] ⟨[.lsl 0 0 v2.length],[.rows 1 (v2.map e_i)]⟩:=by
  unfold base_CopyInts at hr
  apply Spec.fn Tryz.func23 rfl
  focus (simp [Tryz.f23]<;>exact rfl)
  focus
    repeat (first|(with_reducible first|refine mv ?_|refine TO.nil ?_)|((with_reducible apply TO.asg);(repeat (focus (show _ = _;first|exact k2 rfl|(simp only [zz]<;>exact rfl))));(with_reducible apply TO.here))|((with_reducible apply TX.region);(focus (simp only []<;>exact rfl));(focus rfl);(try dsimp only)))
    apply TO.bl e_i ([] : List Int) (by first|rfl|(simp only [twant,z1,z7]<;>rfl)) rfl (by simp only [zz,y2,Nat.reduceAdd,Nat.reduceMul,tslice,tparts];exact rfl) rfl rfl
    (repeat (focus (show _ = _;(simp only [zz]<;>exact rfl))))
    with_reducible apply TO.here
    repeat (first|((with_reducible apply TO.mv);(repeat (focus (show _ = _;first|exact k2 rfl|(simp only [zz]<;>exact rfl))));(with_reducible apply TO.here)))
    obtain ⟨v3,h1,hr⟩:=Option.bind_eq_some_iff.1 hr
    try dsimp only at hr
    apply TO.ap (f:=e_i) (xs:=([] : List Int)) (ys:=v1) (by first|rfl|(simp only [twant,z1,z7]<;>rfl)) rfl rfl (by first|rfl|simp only [List.length_set]) rfl rfl so44 ni44 zc3 rfl (by rw [by3];exact h1) (fun _=>⟨rfl,rfl,rfl⟩)
    (repeat (focus (show _ = _;(simp only [zz,Nat.reduceAdd,kill,killB]<;>exact rfl))))
    with_reducible apply TO.here
    repeat (first|(with_reducible first|refine mv ?_|refine TO.nil ?_)|((with_reducible apply TO.asg);(repeat (focus (show _ = _;first|exact k2 rfl|(simp only [zz]<;>exact rfl))));(with_reducible apply TO.here)))
    cases hr
    refine ⟨.inr rfl,_,(by simp only [];exact rfl),?_⟩
    exact wr [some 0] rfl (.rows .nil rfl rfl)
  rfl

end Go.Rex

namespace Go.Rex
open Go.Proofs
open Go Go.Rex Go.RowKit
set_option maxRecDepth 100000
set_option maxHeartbeats 200000
def y3:=an @ag44 <| an @by44 <| an @cs44 <| an @ni43 <| an @ok44 <| an @so43 <| an @zc44 <| @wi64_0a1
theorem base_CopyLists_spec {v1 : (List (List Int))} {v2 : (List (List Int))} (hr : base_CopyLists v1 = some (v2)) : Spec (lim Tryz.prog) 58 [.list 1 (v1.map e_Li_)] ⟨[.lsl 0 0 v2.length],[.rows 1 (v2.map e_Li_)]⟩:=by
  unfold base_CopyLists at hr
  apply Spec.fn Tryz.func58 rfl
  focus (simp [Tryz.f58]<;>exact rfl)
  focus
    repeat (first|(with_reducible first|refine mv ?_|refine TO.nil ?_)|((with_reducible apply TO.asg);(repeat (focus (show _ = _;first|exact k2 rfl|(simp only [zz]<;>exact rfl))));(with_reducible apply TO.here))|((with_reducible apply TX.region);(focus (simp only []<;>exact rfl));(focus rfl);(try dsimp only)))
    apply TX.vt (α:=(List Int)) e_Li_ 3 1 rfl
    (repeat (focus (show _ = _;(simp only [zz]<;>exact rfl))))
    with_reducible apply TX.here
    obtain ⟨v12,h9,hr⟩:=Option.bind_eq_some_iff.1 hr
    try dsimp only at hr
    refine TX.loopE (step:=base_CopyLists_l1 v1) (x:=(([] : List (List Int)),0)) h9 (fun (v3,v4)=>⟨.list 1 (v1.map e_Li_) :: .junk :: .junk :: .lsl 0 0 v3.length :: .v (.int .i64 v4) :: .junk :: .junk :: .junk :: .junk :: .junk :: .junk :: .junk :: .junk :: .junk :: .junk :: .junk :: .junk :: .junk :: .junk :: .junk :: [],[.rows 1 (v3.map e_Li_)]⟩) (fun v8=>(.exit 0,⟨.junk :: .junk :: .junk :: .lsl 0 0 v8.length :: .junk :: .junk :: .junk :: .junk :: .junk :: .junk :: .junk :: .junk :: .junk :: .junk :: .junk :: .junk :: .junk :: .junk :: .junk :: .junk :: [],[.rows 1 (v8.map e_Li_)]⟩)) ?_ ?_ ?_ ?_
    · rintro ⟨v3,v4⟩ v0 hr
      dsimp only [base_CopyLists_l1] at hr
      try dsimp only
      repeat (first|(with_reducible first|refine mv ?_|refine TO.nil ?_)|((with_reducible first|apply TO.mv|apply TO.len|apply TO.bin);(repeat (focus (show _ = _;first|exact k2 rfl|(simp only [zz,y3,tlen]<;>exact rfl))));(with_reducible apply TO.here))|((with_reducible apply TX.region);(focus (simp only []<;>exact rfl));(focus rfl);(try dsimp only)))
      rcases Bool.eq_false_or_eq_true ((decide (v4 < (v1.length : Int)))) with h5|h5
      · rw [if_pos h5] at hr
        repeat (first|with_reducible refine mv ?_|((with_reducible apply TO.mv);(repeat (focus (show _ = _;first|exact k2 rfl|(simp only [zz,h5]<;>exact rfl))));(with_reducible apply TO.here))|((with_reducible apply TX.region);(focus (simp only []<;>exact rfl));(focus rfl);(try dsimp only))|((with_reducible apply TX.cond_true);(focus rfl);(focus ((simp only [z1,h5];done)))))
        obtain ⟨v9,h6,hr⟩:=Option.bind_eq_some_iff.1 hr
        try dsimp only at hr
        have h6m:=tidx_map (f:=e_Li_) h6
        have h6l:=getI_lt h6
        try simp only [List.length_set] at h6l
        have h6a:=getI_at h6
        repeat (first|((with_reducible first|apply TO.ia|apply TO.ld);(repeat (focus (show _ = _;first|exact k2 rfl|(simp only [zz,y3,e_Li_,tindexAddr,tload,rowOf,partT,h6m]<;>exact rfl)|exact rfl)));(with_reducible apply TO.here)))
        obtain ⟨v10,h7,hr⟩:=Option.bind_eq_some_iff.1 hr
        try dsimp only at hr
        apply TO.cal (by first|rfl|(simp only [twant,z1,z7,h5,h6m,h6l,h6a]<;>rfl)) rfl goFn23 (base_CopyInts_spec h7) rfl rfl rfl
        (repeat (focus (show _ = _;(simp only [zz,Nat.reduceAdd,shift]<;>exact rfl))))
        with_reducible apply TO.here
        apply TO.frz 1 rfl rfl
        (repeat (focus (show _ = _;(simp only [zz,Nat.reduceEqDiff,frz,frzB,tmlc]<;>exact rfl))))
        with_reducible apply TO.here
        apply TO.bm e_Li_ ([v10] : List (List Int)) (by first|rfl|(simp only [twant,z1,z7,h5,h6m,h6l,h6a]<;>rfl)) rfl (by simp only [zz,y3,e_Li_,Nat.reduceAdd,Nat.reduceMul,tslice,tparts];exact rfl) rfl
        (repeat (focus (show _ = _;(simp only [zz,e_Li_]<;>exact rfl))))
        with_reducible apply TO.here
        obtain ⟨v11,h8,hr⟩:=Option.bind_eq_some_iff.1 hr
        try dsimp only at hr
        apply TO.ap (f:=e_Li_) (xs:=v3) (ys:=([v10] : List (List Int))) (by first|rfl|(simp only [twant,z1,z7,h5,h6m,h6l,h6a]<;>rfl)) rfl rfl (by first|rfl|simp only [List.length_set]) rfl rfl so43 ni43 zc44 rfl (by rw [by44];exact h8) (fun _=>⟨rfl,rfl,rfl⟩)
        (repeat (focus (show _ = _;(simp only [zz,Nat.reduceAdd,kill,killB]<;>exact rfl))))
        with_reducible apply TO.here
        repeat (first|(with_reducible first|refine mv ?_|refine TO.nil ?_)|((with_reducible first|apply TO.asg|apply TO.mv|apply TO.bin);(repeat (focus (show _ = _;first|exact k2 rfl|(simp only [zz]<;>exact rfl))));(with_reducible apply TO.here))|((with_reducible apply TX.region);(focus (simp only []<;>exact rfl));(focus rfl);(try dsimp only)))
        cases hr
        refine ⟨rfl,?_⟩
        exact Wk.ren [some 0] rfl (.rows .nil rfl rfl) (by (repeat (first|exact RNs.nil|refine RNs.cons .junk ?_|refine RNs.cons (.keep rfl rfl) ?_|refine RNs.cons (.lsl rfl rfl) ?_)))
      · rw [if_neg (by rw [h5];exact Bool.false_ne_true)] at hr
        repeat (first|with_reducible refine mv ?_|((with_reducible apply TX.cond_false);(focus rfl);(focus ((simp only [z1,h5];done)))))
        cases hr
        refine ⟨rfl,?_⟩
        exact Wk.ren [some 0] rfl (.rows .nil rfl rfl) (by (repeat (first|exact RNs.nil|refine RNs.cons .junk ?_|refine RNs.cons (.lsl rfl rfl) ?_)))
    · intro e h;cases h
    · try dsimp only
      repeat (first|(with_reducible first|refine mv ?_|refine TO.nil ?_)|((with_reducible first|apply TO.mv|apply TO.asg);(repeat (focus (show _ = _;first|exact k2 rfl|(simp only [zz]<;>exact rfl))));(with_reducible apply TO.here))|((with_reducible apply TX.region);(focus (simp only []<;>exact rfl));(focus rfl);(try dsimp only)))
      cases hr
      refine ⟨.inr rfl,_,(by simp only [];exact rfl),?_⟩
      exact wr [some 0] rfl (.rows .nil rfl rfl)
    · try dsimp only
      exact wr [some 0] rfl (.rows .nil rfl rfl)
  rfl

end Go.Rex

namespace Go.Rex
open Go.Proofs
open Go Go.Rex Go.RowKit
set_option maxRecDepth 100000
set_option maxHeartbeats 200000
def y4:=an @ag43 <| an @ag44 <| an @ag46 <| an @cs46 <| an @fd46_0 <| an @fd46_1 <| an @ok46 <| an @st46 <| @zc46
theorem ref03_CopyExchange_spec {v1 : (List (List Int))} {v2 : (List Int)} {v3 : (List (List Int))} {v4 : (List Int)} (hr : ref03_CopyExchange v1 v2 = some (v3,v4)) : Spec (lim Tryz.prog) 21 [.agg [.list 1 (v1.map e_Li_),.list 1 (v2.map e_i)]] ⟨[.agg [.lsl 0 0 v3.length,.lsl 1 0 v4.length]],[.rows 1 (v3.map e_Li_),.rows 1 (v4.map e_i)]⟩:=by
  unfold ref03_CopyExchange at hr
  apply Spec.fn Tryz.func21 rfl
  focus (simp [Tryz.f21]<;>exact rfl)
  focus
    repeat (first|(with_reducible first|refine mv ?_|refine TO.nil ?_)|((with_reducible first|apply TO.bf|apply TO.al);(repeat (focus (show _ = _;first|exact k1 rfl|exact k2 rfl|(simp only [zz,y4]<;>exact rfl)|exact rfl)));(with_reducible apply TO.here))|((with_reducible apply TX.region);(focus (simp only []<;>exact rfl));(focus rfl);(try dsimp only))|((with_reducible first|apply TD.fa|apply TD.ld);(repeat (focus (show _ = _;first|exact k2 rfl|(simp only [zz,y4,Nat.reduceAdd,tfieldAddr,tload,rowOf,partT]<;>exact rfl)|exact rfl)));(with_reducible refine TD.here ?_))|((with_reducible apply TX.drawn);(focus decide +kernel);(focus (simp only []<;>exact rfl));(focus exact rfl);(try dsimp only)))
    obtain ⟨v5,h1,hr⟩:=Option.bind_eq_some_iff.1 hr
    try dsimp only at hr
    first|apply TD.cal (by first|rfl|(simp only [twant,z1,z7]<;>rfl)) rfl goFn58 (base_CopyLists_spec h1) rfl rfl rfl|apply TD.calw (by first|rfl|(simp only [twant,z1,z7]<;>rfl)) rfl goFn58 (base_CopyLists_spec h1) rfl rfl rfl rfl
    (repeat (focus (show _ = _;(simp only [zz,Nat.reduceAdd,shift]<;>exact rfl))))
    with_reducible apply TD.here
    repeat (first|((with_reducible first|apply TD.fa|apply TD.ld);(repeat (focus (show _ = _;first|exact k2 rfl|(simp only [zz,y4,Nat.reduceAdd,tfieldAddr,tload,rowOf,partT]<;>exact rfl)|exact rfl)));(with_reducible refine TD.here ?_)))
    obtain ⟨v6,h2,hr⟩:=Option.bind_eq_some_iff.1 hr
    try dsimp only at hr
    first|apply TD.cal (by first|rfl|(simp only [twant,z1,z7]<;>rfl)) rfl goFn23 (base_CopyInts_spec h2) rfl rfl rfl|apply TD.calw (by first|rfl|(simp only [twant,z1,z7]<;>rfl)) rfl goFn23 (base_CopyInts_spec h2) rfl rfl rfl rfl
    (repeat (focus (show _ = _;(simp only [zz,Nat.reduceAdd,shift]<;>exact rfl))))
    with_reducible apply TD.here
    repeat (first|(with_reducible first|refine mv ?_|refine TD.nil ?_)|((with_reducible first|apply TD.bld|apply TD.sv);(repeat (focus (show _ = _;first|exact k1 rfl|exact k2 rfl|(simp only [zz,y4,Nat.reduceAdd,Nat.reduceLeDiff,tbuild,tfill]<;>exact rfl))));(with_reducible refine TD.here ?_)))
    cases hr
    refine ⟨.inr rfl,_,(by simp only [];exact rfl),?_⟩
    exact wr [some 1,some 2] rfl (.rows (.rows .nil rfl rfl) rfl rfl)
  rfl

end Go.Rex

namespace Go.Rex
open Go.Proofs
open Go Go.Rex Go.RowKit
set_option maxRecDepth 100000
set_option maxHeartbeats 200000
theorem energy_refuse_spec {v1 : Bool} {v2 : Int} {v3 : Bool} {v4 : Int} (hr : energy_refuse v1 v2 = some (v3,v4)) : Spec (lim Tryz.prog) 50 [.v (.bool v1),.v (.int .i64 v2)] ⟨[.func 85 [] [.fptr true [.v (.bool v3)] 0,.fptr true [.v (.int .i64 v4)] 0]],[]⟩:=by
  unfold energy_refuse at hr
  apply Spec.fn Tryz.func50 rfl
  focus (simp [Tryz.f50]<;>exact rfl)
  focus
    repeat (first|(with_reducible first|refine mv ?_|refine TO.nil ?_)|((with_reducible first|apply TO.bf|apply TO.asg|apply TO.mf);(repeat (focus (show _ = _;first|exact k1 rfl|exact k2 rfl|(simp only [zz]<;>exact rfl)|exact rfl)));(with_reducible apply TO.here))|((with_reducible apply TX.region);(focus (simp only []<;>exact rfl));(focus rfl);(try dsimp only)))
    cases hr
    refine ⟨.inr rfl,_,(by simp only [];exact rfl),?_⟩
    exact wr [] rfl .nil
  rfl

end Go.Rex

namespace Go.Rex
open Go.Proofs
open Go Go.Rex Go.RowKit
set_option maxRecDepth 100000
set_option maxHeartbeats 200000
def y5:=an @ag25 <| @ag4
theorem energy_refuse_c1_11f9_spec {v1 : Bool} {v2 : Int} {v3 : Int} (hr : energy_refuse_c1_11f9 v1 v2 = some (v3)) : Spec (lim Tryz.prog) 85 [.fptr true [.v (.bool v1)] 0,.fptr true [.v (.int .i64 v2)] 0] ⟨[.v (.int .i64 v3)],[]⟩:=by
  unfold energy_refuse_c1_11f9 at hr
  apply Spec.fn Tryz.func85 rfl
  focus (simp [Tryz.f85]<;>exact rfl)
  focus
    repeat (first|(with_reducible first|refine mv ?_|refine TO.nil ?_)|((with_reducible first|apply TO.asg|apply TO.ld);(repeat (focus (show _ = _;first|exact k2 rfl|(simp only [zz,y5,tload,rowOf,partT]<;>exact rfl)|exact rfl)));(with_reducible apply TO.here))|((with_reducible apply TX.region);(focus (simp only []<;>exact rfl));(focus rfl);(try dsimp only)))
    rcases Bool.eq_false_or_eq_true (v1) with h1|h1
    · rw [if_pos h1] at hr
      repeat (first|(with_reducible first|refine mv ?_|refine TO.nil ?_)|((with_reducible first|apply TO.ld|apply TO.asg);(repeat (focus (show _ = _;first|exact k2 rfl|(simp only [zz,y5,tload,rowOf,partT,h1]<;>exact rfl)|exact rfl)));(with_reducible apply TO.here))|((with_reducible apply TX.region);(focus (simp only []<;>exact rfl));(focus rfl);(try dsimp only))|((with_reducible apply TX.cond_true);(focus rfl);(focus ((simp only [z1,h1];done)))))
      cases hr
      refine ⟨.inr rfl,_,(by simp only [];exact rfl),?_⟩
      exact Wk.ren [] rfl .nil (by (repeat (first|exact RNs.nil|refine RNs.cons (.keep rfl rfl) ?_)))
    · rw [if_neg (by rw [h1];exact Bool.false_ne_true)] at hr
      repeat (first|(with_reducible first|refine mv ?_|refine TO.nil ?_)|((with_reducible apply TO.asg);(repeat (focus (show _ = _;first|exact k2 rfl|(simp only [zz,h1]<;>exact rfl))));(with_reducible apply TO.here))|((with_reducible apply TX.region);(focus (simp only []<;>exact rfl));(focus rfl);(try dsimp only))|((with_reducible apply TX.cond_false);(focus rfl);(focus ((simp only [z1,h1];done)))))
      cases hr
      refine ⟨.inr rfl,_,(by simp only [];exact rfl),?_⟩
      exact Wk.ren [] rfl .nil (by (repeat (first|exact RNs.nil|refine RNs.cons (.keep rfl rfl) ?_)))
  rfl

end Go.Rex

namespace Go.Rex
open Go.Proofs
open Go Go.Rex Go.RowKit
set_option maxRecDepth 100000
set_option maxHeartbeats 200000
def y6:=an @ag95 <| an @cs95 <| an @ok95 <| an @so136 <| an @wi64_0a1 <| an @wi64_1a1 <| @wi64_2a1
theorem energy_firstError_b825_spec {v1 : Bool} {v2 : Int} {v3 : Bool} {v4 : Int} {v5 : Bool} {v6 : Int} {v7 : Int} (hr : energy_firstError_b825 v1 v2 v3 v4 v5 v6 = some (v7)) : Spec (lim Tryz.prog) 48 [.list 1 [[.func 85 [] [.fptr true [.v (.bool v1)] 0,.fptr true [.v (.int .i64 v2)] 0]],[.func 85 [] [.fptr true [.v (.bool v3)] 0,.fptr true [.v (.int .i64 v4)] 0]],[.func 85 [] [.fptr true [.v (.bool v5)] 0,.fptr true [.v (.int .i64 v6)] 0]]]] ⟨[.v (.int .i64 v7)],[]⟩:=by
  unfold energy_firstError_b825 at hr
  apply Spec.fn Tryz.func48 rfl
  focus (simp [Tryz.f48]<;>exact rfl)
  focus
    repeat (first|(with_reducible first|refine mv ?_|refine TO.nil ?_)|((with_reducible first|apply TO.asg|apply TO.mv|apply TO.len);(repeat (focus (show _ = _;first|exact k2 rfl|(simp only [zz,y6,Nat.reduceAdd,tlen]<;>exact rfl))));(with_reducible apply TO.here))|((with_reducible apply TX.region);(focus (simp only []<;>exact rfl));(focus rfl);(try dsimp only)))
    refine TX.unroll ?_
    repeat (first|(with_reducible first|refine mv ?_|refine TO.nil ?_)|((with_reducible first|apply TO.bin|apply TO.ia|apply TO.ld|apply TO.asg|apply TO.mv);(repeat (focus (show _ = _;first|exact k2 rfl|(simp only [zz,y6,tindexAddr,z5,Int.reduceLT,Int.cast_ofNat_Int,tload,rowOf,partT]<;>exact rfl)|exact rfl)));(with_reducible apply TO.here))|((with_reducible apply TX.region);(focus (simp only []<;>exact rfl));(focus rfl);(try dsimp only))|((with_reducible apply TX.cond_true);(focus rfl);(focus (rfl))))
    obtain ⟨v8,h1,hr⟩:=Option.bind_eq_some_iff.1 hr
    try dsimp only at hr
    apply TO.cal (by first|rfl|(simp only [twant,z1,z7]<;>rfl)) rfl goFn85 (energy_refuse_c1_11f9_spec h1) rfl rfl rfl
    (repeat (focus (show _ = _;(simp only [zz,shift]<;>exact rfl))))
    with_reducible apply TO.here
    repeat (first|(with_reducible first|refine mv ?_|refine TO.nil ?_)|((with_reducible first|apply TO.asg|apply TO.mv|apply TO.bin);(repeat (focus (show _ = _;first|exact k2 rfl|(simp only [zz]<;>exact rfl))));(with_reducible apply TO.here))|((with_reducible apply TX.region);(focus (simp only []<;>exact rfl));(focus rfl);(try dsimp only)))
    rcases Bool.eq_false_or_eq_true ((decide (v8 ≠ 0))) with h2|h2
    · rw [if_pos h2] at hr
      repeat (first|(with_reducible first|refine mv ?_|refine TO.nil ?_)|((with_reducible first|apply TO.mv|apply TO.asg);(repeat (focus (show _ = _;first|exact k2 rfl|(simp only [zz,h2]<;>exact rfl))));(with_reducible apply TO.here))|((with_reducible apply TX.region);(focus (simp only []<;>exact rfl));(focus rfl);(try dsimp only))|((with_reducible apply TX.cond_true);(focus rfl);(focus ((simp only [z1,h2];done)))))
      cases hr
      refine ⟨.inr rfl,_,(by simp only [];exact rfl),?_⟩
      exact Wk.ren [] rfl .nil (by (repeat (first|exact RNs.nil|refine RNs.cons (.keep rfl rfl) ?_)))
    · rw [if_neg (by rw [h2];exact Bool.false_ne_true)] at hr
      repeat (first|(with_reducible first|refine mv ?_|refine TO.nil ?_)|((with_reducible first|apply TO.bin|apply TO.mv);(repeat (focus (show _ = _;first|exact k2 rfl|(simp only [zz,y6,h2]<;>exact rfl))));(with_reducible apply TO.here))|((with_reducible apply TX.region);(focus (simp only []<;>exact rfl));(focus rfl);(try dsimp only))|((with_reducible apply TX.cond_false);(focus rfl);(focus ((simp only [z1,h2];done)))))
      refine TX.unroll ?_
      repeat (first|(with_reducible first|refine mv ?_|refine TO.nil ?_)|((with_reducible first|apply TO.bin|apply TO.ia|apply TO.ld|apply TO.asg|apply TO.mv);(repeat (focus (show _ = _;first|exact k2 rfl|(simp only [zz,y6,tindexAddr,z5,Int.reduceLT,tload,rowOf,partT]<;>exact rfl)|exact rfl)));(with_reducible apply TO.here))|((with_reducible apply TX.region);(focus (simp only []<;>exact rfl));(focus rfl);(try dsimp only))|((with_reducible apply TX.cond_true);(focus rfl);(focus (rfl))))
      obtain ⟨v9,h3,hr⟩:=Option.bind_eq_some_iff.1 hr
      try dsimp only at hr
      apply TO.cal (by first|rfl|(simp only [twant,z1,z7,h2]<;>rfl)) rfl goFn85 (energy_refuse_c1_11f9_spec h3) rfl rfl rfl
      (repeat (focus (show _ = _;(simp only [zz,shift]<;>exact rfl))))
      with_reducible apply TO.here
      repeat (first|(with_reducible first|refine mv ?_|refine TO.nil ?_)|((with_reducible first|apply TO.asg|apply TO.mv|apply TO.bin);(repeat (focus (show _ = _;first|exact k2 rfl|(simp only [zz]<;>exact rfl))));(with_reducible apply TO.here))|((with_reducible apply TX.region);(focus (simp only []<;>exact rfl));(focus rfl);(try dsimp only)))
      rcases Bool.eq_false_or_eq_true ((decide (v9 ≠ 0))) with h4|h4
      · rw [if_pos h4] at hr
        repeat (first|(with_reducible first|refine mv ?_|refine TO.nil ?_)|((with_reducible first|apply TO.mv|apply TO.asg);(repeat (focus (show _ = _;first|exact k2 rfl|(simp only [zz,h4]<;>exact rfl))));(with_reducible apply TO.here))|((with_reducible apply TX.region);(focus (simp only []<;>exact rfl));(focus rfl);(try dsimp only))|((with_reducible apply TX.cond_true);(focus rfl);(focus ((simp only [z1,h4];done)))))
        cases hr
        refine ⟨.inr rfl,_,(by simp only [];exact rfl),?_⟩
        exact Wk.ren [] rfl .nil (by (repeat (first|exact RNs.nil|refine RNs.cons (.keep rfl rfl) ?_)))
      · rw [if_neg (by rw [h4];exact Bool.false_ne_true)] at hr
        repeat (first|(with_reducible first|refine mv ?_|refine TO.nil ?_)|((with_reducible first|apply TO.bin|apply TO.mv);(repeat (focus (show _ = _;first|exact k2 rfl|(simp only [zz,y6,h4]<;>exact rfl))));(with_reducible apply TO.here))|((with_reducible apply TX.region);(focus (simp only []<;>exact rfl));(focus rfl);(try dsimp only))|((with_reducible apply TX.cond_false);(focus rfl);(focus ((simp only [z1,h4];done)))))
        refine TX.unroll ?_
        repeat (first|(with_reducible first|refine mv ?_|refine TO.nil ?_)|((with_reducible first|apply TO.bin|apply TO.ia|apply TO.ld|apply TO.asg|apply TO.mv);(repeat (focus (show _ = _;first|exact k2 rfl|(simp only [zz,y6,tindexAddr,z5,Int.reduceLT,tload,rowOf,partT]<;>exact rfl)|exact rfl)));(with_reducible apply TO.here))|((with_reducible apply TX.region);(focus (simp only []<;>exact rfl));(focus rfl);(try dsimp only))|((with_reducible apply TX.cond_true);(focus rfl);(focus (rfl))))
        obtain ⟨v10,h5,hr⟩:=Option.bind_eq_some_iff.1 hr
        try dsimp only at hr
        apply TO.cal (by first|rfl|(simp only [twant,z1,z7,h2,h4]<;>rfl)) rfl goFn85 (energy_refuse_c1_11f9_spec h5) rfl rfl rfl
        (repeat (focus (show _ = _;(simp only [zz,shift]<;>exact rfl))))
        with_reducible apply TO.here
        repeat (first|(with_reducible first|refine mv ?_|refine TO.nil ?_)|((with_reducible first|apply TO.asg|apply TO.mv|apply TO.bin);(repeat (focus (show _ = _;first|exact k2 rfl|(simp only [zz]<;>exact rfl))));(with_reducible apply TO.here))|((with_reducible apply TX.region);(focus (simp only []<;>exact rfl));(focus rfl);(try dsimp only)))
        rcases Bool.eq_false_or_eq_true ((decide (v10 ≠ 0))) with h6|h6
        · rw [if_pos h6] at hr
          repeat (first|(with_reducible first|refine mv ?_|refine TO.nil ?_)|((with_reducible first|apply TO.mv|apply TO.asg);(repeat (focus (show _ = _;first|exact k2 rfl|(simp only [zz,h6]<;>exact rfl))));(with_reducible apply TO.here))|((with_reducible apply TX.region);(focus (simp only []<;>exact rfl));(focus rfl);(try dsimp only))|((with_reducible apply TX.cond_true);(focus rfl);(focus ((simp only [z1,h6];done)))))
          cases hr
          refine ⟨.inr rfl,_,(by simp only [];exact rfl),?_⟩
          exact Wk.ren [] rfl .nil (by (repeat (first|exact RNs.nil|refine RNs.cons (.keep rfl rfl) ?_)))
        · rw [if_neg (by rw [h6];exact Bool.false_ne_true)] at hr
          repeat (first|(with_reducible first|refine mv ?_|refine TO.nil ?_)|((with_reducible first|apply TO.bin|apply TO.mv);(repeat (focus (show _ = _;first|exact k2 rfl|(simp only [zz,y6,h6]<;>exact rfl))));(with_reducible apply TO.here))|((with_reducible apply TX.region);(focus (simp only []<;>exact rfl));(focus rfl);(try dsimp only))|((with_reducible apply TX.cond_false);(focus rfl);(focus ((simp only [z1,h6];done)))))
          refine TX.unroll ?_
          repeat (first|(with_reducible first|refine mv ?_|refine TO.nil ?_)|((with_reducible first|apply TO.bin|apply TO.asg);(repeat (focus (show _ = _;first|exact k2 rfl|(simp only [zz]<;>exact rfl))));(with_reducible apply TO.here))|((with_reducible apply TX.region);(focus (simp only []<;>exact rfl));(focus rfl);(try dsimp only))|((with_reducible apply TX.cond_false);(focus rfl);(focus (rfl))))
          cases hr
          refine ⟨.inr rfl,_,(by simp only [];exact rfl),?_⟩
          exact Wk.ren [] rfl .nil (by (repeat (first|exact RNs.nil|refine RNs.cons (.keep rfl rfl) ?_)))
  rfl

end Go.Rex

namespace Go.Rex
open Go.Proofs
open Go Go.Rex Go.RowKit
set_option maxRecDepth 100000
set_option maxHeartbeats 200000
theorem energy_within_spec {v1 : Int} {v2 : Int} {v3 : Int} {v4 : Bool} {v5 : Int} (hr : energy_within v1 v2 v3 = some (v4,v5)) : Spec (lim Tryz.prog) 57 [.v (.int .i64 v1),.v (.int .i64 v2),.v (.int .i64 v3)] ⟨[.func 85 [] [.fptr true [.v (.bool v4)] 0,.fptr true [.v (.int .i64 v5)] 0]],[]⟩:=by
  unfold energy_within at hr
  apply Spec.fn Tryz.func57 rfl
  focus (simp [Tryz.f57]<;>exact rfl)
  focus
    repeat (first|(with_reducible first|refine mv ?_|refine TO.nil ?_)|((with_reducible first|apply TO.asg|apply TO.mv|apply TO.bin);(repeat (focus (show _ = _;first|exact k2 rfl|(simp only [zz]<;>exact rfl))));(with_reducible apply TO.here))|((with_reducible apply TX.region);(focus (simp only []<;>exact rfl));(focus rfl);(try dsimp only)))
    rcases Bool.eq_false_or_eq_true ((decide (v1 < v2))) with h1|h1
    · rw [if_pos h1] at hr
      repeat (first|((with_reducible apply TO.pk);(repeat (focus (show _ = _;first|exact k2 rfl|(simp only [zz]<;>exact rfl))));(with_reducible apply TO.here))|((with_reducible apply TO.skip1);(repeat (focus (show _ = _;(simp only [zz,twant,zp,zs,h1]<;>exact rfl))));(with_reducible apply TO.here)))
      obtain ⟨⟨v6,v7⟩,h2,hr⟩:=Option.bind_eq_some_iff.1 hr
      try dsimp only at hr
      apply TO.cal (by first|rfl|(simp only [twant,z1,z7,h1]<;>rfl)) rfl goFn50 (energy_refuse_spec h2) rfl rfl rfl
      (repeat (focus (show _ = _;(simp only [zz,shift]<;>exact rfl))))
      with_reducible apply TO.here
      repeat (first|(with_reducible first|refine mv ?_|refine TO.nil ?_)|((with_reducible apply TO.asg);(repeat (focus (show _ = _;first|exact k2 rfl|(simp only [zz]<;>exact rfl))));(with_reducible apply TO.here)))
      cases hr
      refine ⟨.inr rfl,_,(by simp only [];exact rfl),?_⟩
      exact Wk.ren [] rfl .nil (by (repeat (first|exact RNs.nil|refine RNs.cons (.keep rfl rfl) ?_)))
    · rw [if_neg (by rw [h1];exact Bool.false_ne_true)] at hr
      repeat (first|((with_reducible first|apply TO.mv|apply TO.bin|apply TO.pk);(repeat (focus (show _ = _;first|exact k2 rfl|(simp only [zz,h1]<;>exact rfl))));(with_reducible apply TO.here)))
      obtain ⟨⟨v8,v9⟩,h3,hr⟩:=Option.bind_eq_some_iff.1 hr
      try dsimp only at hr
      apply TO.cal (by first|rfl|(simp only [twant,z1,z7,h1]<;>rfl)) rfl goFn50 (energy_refuse_spec h3) rfl rfl rfl
      (repeat (focus (show _ = _;(simp only [zz,shift]<;>exact rfl))))
      with_reducible apply TO.here
      repeat (first|(with_reducible first|refine mv ?_|refine TO.nil ?_)|((with_reducible apply TO.asg);(repeat (focus (show _ = _;first|exact k2 rfl|(simp only [zz]<;>exact rfl))));(with_reducible apply TO.here)))
      cases hr
      refine ⟨.inr rfl,_,(by simp only [];exact rfl),?_⟩
      exact Wk.ren [] rfl .nil (by (repeat (first|exact RNs.nil|refine RNs.cons (.keep rfl rfl) ?_)))
  rfl

end Go.Rex

namespace Go.Rex
open Go.Proofs
open Go Go.Rex Go.RowKit
set_option maxRecDepth 100000
set_option maxHeartbeats 200000
def y7:=an @ag3 <| an @ag44 <| an @cs3 <| an @ok3 <| @so44
theorem energy_allWithin_c1_ea58_spec {v1 : Int} {v2 : (List Int)} {v3 : Int} {v4 : Int} {v5 : Int} (hr : energy_allWithin_c1_ea58 v1 v2 v3 v4 = some (v5)) : Spec (lim Tryz.prog) 88 [.v (.int .i64 v1),.fptr true [.list 1 (v2.map e_i)] 0,.fptr true [.v (.int .i64 v3)] 0,.fptr true [.v (.int .i64 v4)] 0] ⟨[.v (.int .i64 v5)],[]⟩:=by
  unfold energy_allWithin_c1_ea58 at hr
  apply Spec.fn Tryz.func88 rfl
  focus (simp [Tryz.f88]<;>exact rfl)
  focus
    repeat (first|(with_reducible first|refine mv ?_|refine TO.nil ?_)|((with_reducible apply TO.asg);(repeat (focus (show _ = _;first|exact k2 rfl|(simp only [zz]<;>exact rfl))));(with_reducible apply TO.here))|((with_reducible apply TX.region);(focus (simp only []<;>exact rfl));(focus rfl);(try dsimp only))|((with_reducible first|apply TD.ld|apply TD.mv);(repeat (focus (show _ = _;first|exact k2 rfl|(simp only [zz,y7,tload,rowOf,partT]<;>exact rfl)|exact rfl)));(with_reducible refine TD.here ?_))|((with_reducible apply TX.drawn);(focus decide +kernel);(focus (simp only []<;>exact rfl));(focus exact rfl);(try dsimp only)))
    obtain ⟨v6,h1,hr⟩:=Option.bind_eq_some_iff.1 hr
    try dsimp only at hr
    have h1m:=tidx_map (f:=e_i) h1
    have h1l:=getI_lt h1
    try simp only [List.length_set] at h1l
    have h1a:=getI_at h1
    repeat (first|((with_reducible first|apply TD.ia|apply TD.ld);(repeat (focus (show _ = _;first|exact k2 rfl|(simp only [zz,y7,e_i,tindexAddr,tload,rowOf,partT,h1m]<;>exact rfl)|exact rfl)));(with_reducible refine TD.here ?_)))
    obtain ⟨⟨v7,v8⟩,h2,hr⟩:=Option.bind_eq_some_iff.1 hr
    try dsimp only at hr
    first|apply TD.cal (by first|rfl|(simp only [twant,z1,z7,h1m,h1l,h1a]<;>rfl)) rfl goFn57 (energy_within_spec h2) rfl rfl rfl|apply TD.calw (by first|rfl|(simp only [twant,z1,z7,h1m,h1l,h1a]<;>rfl)) rfl goFn57 (energy_within_spec h2) rfl rfl rfl rfl
    (repeat (focus (show _ = _;(simp only [zz,shift]<;>exact rfl))))
    with_reducible apply TD.here
    obtain ⟨v9,h3,hr⟩:=Option.bind_eq_some_iff.1 hr
    try dsimp only at hr
    first|apply TD.cal (by first|rfl|(simp only [twant,z1,z7,h1m,h1l,h1a]<;>rfl)) rfl goFn85 (energy_refuse_c1_11f9_spec h3) rfl rfl rfl|apply TD.calw (by first|rfl|(simp only [twant,z1,z7,h1m,h1l,h1a]<;>rfl)) rfl goFn85 (energy_refuse_c1_11f9_spec h3) rfl rfl rfl rfl
    (repeat (focus (show _ = _;(simp only [zz,shift]<;>exact rfl))))
    with_reducible apply TD.here
    repeat (first|(with_reducible first|refine mv ?_|refine TD.nil ?_)|((with_reducible apply TD.asg);(repeat (focus (show _ = _;first|exact k2 rfl|(simp only [zz]<;>exact rfl))));(with_reducible refine TD.here ?_)))
    cases hr
    refine ⟨.inr rfl,_,(by simp only [];exact rfl),?_⟩
    exact wr [] rfl .nil
  rfl

end Go.Rex

namespace Go.Rex
open Go.Proofs
open Go Go.Rex Go.RowKit
set_option maxRecDepth 100000
set_option maxHeartbeats 200000
def y8:=@wi64_0a1
theorem energy_firstWrong_b2dc_spec {v1 : Int} {v2 : (List Int)} {v3 : Int} {v4 : Int} {v5 : Int} {v6 : Int} (hr : energy_firstWrong_b2dc v1 v2 v3 v4 = some (v5,v6)) : Spec (lim Tryz.prog) 46 [.v (.int .i64 v1),.func 88 [] [.fptr true [.list 1 (v2.map e_i)] 0,.fptr true [.v (.int .i64 v3)] 0,.fptr true [.v (.int .i64 v4)] 0]] ⟨[.tuple [.v (.int .i64 v5),.v (.int .i64 v6)]],[]⟩:=by
  unfold energy_firstWrong_b2dc at hr
  apply Spec.fn Tryz.func46 rfl
  focus (simp [Tryz.f46]<;>exact rfl)
  focus
    repeat (first|(with_reducible first|refine mv ?_|refine TO.nil ?_)|((with_reducible first|apply TO.asg|apply TO.mv);(repeat (focus (show _ = _;first|exact k2 rfl|(simp only [zz]<;>exact rfl))));(with_reducible apply TO.here))|((with_reducible apply TX.region);(focus (simp only []<;>exact rfl));(focus rfl);(try dsimp only)))
    obtain ⟨v12,h7,hr⟩:=Option.bind_eq_some_iff.1 hr
    refine TX.loopE (step:=energy_firstWrong_b2dc_l1 v1 v2 v3 v4) (x:=0) h7 (fun v7=>⟨.junk :: .func 88 [] [.fptr true [.list 1 (v2.map e_i)] 0,.fptr true [.v (.int .i64 v3)] 0,.fptr true [.v (.int .i64 v4)] 0] :: .junk :: .junk :: .junk :: .junk :: .junk :: .junk :: .v (.int .i64 v1) :: .v (.int .i64 v7) :: .junk :: .junk :: .junk :: .junk :: .junk :: .junk :: .junk :: .junk :: .junk :: .junk :: [],[]⟩) (fun e=>match e with|(.inl (v9,v10))=>(.ret,⟨.junk :: .junk :: .junk :: .junk :: .v (.int .i64 v9) :: .v (.int .i64 v10) :: .junk :: .junk :: .junk :: .junk :: .junk :: .junk :: .junk :: .junk :: .junk :: .junk :: .junk :: .junk :: .junk :: .junk :: [],[]⟩)|(.inr _)=>(.exit 0,⟨.junk :: .junk :: .junk :: .junk :: .junk :: .junk :: .junk :: .junk :: .junk :: .junk :: .junk :: .junk :: .junk :: .junk :: .junk :: .junk :: .junk :: .junk :: .junk :: .junk :: [],[]⟩)) ?_ ?_ ?_ ?_
    · rintro v7 v0 hr
      dsimp only [energy_firstWrong_b2dc_l1] at hr
      try dsimp only
      repeat (first|(with_reducible first|refine mv ?_|refine TO.nil ?_)|((with_reducible apply TO.bin);(repeat (focus (show _ = _;first|exact k2 rfl|(simp only [zz]<;>exact rfl))));(with_reducible apply TO.here))|((with_reducible apply TX.region);(focus (simp only []<;>exact rfl));(focus rfl);(try dsimp only)))
      rcases Bool.eq_false_or_eq_true ((decide (v7 < v1))) with h4|h4
      · rw [if_pos h4] at hr
        repeat (first|(with_reducible first|refine mv ?_|refine TO.nil ?_)|((with_reducible first|apply TO.mv|apply TO.asg);(repeat (focus (show _ = _;first|exact k2 rfl|(simp only [zz,h4]<;>exact rfl))));(with_reducible apply TO.here))|((with_reducible apply TX.region);(focus (simp only []<;>exact rfl));(focus rfl);(try dsimp only))|((with_reducible apply TX.cond_true);(focus rfl);(focus ((simp only [z1,h4];done)))))
        obtain ⟨v11,h5,hr⟩:=Option.bind_eq_some_iff.1 hr
        try dsimp only at hr
        apply TO.cal (by first|rfl|(simp only [twant,z1,z7,h4]<;>rfl)) rfl goFn88 (energy_allWithin_c1_ea58_spec h5) rfl rfl rfl
        (repeat (focus (show _ = _;(simp only [zz,shift]<;>exact rfl))))
        with_reducible apply TO.here
        repeat (first|(with_reducible first|refine mv ?_|refine TO.nil ?_)|((with_reducible first|apply TO.asg|apply TO.mv|apply TO.bin);(repeat (focus (show _ = _;first|exact k2 rfl|(simp only [zz]<;>exact rfl))));(with_reducible apply TO.here))|((with_reducible apply TX.region);(focus (simp only []<;>exact rfl));(focus rfl);(try dsimp only)))
        rcases Bool.eq_false_or_eq_true ((decide (v11 ≠ 0))) with h6|h6
        · rw [if_pos h6] at hr
          repeat (first|(with_reducible first|refine mv ?_|refine TO.nil ?_)|((with_reducible first|apply TO.mv|apply TO.asg);(repeat (focus (show _ = _;first|exact k2 rfl|(simp only [zz,h6]<;>exact rfl))));(with_reducible apply TO.here))|((with_reducible apply TX.region);(focus (simp only []<;>exact rfl));(focus rfl);(try dsimp only))|((with_reducible apply TX.cond_true);(focus rfl);(focus ((simp only [z1,h6];done)))))
          cases hr
          refine ⟨rfl,?_⟩
          exact Wk.ren [] rfl .nil (by (repeat (first|exact RNs.nil|refine RNs.cons .junk ?_|refine RNs.cons (.keep rfl rfl) ?_)))
        · rw [if_neg (by rw [h6];exact Bool.false_ne_true)] at hr
          repeat (first|(with_reducible first|refine mv ?_|refine TO.nil ?_)|((with_reducible first|apply TO.bin|apply TO.mv);(repeat (focus (show _ = _;first|exact k2 rfl|(simp only [zz,h6]<;>exact rfl))));(with_reducible apply TO.here))|((with_reducible apply TX.region);(focus (simp only []<;>exact rfl));(focus rfl);(try dsimp only))|((with_reducible apply TX.cond_false);(focus rfl);(focus ((simp only [z1,h6];done)))))
          cases hr
          refine ⟨rfl,?_⟩
          exact Wk.ren [] rfl .nil (by (repeat (first|exact RNs.nil|refine RNs.cons .junk ?_|refine RNs.cons (.keep rfl rfl) ?_)))
      · rw [if_neg (by rw [h4];exact Bool.false_ne_true)] at hr
        repeat (first|with_reducible refine mv ?_|((with_reducible apply TX.cond_false);(focus rfl);(focus ((simp only [z1,h4];done)))))
        cases hr
        refine ⟨rfl,?_⟩
        exact Wk.ren [] rfl .nil (by (repeat (first|exact RNs.nil|refine RNs.cons .junk ?_)))
    · intro e h;rcases e with _|e<;>cases h
    · try dsimp only
      rcases v12 with ⟨v13,v14⟩|_
      · try dsimp only at hr
        try dsimp only
        repeat (first|with_reducible refine mv ?_)
        cases hr
        refine ⟨.inr rfl,_,(by simp only [];exact rfl),?_⟩
        exact wr [] rfl .nil
      · try dsimp only at hr
        try dsimp only
        repeat (first|(with_reducible first|refine mv ?_|refine TO.nil ?_)|((with_reducible apply TO.asg);(repeat (focus (show _ = _;first|exact k2 rfl|(simp only [zz]<;>exact rfl))));(with_reducible apply TO.here))|((with_reducible apply TX.region);(focus (simp only []<;>exact rfl));(focus rfl);(try dsimp only)))
        cases hr
        refine ⟨.inr rfl,_,(by simp only [];exact rfl),?_⟩
        exact wr [] rfl .nil
    · try dsimp only
      exact wr [] rfl .nil
  rfl

end Go.Rex

namespace Go.Rex
open Go.Proofs
open Go Go.Rex Go.RowKit
set_option maxRecDepth 100000
set_option maxHeartbeats 200000
theorem energy_unnumbered_spec {v1 : Int} {v2 : Int} {v3 : Int} (hr : energy_unnumbered v1 v2 = some (v3)) : Spec (lim Tryz.prog) 87 [.v (.int .i64 v1),.v (.int .i64 v2)] ⟨[.func 104 [] [.fptr true [.v (.int .i64 v3)] 0]],[]⟩:=by
  unfold energy_unnumbered at hr
  apply Spec.fn Tryz.func87 rfl
  focus (simp [Tryz.f87]<;>exact rfl)
  focus
    repeat (first|(with_reducible first|refine mv ?_|refine TO.nil ?_)|((with_reducible first|apply TO.bf|apply TO.asg|apply TO.mf);(repeat (focus (show _ = _;first|exact k1 rfl|exact k2 rfl|(simp only [zz]<;>exact rfl)|exact rfl)));(with_reducible apply TO.here))|((with_reducible apply TX.region);(focus (simp only []<;>exact rfl));(focus rfl);(try dsimp only)))
    cases hr
    refine ⟨.inr rfl,_,(by simp only [];exact rfl),?_⟩
    exact wr [] rfl .nil
  rfl

end Go.Rex

namespace Go.Rex
open Go.Proofs
open Go Go.Rex Go.RowKit
set_option maxRecDepth 100000
set_option maxHeartbeats 200000
def y9:=an @ag44 <| @so44
theorem energy_allWithin_spec {v1 : (List Int)} {v2 : Int} {v3 : Int} {v4 : Int} (hr : energy_allWithin v1 v2 v3 = some (v4)) : Spec (lim Tryz.prog) 55 [.list 1 (v1.map e_i),.v (.int .i64 v2),.v (.int .i64 v3)] ⟨[.func 104 [] [.fptr true [.v (.int .i64 v4)] 0]],[]⟩:=by
  unfold energy_allWithin at hr
  apply Spec.fn Tryz.func55 rfl
  focus (simp [Tryz.f55]<;>exact rfl)
  focus
    repeat (first|(with_reducible first|refine mv ?_|refine TO.nil ?_)|((with_reducible first|apply TO.bf|apply TO.asg|apply TO.ld|apply TO.len|apply TO.mf);(repeat (focus (show _ = _;first|exact k1 rfl|exact k2 rfl|(simp only [zz,y9,tload,rowOf,partT,tlen]<;>exact rfl)|exact rfl)));(with_reducible apply TO.here))|((with_reducible apply TX.region);(focus (simp only []<;>exact rfl));(focus rfl);(try dsimp only)))
    obtain ⟨⟨v5,v6⟩,h1,hr⟩:=Option.bind_eq_some_iff.1 hr
    try dsimp only at hr
    apply TO.cal (by first|rfl|(simp only [twant,z1,z7]<;>rfl)) rfl goFn46 (energy_firstWrong_b2dc_spec h1) rfl rfl rfl
    (repeat (focus (show _ = _;(simp only [zz,shift]<;>exact rfl))))
    with_reducible apply TO.here
    repeat (first|((with_reducible apply TO.ext);(repeat (focus (show _ = _;first|exact k2 rfl|(simp only [zz]<;>exact rfl))));(with_reducible apply TO.here)))
    obtain ⟨v7,h2,hr⟩:=Option.bind_eq_some_iff.1 hr
    try dsimp only at hr
    apply TO.cal (by first|rfl|(simp only [twant,z1,z7]<;>rfl)) rfl goFn87 (energy_unnumbered_spec h2) rfl rfl rfl
    (repeat (focus (show _ = _;(simp only [zz,shift]<;>exact rfl))))
    with_reducible apply TO.here
    repeat (first|(with_reducible first|refine mv ?_|refine TO.nil ?_)|((with_reducible apply TO.asg);(repeat (focus (show _ = _;first|exact k2 rfl|(simp only [zz]<;>exact rfl))));(with_reducible apply TO.here)))
    cases hr
    refine ⟨.inr rfl,_,(by simp only [];exact rfl),?_⟩
    exact wr [] rfl .nil
  rfl

end Go.Rex

namespace Go.Rex
open Go.Proofs
open Go Go.Rex Go.RowKit
set_option maxRecDepth 100000
set_option maxHeartbeats 200000
def y10:=an @ag3 <| an @cs3 <| an @ok3 <| an @so44 <| @wi64_0a1
theorem energy_sumOf_spec {v1 : (List Int)} {v2 : Int} (hr : energy_sumOf v1 = some (v2)) : Spec (lim Tryz.prog) 56 [.list 1 (v1.map e_i)] ⟨[.v (.int .i64 v2)],[]⟩:=by
  unfold energy_sumOf at hr
  apply Spec.fn Tryz.func56 rfl
  focus (simp [Tryz.f56]<;>exact rfl)
  focus
    repeat (first|(with_reducible first|refine mv ?_|refine TO.nil ?_)|((with_reducible first|apply TO.asg|apply TO.mv|apply TO.len);(repeat (focus (show _ = _;first|exact k2 rfl|(simp only [zz,y10,tlen]<;>exact rfl))));(with_reducible apply TO.here))|((with_reducible apply TX.region);(focus (simp only []<;>exact rfl));(focus rfl);(try dsimp only)))
    obtain ⟨v8,h5,hr⟩:=Option.bind_eq_some_iff.1 hr
    try dsimp only at hr
    refine TX.loopE (step:=energy_sumOf_l1 v1) (x:=(0,0)) h5 (fun (v3,v4)=>⟨.junk :: .junk :: .junk :: .v (.int .i64 v3) :: .junk :: .junk :: .list 1 (v1.map e_i) :: .v (.int .i64 (v1.length : Int)) :: .v (.int .i64 v4) :: .junk :: .junk :: .junk :: .junk :: .junk :: .junk :: .junk :: .junk :: [],[]⟩) (fun v6=>(.exit 0,⟨.junk :: .junk :: .junk :: .v (.int .i64 v6) :: .junk :: .junk :: .junk :: .junk :: .junk :: .junk :: .junk :: .junk :: .junk :: .junk :: .junk :: .junk :: .junk :: [],[]⟩)) ?_ ?_ ?_ ?_
    · rintro ⟨v3,v4⟩ v0 hr
      dsimp only [energy_sumOf_l1] at hr
      try dsimp only
      repeat (first|(with_reducible first|refine mv ?_|refine TO.nil ?_)|((with_reducible apply TO.bin);(repeat (focus (show _ = _;first|exact k2 rfl|(simp only [zz]<;>exact rfl))));(with_reducible apply TO.here))|((with_reducible apply TX.region);(focus (simp only []<;>exact rfl));(focus rfl);(try dsimp only)))
      rcases Bool.eq_false_or_eq_true ((decide (v4 < (v1.length : Int)))) with h3|h3
      · rw [if_pos h3] at hr
        repeat (first|with_reducible refine mv ?_|((with_reducible apply TX.region);(focus (simp only []<;>exact rfl));(focus rfl);(try dsimp only))|((with_reducible apply TX.cond_true);(focus rfl);(focus ((simp only [z1,h3];done)))))
        obtain ⟨v7,h4,hr⟩:=Option.bind_eq_some_iff.1 hr
        try dsimp only at hr
        have h4m:=tidx_map (f:=e_i) h4
        have h4l:=getI_lt h4
        try simp only [List.length_set] at h4l
        have h4a:=getI_at h4
        repeat (first|(with_reducible first|refine mv ?_|refine TO.nil ?_)|((with_reducible first|apply TO.ia|apply TO.ld|apply TO.asg|apply TO.mv|apply TO.bin);(repeat (focus (show _ = _;first|exact k2 rfl|(simp only [zz,y10,e_i,tindexAddr,tload,rowOf,partT,h4m,h4l]<;>exact rfl)|exact rfl)));(with_reducible apply TO.here))|((with_reducible apply TX.region);(focus (simp only []<;>exact rfl));(focus rfl);(try dsimp only)))
        cases hr
        refine ⟨rfl,?_⟩
        exact Wk.ren [] rfl .nil (by (repeat (first|exact RNs.nil|refine RNs.cons .junk ?_|refine RNs.cons (.keep rfl rfl) ?_)))
      · rw [if_neg (by rw [h3];exact Bool.false_ne_true)] at hr
        repeat (first|with_reducible refine mv ?_|((with_reducible apply TX.cond_false);(focus rfl);(focus ((simp only [z1,h3];done)))))
        cases hr
        refine ⟨rfl,?_⟩
        exact Wk.ren [] rfl .nil (by (repeat (first|exact RNs.nil|refine RNs.cons .junk ?_|refine RNs.cons (.keep rfl rfl) ?_)))
    · intro e h;cases h
    · try dsimp only
      repeat (first|(with_reducible first|refine mv ?_|refine TO.nil ?_)|((with_reducible first|apply TO.mv|apply TO.asg);(repeat (focus (show _ = _;first|exact k2 rfl|(simp only [zz]<;>exact rfl))));(with_reducible apply TO.here))|((with_reducible apply TX.region);(focus (simp only []<;>exact rfl));(focus rfl);(try dsimp only)))
      cases hr
      refine ⟨.inr rfl,_,(by simp only [];exact rfl),?_⟩
      exact wr [] rfl .nil
    · try dsimp only
      exact wr [] rfl .nil
  rfl

end Go.Rex

namespace Go.Rex
open Go.Proofs
open Go Go.Rex Go.RowKit
set_option maxRecDepth 100000
set_option maxHeartbeats 200000
def y11:=@ag25
theorem energy_unnumbered_c1_662c_spec {v1 : Int} {v2 : Int} (hr : energy_unnumbered_c1_662c v1 = some (v2)) : Spec (lim Tryz.prog) 104 [.fptr true [.v (.int .i64 v1)] 0] ⟨[.v (.int .i64 v2)],[]⟩:=by
  unfold energy_unnumbered_c1_662c at hr
  apply Spec.fn Tryz.func104 rfl
  focus (simp [Tryz.f104]<;>exact rfl)
  focus
    repeat (first|(with_reducible first|refine mv ?_|refine TO.nil ?_)|((with_reducible first|apply TO.asg|apply TO.ld);(repeat (focus (show _ = _;first|exact k2 rfl|(simp only [zz,y11,tload,rowOf,partT]<;>exact rfl)|exact rfl)));(with_reducible apply TO.here))|((with_reducible apply TX.region);(focus (simp only []<;>exact rfl));(focus rfl);(try dsimp only)))
    cases hr
    refine ⟨.inr rfl,_,(by simp only [];exact rfl),?_⟩
    exact wr [] rfl .nil
  rfl

end Go.Rex

namespace Go.Rex
open Go.Proofs
open Go Go.Rex Go.RowKit
set_option maxRecDepth 100000
set_option maxHeartbeats 1000000
def y12:=an @ag95 <| an @cs95 <| an @ok95 <| an @so136 <| an @wi64_0a1 <| an @wi64_1a1 <| an @wi64_2a1 <| @wi64_3a1
theorem energy_firstError_2863_spec {v1 : Bool} {v2 : Int} {v3 : Int} {v4 : Bool} {v5 : Int} {v6 : Bool} {v7 : Int} {v8 : Int} (hr : energy_firstError_2863 v1 v2 v3 v4 v5 v6 v7 = some (v8)) : Spec (lim Tryz.prog) 48 [.list 1 [[.func 85 [] [.fptr true [.v (.bool v1)] 0,.fptr true [.v (.int .i64 v2)] 0]],[.func 104 [] [.fptr true [.v (.int .i64 v3)] 0]],[.func 85 [] [.fptr true [.v (.bool v4)] 0,.fptr true [.v (.int .i64 v5)] 0]],[.func 85 [] [.fptr true [.v (.bool v6)] 0,.fptr true [.v (.int .i64 v7)] 0]]]] ⟨[.v (.int .i64 v8)],[]⟩:=by
  unfold energy_firstError_2863 at hr
  apply Spec.fn Tryz.func48 rfl
  focus (simp [Tryz.f48]<;>exact rfl)
  focus
    repeat (first|(with_reducible first|refine mv ?_|refine TO.nil ?_)|((with_reducible first|apply TO.asg|apply TO.mv|apply TO.len);(repeat (focus (show _ = _;first|exact k2 rfl|(simp only [zz,y12,Nat.reduceAdd,tlen]<;>exact rfl))));(with_reducible apply TO.here))|((with_reducible apply TX.region);(focus (simp only []<;>exact rfl));(focus rfl);(try dsimp only)))
    refine TX.unroll ?_
    repeat (first|(with_reducible first|refine mv ?_|refine TO.nil ?_)|((with_reducible first|apply TO.bin|apply TO.ia|apply TO.ld|apply TO.asg|apply TO.mv);(repeat (focus (show _ = _;first|exact k2 rfl|(simp only [zz,y12,tindexAddr,z5,Int.reduceLT,Int.cast_ofNat_Int,tload,rowOf,partT]<;>exact rfl)|exact rfl)));(with_reducible apply TO.here))|((with_reducible apply TX.region);(focus (simp only []<;>exact rfl));(focus rfl);(try dsimp only))|((with_reducible apply TX.cond_true);(focus rfl);(focus (rfl))))
    obtain ⟨v9,h1,hr⟩:=Option.bind_eq_some_iff.1 hr
    try dsimp only at hr
    apply TO.cal (by first|rfl|(simp only [twant,z1,z7]<;>rfl)) rfl goFn85 (energy_refuse_c1_11f9_spec h1) rfl rfl rfl
    (repeat (focus (show _ = _;(simp only [zz,shift]<;>exact rfl))))
    with_reducible apply TO.here
    repeat (first|(with_reducible first|refine mv ?_|refine TO.nil ?_)|((with_reducible first|apply TO.asg|apply TO.mv|apply TO.bin);(repeat (focus (show _ = _;first|exact k2 rfl|(simp only [zz]<;>exact rfl))));(with_reducible apply TO.here))|((with_reducible apply TX.region);(focus (simp only []<;>exact rfl));(focus rfl);(try dsimp only)))
    rcases Bool.eq_false_or_eq_true ((decide (v9 ≠ 0))) with h2|h2
    · rw [if_pos h2] at hr
      repeat (first|(with_reducible first|refine mv ?_|refine TO.nil ?_)|((with_reducible first|apply TO.mv|apply TO.asg);(repeat (focus (show _ = _;first|exact k2 rfl|(simp only [zz,h2]<;>exact rfl))));(with_reducible apply TO.here))|((with_reducible apply TX.region);(focus (simp only []<;>exact rfl));(focus rfl);(try dsimp only))|((with_reducible apply TX.cond_true);(focus rfl);(focus ((simp only [z1,h2];done)))))
      cases hr
      refine ⟨.inr rfl,_,(by simp only [];exact rfl),?_⟩
      exact Wk.ren [] rfl .nil (by (repeat (first|exact RNs.nil|refine RNs.cons (.keep rfl rfl) ?_)))
    · rw [if_neg (by rw [h2];exact Bool.false_ne_true)] at hr
      repeat (first|(with_reducible first|refine mv ?_|refine TO.nil ?_)|((with_reducible first|apply TO.bin|apply TO.mv);(repeat (focus (show _ = _;first|exact k2 rfl|(simp only [zz,y12,h2]<;>exact rfl))));(with_reducible apply TO.here))|((with_reducible apply TX.region);(focus (simp only []<;>exact rfl));(focus rfl);(try dsimp only))|((with_reducible apply TX.cond_false);(focus rfl);(focus ((simp only [z1,h2];done)))))
      refine TX.unroll ?_
      repeat (first|(with_reducible first|refine mv ?_|refine TO.nil ?_)|((with_reducible first|apply TO.bin|apply TO.ia|apply TO.ld|apply TO.asg|apply TO.mv);(repeat (focus (show _ = _;first|exact k2 rfl|(simp only [zz,y12,tindexAddr,z5,Int.reduceLT,tload,rowOf,partT]<;>exact rfl)|exact rfl)));(with_reducible apply TO.here))|((with_reducible apply TX.region);(focus (simp only []<;>exact rfl));(focus rfl);(try dsimp only))|((with_reducible apply TX.cond_true);(focus rfl);(focus (rfl))))
      obtain ⟨v10,h3,hr⟩:=Option.bind_eq_some_iff.1 hr
      try dsimp only at hr
      apply TO.cal (by first|rfl|(simp only [twant,z1,z7,h2]<;>rfl)) rfl goFn104 (energy_unnumbered_c1_662c_spec h3) rfl rfl rfl
      (repeat (focus (show _ = _;(simp only [zz,shift]<;>exact rfl))))
      with_reducible apply TO.here
      repeat (first|(with_reducible first|refine mv ?_|refine TO.nil ?_)|((with_reducible first|apply TO.asg|apply TO.mv|apply TO.bin);(repeat (focus (show _ = _;first|exact k2 rfl|(simp only [zz]<;>exact rfl))));(with_reducible apply TO.here))|((with_reducible apply TX.region);(focus (simp only []<;>exact rfl));(focus rfl);(try dsimp only)))
      rcases Bool.eq_false_or_eq_true ((decide (v10 ≠ 0))) with h4|h4
      · rw [if_pos h4] at hr
        repeat (first|(with_reducible first|refine mv ?_|refine TO.nil ?_)|((with_reducible first|apply TO.mv|apply TO.asg);(repeat (focus (show _ = _;first|exact k2 rfl|(simp only [zz,h4]<;>exact rfl))));(with_reducible apply TO.here))|((with_reducible apply TX.region);(focus (simp only []<;>exact rfl));(focus rfl);(try dsimp only))|((with_reducible apply TX.cond_true);(focus rfl);(focus ((simp only [z1,h4];done)))))
        cases hr
        refine ⟨.inr rfl,_,(by simp only [];exact rfl),?_⟩
        exact Wk.ren [] rfl .nil (by (repeat (first|exact RNs.nil|refine RNs.cons (.keep rfl rfl) ?_)))
      · rw [if_neg (by rw [h4];exact Bool.false_ne_true)] at hr
        repeat (first|(with_reducible first|refine mv ?_|refine TO.nil ?_)|((with_reducible first|apply TO.bin|apply TO.mv);(repeat (focus (show _ = _;first|exact k2 rfl|(simp only [zz,y12,h4]<;>exact rfl))));(with_reducible apply TO.here))|((with_reducible apply TX.region);(focus (simp only []<;>exact rfl));(focus rfl);(try dsimp only))|((with_reducible apply TX.cond_false);(focus rfl);(focus ((simp only [z1,h4];done)))))
        refine TX.unroll ?_
        repeat (first|(with_reducible first|refine mv ?_|refine TO.nil ?_)|((with_reducible first|apply TO.bin|apply TO.ia|apply TO.ld|apply TO.asg|apply TO.mv);(repeat (focus (show _ = _;first|exact k2 rfl|(simp only [zz,y12,tindexAddr,z5,Int.reduceLT,tload,rowOf,partT]<;>exact rfl)|exact rfl)));(with_reducible apply TO.here))|((with_reducible apply TX.region);(focus (simp only []<;>exact rfl));(focus rfl);(try dsimp only))|((with_reducible apply TX.cond_true);(focus rfl);(focus (rfl))))
        obtain ⟨v11,h5,hr⟩:=Option.bind_eq_some_iff.1 hr
        try dsimp only at hr
        apply TO.cal (by first|rfl|(simp only [twant,z1,z7,h2,h4]<;>rfl)) rfl goFn85 (energy_refuse_c1_11f9_spec h5) rfl rfl rfl
        (repeat (focus (show _ = _;(simp only [zz,shift]<;>exact rfl))))
        with_reducible apply TO.here
        repeat (first|(with_reducible first|refine mv ?_|refine TO.nil ?_)|((with_reducible first|apply TO.asg|apply TO.mv|apply TO.bin);(repeat (focus (show _ = _;first|exact k2 rfl|(simp only [zz]<;>exact rfl))));(with_reducible apply TO.here))|((with_reducible apply TX.region);(focus (simp only []<;>exact rfl));(focus rfl);(try dsimp only)))
        rcases Bool.eq_false_or_eq_true ((decide (v11 ≠ 0))) with h6|h6
        · rw [if_pos h6] at hr
          repeat (first|(with_reducible first|refine mv ?_|refine TO.nil ?_)|((with_reducible first|apply TO.mv|apply TO.asg);(repeat (focus (show _ = _;first|exact k2 rfl|(simp only [zz,h6]<;>exact rfl))));(with_reducible apply TO.here))|((with_reducible apply TX.region);(focus (simp only []<;>exact rfl));(focus rfl);(try dsimp only))|((with_reducible apply TX.cond_true);(focus rfl);(focus ((simp only [z1,h6];done)))))
          cases hr
          refine ⟨.inr rfl,_,(by simp only [];exact rfl),?_⟩
          exact Wk.ren [] rfl .nil (by (repeat (first|exact RNs.nil|refine RNs.cons (.keep rfl rfl) ?_)))
        · rw [if_neg (by rw [h6];exact Bool.false_ne_true)] at hr
          repeat (first|(with_reducible first|refine mv ?_|refine TO.nil ?_)|((with_reducible first|apply TO.bin|apply TO.mv);(repeat (focus (show _ = _;first|exact k2 rfl|(simp only [zz,y12,h6]<;>exact rfl))));(with_reducible apply TO.here))|((with_reducible apply TX.region);(focus (simp only []<;>exact rfl));(focus rfl);(try dsimp only))|((with_reducible apply TX.cond_false);(focus rfl);(focus ((simp only [z1,h6];done)))))
          refine TX.unroll ?_
          repeat (first|(with_reducible first|refine mv ?_|refine TO.nil ?_)|((with_reducible first|apply TO.bin|apply TO.ia|apply TO.ld|apply TO.asg|apply TO.mv);(repeat (focus (show _ = _;first|exact k2 rfl|(simp only [zz,y12,tindexAddr,z5,Int.reduceLT,tload,rowOf,partT]<;>exact rfl)|exact rfl)));(with_reducible apply TO.here))|((with_reducible apply TX.region);(focus (simp only []<;>exact rfl));(focus rfl);(try dsimp only))|((with_reducible apply TX.cond_true);(focus rfl);(focus (rfl))))
          obtain ⟨v12,h7,hr⟩:=Option.bind_eq_some_iff.1 hr
          try dsimp only at hr
          apply TO.cal (by first|rfl|(simp only [twant,z1,z7,h2,h4,h6]<;>rfl)) rfl goFn85 (energy_refuse_c1_11f9_spec h7) rfl rfl rfl
          (repeat (focus (show _ = _;(simp only [zz,shift]<;>exact rfl))))
          with_reducible apply TO.here
          repeat (first|(with_reducible first|refine mv ?_|refine TO.nil ?_)|((with_reducible first|apply TO.asg|apply TO.mv|apply TO.bin);(repeat (focus (show _ = _;first|exact k2 rfl|(simp only [zz]<;>exact rfl))));(with_reducible apply TO.here))|((with_reducible apply TX.region);(focus (simp only []<;>exact rfl));(focus rfl);(try dsimp only)))
          rcases Bool.eq_false_or_eq_true ((decide (v12 ≠ 0))) with h8|h8
          · rw [if_pos h8] at hr
            repeat (first|(with_reducible first|refine mv ?_|refine TO.nil ?_)|((with_reducible first|apply TO.mv|apply TO.asg);(repeat (focus (show _ = _;first|exact k2 rfl|(simp only [zz,h8]<;>exact rfl))));(with_reducible apply TO.here))|((with_reducible apply TX.region);(focus (simp only []<;>exact rfl));(focus rfl);(try dsimp only))|((with_reducible apply TX.cond_true);(focus rfl);(focus ((simp only [z1,h8];done)))))
            cases hr
            refine ⟨.inr rfl,_,(by simp only [];exact rfl),?_⟩
            exact Wk.ren [] rfl .nil (by (repeat (first|exact RNs.nil|refine RNs.cons (.keep rfl rfl) ?_)))
          · rw [if_neg (by rw [h8];exact Bool.false_ne_true)] at hr
            repeat (first|(with_reducible first|refine mv ?_|refine TO.nil ?_)|((with_reducible first|apply TO.bin|apply TO.mv);(repeat (focus (show _ = _;first|exact k2 rfl|(simp only [zz,y12,h8]<;>exact rfl))));(with_reducible apply TO.here))|((with_reducible apply TX.region);(focus (simp only []<;>exact rfl));(focus rfl);(try dsimp only))|((with_reducible apply TX.cond_false);(focus rfl);(focus ((simp only [z1,h8];done)))))
            refine TX.unroll ?_
            repeat (first|(with_reducible first|refine mv ?_|refine TO.nil ?_)|((with_reducible first|apply TO.bin|apply TO.asg);(repeat (focus (show _ = _;first|exact k2 rfl|(simp only [zz]<;>exact rfl))));(with_reducible apply TO.here))|((with_reducible apply TX.region);(focus (simp only []<;>exact rfl));(focus rfl);(try dsimp only))|((with_reducible apply TX.cond_false);(focus rfl);(focus (rfl))))
            cases hr
            refine ⟨.inr rfl,_,(by simp only [];exact rfl),?_⟩
            exact Wk.ren [] rfl .nil (by (repeat (first|exact RNs.nil|refine RNs.cons (.keep rfl rfl) ?_)))
  rfl

end Go.Rex

namespace Go.Rex
open Go.Proofs
open Go Go.Rex Go.RowKit
set_option maxRecDepth 100000
set_option maxHeartbeats 200000
def y13:=an @ag3 <| an @ag43 <| an @ag44 <| an @cs3 <| an @cs44 <| an @cs95 <| an @fd46_0 <| an @fd46_1 <| an @ok3 <| an @ok44 <| an @so136 <| an @so43 <| an @so44 <| @zc95
theorem energy_CheckExchange_c1_c586_spec {v1 : Int} {v2 : (List (List Int))} {v3 : (List Int)} {v4 : Int} {v5 : Int} (hr : energy_CheckExchange_c1_c586 v1 v2 v3 v4 = some (v5)) : Spec (lim Tryz.prog) 54 [.v (.int .i64 v1),.fptr true [.list 1 (v2.map e_Li_),.list 1 (v3.map e_i)] 0,.fptr true [.v (.int .i64 v4)] 0] ⟨[.v (.int .i64 v5)],[]⟩:=by
  unfold energy_CheckExchange_c1_c586 at hr
  apply Spec.fn Tryz.func54 rfl
  focus (simp [Tryz.f54]<;>exact rfl)
  focus
    repeat (first|(with_reducible first|refine mv ?_|refine TO.nil ?_)|((with_reducible apply TO.asg);(repeat (focus (show _ = _;first|exact k2 rfl|(simp only [zz]<;>exact rfl))));(with_reducible apply TO.here))|((with_reducible apply TX.region);(focus (simp only []<;>exact rfl));(focus rfl);(try dsimp only))|((with_reducible first|apply TD.fa|apply TD.ld|apply TD.mv);(repeat (focus (show _ = _;first|exact k2 rfl|(simp only [zz,y13,Nat.reduceAdd,tfieldAddr,tload,rowOf,partT]<;>exact rfl)|exact rfl)));(with_reducible refine TD.here ?_))|((with_reducible apply TX.drawn);(focus decide +kernel);(focus (simp only []<;>exact rfl));(focus exact rfl);(try dsimp only)))
    obtain ⟨v6,h1,hr⟩:=Option.bind_eq_some_iff.1 hr
    try dsimp only at hr
    have h1m:=tidx_map (f:=e_Li_) h1
    have h1l:=getI_lt h1
    try simp only [List.length_set] at h1l
    have h1a:=getI_at h1
    repeat (first|((with_reducible first|apply TD.ia|apply TD.ld|apply TD.len|apply TD.bin);(repeat (focus (show _ = _;first|exact k2 rfl|(simp only [zz,y13,e_Li_,tindexAddr,tload,rowOf,partT,tlen,h1m]<;>exact rfl)|exact rfl)));(with_reducible refine TD.here ?_)))
    obtain ⟨⟨v7,v8⟩,h2,hr⟩:=Option.bind_eq_some_iff.1 hr
    try dsimp only at hr
    first|apply TD.cal (by first|rfl|(simp only [twant,z1,z7,h1m,h1l,h1a]<;>rfl)) rfl goFn50 (energy_refuse_spec h2) rfl rfl rfl|apply TD.calw (by first|rfl|(simp only [twant,z1,z7,h1m,h1l,h1a]<;>rfl)) rfl goFn50 (energy_refuse_spec h2) rfl rfl rfl rfl
    (repeat (focus (show _ = _;(simp only [zz,shift]<;>exact rfl))))
    with_reducible apply TD.here
    repeat (first|((with_reducible first|apply TD.fa|apply TD.ld|apply TD.mv|apply TD.ia);(repeat (focus (show _ = _;first|exact k2 rfl|(simp only [zz,y13,e_Li_,tfieldAddr,tload,rowOf,partT,tindexAddr,Nat.zero_add,h1m]<;>exact rfl)|exact rfl)));(with_reducible refine TD.here ?_)))
    obtain ⟨v9,h3,hr⟩:=Option.bind_eq_some_iff.1 hr
    try dsimp only at hr
    first|apply TD.cal (by first|rfl|(simp only [twant,z1,z7,h1m,h1l,h1a]<;>rfl)) rfl goFn55 (energy_allWithin_spec h3) rfl rfl rfl|apply TD.calw (by first|rfl|(simp only [twant,z1,z7,h1m,h1l,h1a]<;>rfl)) rfl goFn55 (energy_allWithin_spec h3) rfl rfl rfl rfl
    (repeat (focus (show _ = _;(simp only [zz,shift]<;>exact rfl))))
    with_reducible apply TD.here
    repeat (first|((with_reducible first|apply TD.fa|apply TD.ld|apply TD.mv|apply TD.ia);(repeat (focus (show _ = _;first|exact k2 rfl|(simp only [zz,y13,e_Li_,tfieldAddr,tload,rowOf,partT,tindexAddr,Nat.zero_add,h1m]<;>exact rfl)|exact rfl)));(with_reducible refine TD.here ?_)))
    obtain ⟨v10,h4,hr⟩:=Option.bind_eq_some_iff.1 hr
    try dsimp only at hr
    first|apply TD.cal (by first|rfl|(simp only [twant,z1,z7,h1m,h1l,h1a]<;>rfl)) rfl goFn56 (energy_sumOf_spec h4) rfl rfl rfl|apply TD.calw (by first|rfl|(simp only [twant,z1,z7,h1m,h1l,h1a]<;>rfl)) rfl goFn56 (energy_sumOf_spec h4) rfl rfl rfl rfl
    (repeat (focus (show _ = _;(simp only [zz,shift]<;>exact rfl))))
    with_reducible apply TD.here
    repeat (first|((with_reducible apply TD.bin);(repeat (focus (show _ = _;first|exact k2 rfl|(simp only [zz]<;>exact rfl))));(with_reducible refine TD.here ?_)))
    obtain ⟨⟨v11,v12⟩,h5,hr⟩:=Option.bind_eq_some_iff.1 hr
    try dsimp only at hr
    first|apply TD.cal (by first|rfl|(simp only [twant,z1,z7,h1m,h1l,h1a]<;>rfl)) rfl goFn50 (energy_refuse_spec h5) rfl rfl rfl|apply TD.calw (by first|rfl|(simp only [twant,z1,z7,h1m,h1l,h1a]<;>rfl)) rfl goFn50 (energy_refuse_spec h5) rfl rfl rfl rfl
    (repeat (focus (show _ = _;(simp only [zz,shift]<;>exact rfl))))
    with_reducible apply TD.here
    repeat (first|((with_reducible first|apply TD.fa|apply TD.ld|apply TD.mv);(repeat (focus (show _ = _;first|exact k2 rfl|(simp only [zz,y13,Nat.reduceAdd,tfieldAddr,tload,rowOf,partT]<;>exact rfl)|exact rfl)));(with_reducible refine TD.here ?_)))
    obtain ⟨v13,h6,hr⟩:=Option.bind_eq_some_iff.1 hr
    try dsimp only at hr
    have h6m:=tidx_map (f:=e_i) h6
    have h6l:=getI_lt h6
    try simp only [List.length_set] at h6l
    have h6a:=getI_at h6
    repeat (first|((with_reducible first|apply TD.ia|apply TD.ld);(repeat (focus (show _ = _;first|exact k2 rfl|(simp only [zz,y13,e_i,tindexAddr,tload,rowOf,partT,h6m]<;>exact rfl)|exact rfl)));(with_reducible refine TD.here ?_)))
    obtain ⟨⟨v14,v15⟩,h7,hr⟩:=Option.bind_eq_some_iff.1 hr
    try dsimp only at hr
    first|apply TD.cal (by first|rfl|(simp only [twant,z1,z7,h1m,h1l,h1a,h6m,h6l,h6a]<;>rfl)) rfl goFn57 (energy_within_spec h7) rfl rfl rfl|apply TD.calw (by first|rfl|(simp only [twant,z1,z7,h1m,h1l,h1a,h6m,h6l,h6a]<;>rfl)) rfl goFn57 (energy_within_spec h7) rfl rfl rfl rfl
    (repeat (focus (show _ = _;(simp only [zz,shift]<;>exact rfl))))
    with_reducible apply TD.here
    repeat (first|((with_reducible apply TD.bs);(repeat (focus (show _ = _;first|exact k2 rfl|(simp only [zz,y13,Nat.reduceAdd,Nat.reduceMul,tslice,tparts]<;>exact rfl)|exact rfl)));(with_reducible refine TD.here ?_)))
    obtain ⟨v16,h8,hr⟩:=Option.bind_eq_some_iff.1 hr
    try dsimp only at hr
    first|apply TD.cal (by first|rfl|(simp only [twant,z1,z7,h1m,h1l,h1a,h6m,h6l,h6a]<;>rfl)) rfl goFn48 (energy_firstError_2863_spec h8) rfl rfl rfl|apply TD.calw (by first|rfl|(simp only [twant,z1,z7,h1m,h1l,h1a,h6m,h6l,h6a]<;>rfl)) rfl goFn48 (energy_firstError_2863_spec h8) rfl rfl rfl rfl
    (repeat (focus (show _ = _;(simp only [zz,shift]<;>exact rfl))))
    with_reducible apply TD.here
    repeat (first|(with_reducible first|refine mv ?_|refine TD.nil ?_)|((with_reducible apply TD.asg);(repeat (focus (show _ = _;first|exact k2 rfl|(simp only [zz]<;>exact rfl))));(with_reducible refine TD.here ?_)))
    cases hr
    refine ⟨.inr rfl,_,(by simp only [];exact rfl),?_⟩
    exact wr [] rfl .nil
  rfl

end Go.Rex

namespace Go.Rex
open Go.Proofs
open Go Go.Rex Go.RowKit
set_option maxRecDepth 100000
set_option maxHeartbeats 200000
def y14:=@wi64_0a1
theorem energy_firstWrong_eb6f_spec {v1 : Int} {v2 : (List (List Int))} {v3 : (List Int)} {v4 : Int} {v5 : Int} {v6 : Int} (hr : energy_firstWrong_eb6f v1 v2 v3 v4 = some (v5,v6)) : Spec (lim Tryz.prog) 46 [.v (.int .i64 v1),.func 54 [] [.fptr true [.list 1 (v2.map e_Li_),.list 1 (v3.map e_i)] 0,.fptr true [.v (.int .i64 v4)] 0]] ⟨[.tuple [.v (.int .i64 v5),.v (.int .i64 v6)]],[]⟩:=by
  unfold energy_firstWrong_eb6f at hr
  apply Spec.fn Tryz.func46 rfl
  focus (simp [Tryz.f46]<;>exact rfl)
  focus
    repeat (first|(with_reducible first|refine mv ?_|refine TO.nil ?_)|((with_reducible first|apply TO.asg|apply TO.mv);(repeat (focus (show _ = _;first|exact k2 rfl|(simp only [zz]<;>exact rfl))));(with_reducible apply TO.here))|((with_reducible apply TX.region);(focus (simp only []<;>exact rfl));(focus rfl);(try dsimp only)))
    obtain ⟨v12,h7,hr⟩:=Option.bind_eq_some_iff.1 hr
    refine TX.loopE (step:=energy_firstWrong_eb6f_l1 v1 v2 v3 v4) (x:=0) h7 (fun v7=>⟨.junk :: .func 54 [] [.fptr true [.list 1 (v2.map e_Li_),.list 1 (v3.map e_i)] 0,.fptr true [.v (.int .i64 v4)] 0] :: .junk :: .junk :: .junk :: .junk :: .junk :: .junk :: .v (.int .i64 v1) :: .v (.int .i64 v7) :: .junk :: .junk :: .junk :: .junk :: .junk :: .junk :: .junk :: .junk :: .junk :: .junk :: [],[]⟩) (fun e=>match e with|(.inl (v9,v10))=>(.ret,⟨.junk :: .junk :: .junk :: .junk :: .v (.int .i64 v9) :: .v (.int .i64 v10) :: .junk :: .junk :: .junk :: .junk :: .junk :: .junk :: .junk :: .junk :: .junk :: .junk :: .junk :: .junk :: .junk :: .junk :: [],[]⟩)|(.inr _)=>(.exit 0,⟨.junk :: .junk :: .junk :: .junk :: .junk :: .junk :: .junk :: .junk :: .junk :: .junk :: .junk :: .junk :: .junk :: .junk :: .junk :: .junk :: .junk :: .junk :: .junk :: .junk :: [],[]⟩)) ?_ ?_ ?_ ?_
    · rintro v7 v0 hr
      dsimp only [energy_firstWrong_eb6f_l1] at hr
      try dsimp only
      repeat (first|(with_reducible first|refine mv ?_|refine TO.nil ?_)|((with_reducible apply TO.bin);(repeat (focus (show _ = _;first|exact k2 rfl|(simp only [zz]<;>exact rfl))));(with_reducible apply TO.here))|((with_reducible apply TX.region);(focus (simp only []<;>exact rfl));(focus rfl);(try dsimp only)))
      rcases Bool.eq_false_or_eq_true ((decide (v7 < v1))) with h4|h4
      · rw [if_pos h4] at hr
        repeat (first|(with_reducible first|refine mv ?_|refine TO.nil ?_)|((with_reducible first|apply TO.mv|apply TO.asg);(repeat (focus (show _ = _;first|exact k2 rfl|(simp only [zz,h4]<;>exact rfl))));(with_reducible apply TO.here))|((with_reducible apply TX.region);(focus (simp only []<;>exact rfl));(focus rfl);(try dsimp only))|((with_reducible apply TX.cond_true);(focus rfl);(focus ((simp only [z1,h4];done)))))
        obtain ⟨v11,h5,hr⟩:=Option.bind_eq_some_iff.1 hr
        try dsimp only at hr
        apply TO.cal (by first|rfl|(simp only [twant,z1,z7,h4]<;>rfl)) rfl goFn54 (energy_CheckExchange_c1_c586_spec h5) rfl rfl rfl
        (repeat (focus (show _ = _;(simp only [zz,shift]<;>exact rfl))))
        with_reducible apply TO.here
        repeat (first|(with_reducible first|refine mv ?_|refine TO.nil ?_)|((with_reducible first|apply TO.asg|apply TO.mv|apply TO.bin);(repeat (focus (show _ = _;first|exact k2 rfl|(simp only [zz]<;>exact rfl))));(with_reducible apply TO.here))|((with_reducible apply TX.region);(focus (simp only []<;>exact rfl));(focus rfl);(try dsimp only)))
        rcases Bool.eq_false_or_eq_true ((decide (v11 ≠ 0))) with h6|h6
        · rw [if_pos h6] at hr
          repeat (first|(with_reducible first|refine mv ?_|refine TO.nil ?_)|((with_reducible first|apply TO.mv|apply TO.asg);(repeat (focus (show _ = _;first|exact k2 rfl|(simp only [zz,h6]<;>exact rfl))));(with_reducible apply TO.here))|((with_reducible apply TX.region);(focus (simp only []<;>exact rfl));(focus rfl);(try dsimp only))|((with_reducible apply TX.cond_true);(focus rfl);(focus ((simp only [z1,h6];done)))))
          cases hr
          refine ⟨rfl,?_⟩
          exact Wk.ren [] rfl .nil (by (repeat (first|exact RNs.nil|refine RNs.cons .junk ?_|refine RNs.cons (.keep rfl rfl) ?_)))
        · rw [if_neg (by rw [h6];exact Bool.false_ne_true)] at hr
          repeat (first|(with_reducible first|refine mv ?_|refine TO.nil ?_)|((with_reducible first|apply TO.bin|apply TO.mv);(repeat (focus (show _ = _;first|exact k2 rfl|(simp only [zz,h6]<;>exact rfl))));(with_reducible apply TO.here))|((with_reducible apply TX.region);(focus (simp only []<;>exact rfl));(focus rfl);(try dsimp only))|((with_reducible apply TX.cond_false);(focus rfl);(focus ((simp only [z1,h6];done)))))
          cases hr
          refine ⟨rfl,?_⟩
          exact Wk.ren [] rfl .nil (by (repeat (first|exact RNs.nil|refine RNs.cons .junk ?_|refine RNs.cons (.keep rfl rfl) ?_)))
      · rw [if_neg (by rw [h4];exact Bool.false_ne_true)] at hr
        repeat (first|with_reducible refine mv ?_|((with_reducible apply TX.cond_false);(focus rfl);(focus ((simp only [z1,h4];done)))))
        cases hr
        refine ⟨rfl,?_⟩
        exact Wk.ren [] rfl .nil (by (repeat (first|exact RNs.nil|refine RNs.cons .junk ?_)))
    · intro e h;rcases e with _|e<;>cases h
    · try dsimp only
      rcases v12 with ⟨v13,v14⟩|_
      · try dsimp only at hr
        try dsimp only
        repeat (first|with_reducible refine mv ?_)
        cases hr
        refine ⟨.inr rfl,_,(by simp only [];exact rfl),?_⟩
        exact wr [] rfl .nil
      · try dsimp only at hr
        try dsimp only
        repeat (first|(with_reducible first|refine mv ?_|refine TO.nil ?_)|((with_reducible apply TO.asg);(repeat (focus (show _ = _;first|exact k2 rfl|(simp only [zz]<;>exact rfl))));(with_reducible apply TO.here))|((with_reducible apply TX.region);(focus (simp only []<;>exact rfl));(focus rfl);(try dsimp only)))
        cases hr
        refine ⟨.inr rfl,_,(by simp only [];exact rfl),?_⟩
        exact wr [] rfl .nil
    · try dsimp only
      exact wr [] rfl .nil
  rfl

end Go.Rex

namespace Go.Rex
open Go.Proofs
open Go Go.Rex Go.RowKit
set_option maxRecDepth 100000
set_option maxHeartbeats 200000
def y15:=an @ag3 <| an @ag43 <| an @ag44 <| an @cs3 <| an @cs95 <| an @fd46_0 <| an @fd46_1 <| an @ok3 <| an @so136 <| an @so43 <| an @so44 <| an @zc3 <| @zc95
theorem energy_CheckExchange_spec {v1 : (List (List Int))} {v2 : (List Int)} {v3 : Int} {v4 : Int} (hr : energy_CheckExchange v1 v2 = some (v3,v4)) : Spec (lim Tryz.prog) 20 [.agg [.list 1 (v1.map e_Li_),.list 1 (v2.map e_i)]] ⟨[.tuple [.v (.int .i64 v3),.v (.int .i64 v4)]],[]⟩:=by
  unfold energy_CheckExchange at hr
  apply Spec.fn Tryz.func20 rfl
  focus (simp [Tryz.f20]<;>exact rfl)
  focus
    repeat (first|(with_reducible first|refine mv ?_|refine TO.nil ?_)|((with_reducible first|apply TO.bf|apply TO.asg|apply TO.fa|apply TO.ld|apply TO.len|apply TO.al|apply TO.sv);(repeat (focus (show _ = _;first|exact k1 rfl|exact k2 rfl|(simp only [zz,y15,Nat.reduceAdd,tfieldAddr,tload,rowOf,partT,tlen]<;>exact rfl)|exact rfl)));(with_reducible apply TO.here))|((with_reducible apply TX.region);(focus (simp only []<;>exact rfl));(focus rfl);(try dsimp only))|((with_reducible first|apply TD.ld|apply TD.bin);(repeat (focus (show _ = _;first|exact k2 rfl|(simp only [zz,y15,tload,rowOf,partT]<;>exact rfl)|exact rfl)));(with_reducible refine TD.here ?_))|((with_reducible apply TX.drawn);(focus decide +kernel);(focus (simp only []<;>exact rfl));(focus exact rfl);(try dsimp only)))
    obtain ⟨⟨v5,v6⟩,h1,hr⟩:=Option.bind_eq_some_iff.1 hr
    try dsimp only at hr
    first|apply TD.cal (by first|rfl|(simp only [twant,z1,z7]<;>rfl)) rfl goFn50 (energy_refuse_spec h1) rfl rfl rfl|apply TD.calw (by first|rfl|(simp only [twant,z1,z7]<;>rfl)) rfl goFn50 (energy_refuse_spec h1) rfl rfl rfl rfl
    (repeat (focus (show _ = _;(simp only [zz,shift]<;>exact rfl))))
    with_reducible apply TD.here
    repeat (first|((with_reducible first|apply TD.ld|apply TD.bin);(repeat (focus (show _ = _;first|exact k2 rfl|(simp only [zz,y15,tload,rowOf,partT]<;>exact rfl)|exact rfl)));(with_reducible refine TD.here ?_)))
    obtain ⟨⟨v7,v8⟩,h2,hr⟩:=Option.bind_eq_some_iff.1 hr
    try dsimp only at hr
    first|apply TD.cal (by first|rfl|(simp only [twant,z1,z7]<;>rfl)) rfl goFn50 (energy_refuse_spec h2) rfl rfl rfl|apply TD.calw (by first|rfl|(simp only [twant,z1,z7]<;>rfl)) rfl goFn50 (energy_refuse_spec h2) rfl rfl rfl rfl
    (repeat (focus (show _ = _;(simp only [zz,shift]<;>exact rfl))))
    with_reducible apply TD.here
    repeat (first|((with_reducible first|apply TD.fa|apply TD.ld|apply TD.len|apply TD.bin);(repeat (focus (show _ = _;first|exact k2 rfl|(simp only [zz,y15,Nat.reduceAdd,tfieldAddr,tload,rowOf,partT,tlen]<;>exact rfl)|exact rfl)));(with_reducible refine TD.here ?_)))
    obtain ⟨⟨v9,v10⟩,h3,hr⟩:=Option.bind_eq_some_iff.1 hr
    try dsimp only at hr
    first|apply TD.cal (by first|rfl|(simp only [twant,z1,z7]<;>rfl)) rfl goFn50 (energy_refuse_spec h3) rfl rfl rfl|apply TD.calw (by first|rfl|(simp only [twant,z1,z7]<;>rfl)) rfl goFn50 (energy_refuse_spec h3) rfl rfl rfl rfl
    (repeat (focus (show _ = _;(simp only [zz,shift]<;>exact rfl))))
    with_reducible apply TD.here
    repeat (first|((with_reducible apply TD.bs);(repeat (focus (show _ = _;first|exact k2 rfl|(simp only [zz,y15,Nat.reduceAdd,Nat.reduceMul,tslice,tparts]<;>exact rfl)|exact rfl)));(with_reducible refine TD.here ?_)))
    obtain ⟨v11,h4,hr⟩:=Option.bind_eq_some_iff.1 hr
    try dsimp only at hr
    first|apply TD.cal (by first|rfl|(simp only [twant,z1,z7]<;>rfl)) rfl goFn48 (energy_firstError_b825_spec h4) rfl rfl rfl|apply TD.calw (by first|rfl|(simp only [twant,z1,z7]<;>rfl)) rfl goFn48 (energy_firstError_b825_spec h4) rfl rfl rfl rfl
    (repeat (focus (show _ = _;(simp only [zz,shift]<;>exact rfl))))
    with_reducible apply TD.here
    repeat (first|(with_reducible first|refine mv ?_|refine TO.nil ?_)|((with_reducible first|apply TO.mv|apply TO.bin);(repeat (focus (show _ = _;first|exact k2 rfl|(simp only [zz]<;>exact rfl))));(with_reducible apply TO.here))|((with_reducible apply TX.region);(focus (simp only []<;>exact rfl));(focus rfl);(try dsimp only))|with_reducible refine TD.nil ?_|((with_reducible apply TD.asg);(repeat (focus (show _ = _;first|exact k2 rfl|(simp only [zz]<;>exact rfl))));(with_reducible refine TD.here ?_)))
    rcases Bool.eq_false_or_eq_true ((decide (v11 ≠ 0))) with h5|h5
    · rw [if_pos h5] at hr
      repeat (first|(with_reducible first|refine mv ?_|refine TO.nil ?_)|((with_reducible first|apply TO.mv|apply TO.asg);(repeat (focus (show _ = _;first|exact k2 rfl|(simp only [zz,h5]<;>exact rfl))));(with_reducible apply TO.here))|((with_reducible apply TX.region);(focus (simp only []<;>exact rfl));(focus rfl);(try dsimp only))|((with_reducible apply TX.cond_true);(focus rfl);(focus ((simp only [z1,h5];done)))))
      cases hr
      refine ⟨.inr rfl,_,(by simp only [];exact rfl),?_⟩
      exact Wk.ren [] rfl .nil (by (repeat (first|exact RNs.nil|refine RNs.cons (.keep rfl rfl) ?_)))
    · rw [if_neg (by rw [h5];exact Bool.false_ne_true)] at hr
      repeat (first|with_reducible refine mv ?_|((with_reducible apply TO.ld);(repeat (focus (show _ = _;first|exact k2 rfl|(simp only [zz,y15,tload,rowOf,partT,h5]<;>exact rfl)|exact rfl)));(with_reducible apply TO.here))|((with_reducible apply TX.region);(focus (simp only []<;>exact rfl));(focus rfl);(try dsimp only))|((with_reducible apply TX.cond_false);(focus rfl);(focus ((simp only [z1,h5];done)))))
      apply TO.frz 0 rfl rfl
      (repeat (focus (show _ = _;(simp only [zz,frz,frzB]<;>exact rfl))))
      with_reducible apply TO.here
      repeat (first|((with_reducible apply TO.mf);(repeat (focus (show _ = _;first|exact k1 rfl|exact k2 rfl|(simp only [zz]<;>exact rfl))));(with_reducible apply TO.here)))
      obtain ⟨⟨v12,v13⟩,h6,hr⟩:=Option.bind_eq_some_iff.1 hr
      try dsimp only at hr
      apply TO.cal (by first|rfl|(simp only [twant,z1,z7,h5]<;>rfl)) rfl goFn46 (energy_firstWrong_eb6f_spec h6) rfl rfl rfl
      (repeat (focus (show _ = _;(simp only [zz,Nat.reduceAdd,shift]<;>exact rfl))))
      with_reducible apply TO.here
      repeat (first|(with_reducible first|refine mv ?_|refine TO.nil ?_)|((with_reducible first|apply TO.ext|apply TO.asg);(repeat (focus (show _ = _;first|exact k2 rfl|(simp only [zz]<;>exact rfl))));(with_reducible apply TO.here)))
      cases hr
      refine ⟨.inr rfl,_,(by simp only [];exact rfl),?_⟩
      exact Wk.ren [] rfl .nil (by (repeat (first|exact RNs.nil|refine RNs.cons (.keep rfl rfl) ?_)))
  rfl

end Go.Rex

namespace Go.Rex
open Go.Proofs
open Go Go.Rex Go.RowKit
set_option maxRecDepth 100000
set_option maxHeartbeats 200000
def y16:=an @ag46 <| an @cs46 <| @ok46
theorem energy_exchanged_spec {v1 : (List (List Int))} {v2 : (List Int)} {v3 : Int} (hr : energy_exchanged v1 v2 = some (v3)) : Spec (lim Tryz.prog) 59 [.agg [.list 1 (v1.map e_Li_),.list 1 (v2.map e_i)]] ⟨[.func 104 [] [.fptr true [.v (.int .i64 v3)] 0]],[]⟩:=by
  unfold energy_exchanged at hr
  apply Spec.fn Tryz.func59 rfl
  focus (simp [Tryz.f59]<;>exact rfl)
  focus
    repeat (first|(with_reducible first|refine mv ?_|refine TO.nil ?_)|((with_reducible first|apply TO.bf|apply TO.asg|apply TO.ld);(repeat (focus (show _ = _;first|exact k1 rfl|exact k2 rfl|(simp only [zz,y16,Nat.reduceAdd,Nat.reduceLeDiff,tload,rowOf,partT]<;>exact rfl)|exact rfl)));(with_reducible apply TO.here))|((with_reducible apply TX.region);(focus (simp only []<;>exact rfl));(focus rfl);(try dsimp only)))
    obtain ⟨⟨v4,v5⟩,h1,hr⟩:=Option.bind_eq_some_iff.1 hr
    try dsimp only at hr
    apply TO.cal (by first|rfl|(simp only [twant,z1,z7]<;>rfl)) rfl goFn20 (energy_CheckExchange_spec h1) rfl rfl rfl
    (repeat (focus (show _ = _;(simp only [zz,shift]<;>exact rfl))))
    with_reducible apply TO.here
    repeat (first|((with_reducible apply TO.ext);(repeat (focus (show _ = _;first|exact k2 rfl|(simp only [zz]<;>exact rfl))));(with_reducible apply TO.here)))
    obtain ⟨v6,h2,hr⟩:=Option.bind_eq_some_iff.1 hr
    try dsimp only at hr
    apply TO.cal (by first|rfl|(simp only [twant,z1,z7]<;>rfl)) rfl goFn87 (energy_unnumbered_spec h2) rfl rfl rfl
    (repeat (focus (show _ = _;(simp only [zz,shift]<;>exact rfl))))
    with_reducible apply TO.here
    repeat (first|(with_reducible first|refine mv ?_|refine TO.nil ?_)|((with_reducible apply TO.asg);(repeat (focus (show _ = _;first|exact k2 rfl|(simp only [zz]<;>exact rfl))));(with_reducible apply TO.here)))
    cases hr
    refine ⟨.inr rfl,_,(by simp only [];exact rfl),?_⟩
    exact wr [] rfl .nil
  rfl

end Go.Rex

namespace Go.Rex
open Go.Proofs
open Go Go.Rex Go.RowKit
set_option maxRecDepth 100000
set_option maxHeartbeats 200000
theorem energy_stepped_spec {v1 : Int} {v2 : Bool} {v3 : Int} (hr : energy_stepped v1 = some (v2,v3)) : Spec (lim Tryz.prog) 61 [.v (.int .i64 v1)] ⟨[.func 85 [] [.fptr true [.v (.bool v2)] 0,.fptr true [.v (.int .i64 v3)] 0]],[]⟩:=by
  unfold energy_stepped at hr
  apply Spec.fn Tryz.func61 rfl
  focus (simp [Tryz.f61]<;>exact rfl)
  focus
    repeat (first|(with_reducible first|refine mv ?_|refine TO.nil ?_)|((with_reducible first|apply TO.asg|apply TO.mv);(repeat (focus (show _ = _;first|exact k2 rfl|(simp only [zz]<;>exact rfl))));(with_reducible apply TO.here))|((with_reducible apply TX.region);(focus (simp only []<;>exact rfl));(focus rfl);(try dsimp only)))
    obtain ⟨⟨v4,v5⟩,h1,hr⟩:=Option.bind_eq_some_iff.1 hr
    try dsimp only at hr
    apply TO.cal (by first|rfl|(simp only [twant,z1,z7]<;>rfl)) rfl goFn57 (energy_within_spec h1) rfl rfl rfl
    (repeat (focus (show _ = _;(simp only [zz,shift]<;>exact rfl))))
    with_reducible apply TO.here
    repeat (first|(with_reducible first|refine mv ?_|refine TO.nil ?_)|((with_reducible apply TO.asg);(repeat (focus (show _ = _;first|exact k2 rfl|(simp only [zz]<;>exact rfl))));(with_reducible apply TO.here)))
    cases hr
    refine ⟨.inr rfl,_,(by simp only [];exact rfl),?_⟩
    exact wr [] rfl .nil
  rfl

end Go.Rex

namespace Go.Rex
open Go.Proofs
open Go Go.Rex Go.RowKit
set_option maxRecDepth 100000
set_option maxHeartbeats 200000
def y17:=an @ag95 <| an @cs95 <| an @ok95 <| an @so136 <| an @wi64_0a1 <| an @wi64_1a1 <| @wi64_2a1
theorem energy_firstError_f1be_spec {v1 : Int} {v2 : Bool} {v3 : Int} {v4 : Bool} {v5 : Int} {v6 : Int} (hr : energy_firstError_f1be v1 v2 v3 v4 v5 = some (v6)) : Spec (lim Tryz.prog) 48 [.list 1 [[.func 104 [] [.fptr true [.v (.int .i64 v1)] 0]],[.func 85 [] [.fptr true [.v (.bool v2)] 0,.fptr true [.v (.int .i64 v3)] 0]],[.func 85 [] [.fptr true [.v (.bool v4)] 0,.fptr true [.v (.int .i64 v5)] 0]]]] ⟨[.v (.int .i64 v6)],[]⟩:=by
  unfold energy_firstError_f1be at hr
  apply Spec.fn Tryz.func48 rfl
  focus (simp [Tryz.f48]<;>exact rfl)
  focus
    repeat (first|(with_reducible first|refine mv ?_|refine TO.nil ?_)|((with_reducible first|apply TO.asg|apply TO.mv|apply TO.len);(repeat (focus (show _ = _;first|exact k2 rfl|(simp only [zz,y17,Nat.reduceAdd,tlen]<;>exact rfl))));(with_reducible apply TO.here))|((with_reducible apply TX.region);(focus (simp only []<;>exact rfl));(focus rfl);(try dsimp only)))
    refine TX.unroll ?_
    repeat (first|(with_reducible first|refine mv ?_|refine TO.nil ?_)|((with_reducible first|apply TO.bin|apply TO.ia|apply TO.ld|apply TO.asg|apply TO.mv);(repeat (focus (show _ = _;first|exact k2 rfl|(simp only [zz,y17,tindexAddr,z5,Int.reduceLT,Int.cast_ofNat_Int,tload,rowOf,partT]<;>exact rfl)|exact rfl)));(with_reducible apply TO.here))|((with_reducible apply TX.region);(focus (simp only []<;>exact rfl));(focus rfl);(try dsimp only))|((with_reducible apply TX.cond_true);(focus rfl);(focus (rfl))))
    obtain ⟨v7,h1,hr⟩:=Option.bind_eq_some_iff.1 hr
    try dsimp only at hr
    apply TO.cal (by first|rfl|(simp only [twant,z1,z7]<;>rfl)) rfl goFn104 (energy_unnumbered_c1_662c_spec h1) rfl rfl rfl
    (repeat (focus (show _ = _;(simp only [zz,shift]<;>exact rfl))))
    with_reducible apply TO.here
    repeat (first|(with_reducible first|refine mv ?_|refine TO.nil ?_)|((with_reducible first|apply TO.asg|apply TO.mv|apply TO.bin);(repeat (focus (show _ = _;first|exact k2 rfl|(simp only [zz]<;>exact rfl))));(with_reducible apply TO.here))|((with_reducible apply TX.region);(focus (simp only []<;>exact rfl));(focus rfl);(try dsimp only)))
    rcases Bool.eq_false_or_eq_true ((decide (v7 ≠ 0))) with h2|h2
    · rw [if_pos h2] at hr
      repeat (first|(with_reducible first|refine mv ?_|refine TO.nil ?_)|((with_reducible first|apply TO.mv|apply TO.asg);(repeat (focus (show _ = _;first|exact k2 rfl|(simp only [zz,h2]<;>exact rfl))));(with_reducible apply TO.here))|((with_reducible apply TX.region);(focus (simp only []<;>exact rfl));(focus rfl);(try dsimp only))|((with_reducible apply TX.cond_true);(focus rfl);(focus ((simp only [z1,h2];done)))))
      cases hr
      refine ⟨.inr rfl,_,(by simp only [];exact rfl),?_⟩
      exact Wk.ren [] rfl .nil (by (repeat (first|exact RNs.nil|refine RNs.cons (.keep rfl rfl) ?_)))
    · rw [if_neg (by rw [h2];exact Bool.false_ne_true)] at hr
      repeat (first|(with_reducible first|refine mv ?_|refine TO.nil ?_)|((with_reducible first|apply TO.bin|apply TO.mv);(repeat (focus (show _ = _;first|exact k2 rfl|(simp only [zz,y17,h2]<;>exact rfl))));(with_reducible apply TO.here))|((with_reducible apply TX.region);(focus (simp only []<;>exact rfl));(focus rfl);(try dsimp only))|((with_reducible apply TX.cond_false);(focus rfl);(focus ((simp only [z1,h2];done)))))
      refine TX.unroll ?_
      repeat (first|(with_reducible first|refine mv ?_|refine TO.nil ?_)|((with_reducible first|apply TO.bin|apply TO.ia|apply TO.ld|apply TO.asg|apply TO.mv);(repeat (focus (show _ = _;first|exact k2 rfl|(simp only [zz,y17,tindexAddr,z5,Int.reduceLT,tload,rowOf,partT]<;>exact rfl)|exact rfl)));(with_reducible apply TO.here))|((with_reducible apply TX.region);(focus (simp only []<;>exact rfl));(focus rfl);(try dsimp only))|((with_reducible apply TX.cond_true);(focus rfl);(focus (rfl))))
      obtain ⟨v8,h3,hr⟩:=Option.bind_eq_some_iff.1 hr
      try dsimp only at hr
      apply TO.cal (by first|rfl|(simp only [twant,z1,z7,h2]<;>rfl)) rfl goFn85 (energy_refuse_c1_11f9_spec h3) rfl rfl rfl
      (repeat (focus (show _ = _;(simp only [zz,shift]<;>exact rfl))))
      with_reducible apply TO.here
      repeat (first|(with_reducible first|refine mv ?_|refine TO.nil ?_)|((with_reducible first|apply TO.asg|apply TO.mv|apply TO.bin);(repeat (focus (show _ = _;first|exact k2 rfl|(simp only [zz]<;>exact rfl))));(with_reducible apply TO.here))|((with_reducible apply TX.region);(focus (simp only []<;>exact rfl));(focus rfl);(try dsimp only)))
      rcases Bool.eq_false_or_eq_true ((decide (v8 ≠ 0))) with h4|h4
      · rw [if_pos h4] at hr
        repeat (first|(with_reducible first|refine mv ?_|refine TO.nil ?_)|((with_reducible first|apply TO.mv|apply TO.asg);(repeat (focus (show _ = _;first|exact k2 rfl|(simp only [zz,h4]<;>exact rfl))));(with_reducible apply TO.here))|((with_reducible apply TX.region);(focus (simp only []<;>exact rfl));(focus rfl);(try dsimp only))|((with_reducible apply TX.cond_true);(focus rfl);(focus ((simp only [z1,h4];done)))))
        cases hr
        refine ⟨.inr rfl,_,(by simp only [];exact rfl),?_⟩
        exact Wk.ren [] rfl .nil (by (repeat (first|exact RNs.nil|refine RNs.cons (.keep rfl rfl) ?_)))
      · rw [if_neg (by rw [h4];exact Bool.false_ne_true)] at hr
        repeat (first|(with_reducible first|refine mv ?_|refine TO.nil ?_)|((with_reducible first|apply TO.bin|apply TO.mv);(repeat (focus (show _ = _;first|exact k2 rfl|(simp only [zz,y17,h4]<;>exact rfl))));(with_reducible apply TO.here))|((with_reducible apply TX.region);(focus (simp only []<;>exact rfl));(focus rfl);(try dsimp only))|((with_reducible apply TX.cond_false);(focus rfl);(focus ((simp only [z1,h4];done)))))
        refine TX.unroll ?_
        repeat (first|(with_reducible first|refine mv ?_|refine TO.nil ?_)|((with_reducible first|apply TO.bin|apply TO.ia|apply TO.ld|apply TO.asg|apply TO.mv);(repeat (focus (show _ = _;first|exact k2 rfl|(simp only [zz,y17,tindexAddr,z5,Int.reduceLT,tload,rowOf,partT]<;>exact rfl)|exact rfl)));(with_reducible apply TO.here))|((with_reducible apply TX.region);(focus (simp only []<;>exact rfl));(focus rfl);(try dsimp only))|((with_reducible apply TX.cond_true);(focus rfl);(focus (rfl))))
        obtain ⟨v9,h5,hr⟩:=Option.bind_eq_some_iff.1 hr
        try dsimp only at hr
        apply TO.cal (by first|rfl|(simp only [twant,z1,z7,h2,h4]<;>rfl)) rfl goFn85 (energy_refuse_c1_11f9_spec h5) rfl rfl rfl
        (repeat (focus (show _ = _;(simp only [zz,shift]<;>exact rfl))))
        with_reducible apply TO.here
        repeat (first|(with_reducible first|refine mv ?_|refine TO.nil ?_)|((with_reducible first|apply TO.asg|apply TO.mv|apply TO.bin);(repeat (focus (show _ = _;first|exact k2 rfl|(simp only [zz]<;>exact rfl))));(with_reducible apply TO.here))|((with_reducible apply TX.region);(focus (simp only []<;>exact rfl));(focus rfl);(try dsimp only)))
        rcases Bool.eq_false_or_eq_true ((decide (v9 ≠ 0))) with h6|h6
        · rw [if_pos h6] at hr
          repeat (first|(with_reducible first|refine mv ?_|refine TO.nil ?_)|((with_reducible first|apply TO.mv|apply TO.asg);(repeat (focus (show _ = _;first|exact k2 rfl|(simp only [zz,h6]<;>exact rfl))));(with_reducible apply TO.here))|((with_reducible apply TX.region);(focus (simp only []<;>exact rfl));(focus rfl);(try dsimp only))|((with_reducible apply TX.cond_true);(focus rfl);(focus ((simp only [z1,h6];done)))))
          cases hr
          refine ⟨.inr rfl,_,(by simp only [];exact rfl),?_⟩
          exact Wk.ren [] rfl .nil (by (repeat (first|exact RNs.nil|refine RNs.cons (.keep rfl rfl) ?_)))
        · rw [if_neg (by rw [h6];exact Bool.false_ne_true)] at hr
          repeat (first|(with_reducible first|refine mv ?_|refine TO.nil ?_)|((with_reducible first|apply TO.bin|apply TO.mv);(repeat (focus (show _ = _;first|exact k2 rfl|(simp only [zz,y17,h6]<;>exact rfl))));(with_reducible apply TO.here))|((with_reducible apply TX.region);(focus (simp only []<;>exact rfl));(focus rfl);(try dsimp only))|((with_reducible apply TX.cond_false);(focus rfl);(focus ((simp only [z1,h6];done)))))
          refine TX.unroll ?_
          repeat (first|(with_reducible first|refine mv ?_|refine TO.nil ?_)|((with_reducible first|apply TO.bin|apply TO.asg);(repeat (focus (show _ = _;first|exact k2 rfl|(simp only [zz]<;>exact rfl))));(with_reducible apply TO.here))|((with_reducible apply TX.region);(focus (simp only []<;>exact rfl));(focus rfl);(try dsimp only))|((with_reducible apply TX.cond_false);(focus rfl);(focus (rfl))))
          cases hr
          refine ⟨.inr rfl,_,(by simp only [];exact rfl),?_⟩
          exact Wk.ren [] rfl .nil (by (repeat (first|exact RNs.nil|refine RNs.cons (.keep rfl rfl) ?_)))
  rfl

end Go.Rex

namespace Go.Rex
open Go.Proofs
open Go Go.Rex Go.RowKit
set_option maxRecDepth 100000
set_option maxHeartbeats 200000
def y18:=an @ag3 <| an @cs3 <| an @ok3 <| an @so44 <| @wi64_1a1
theorem slices_Min_int_int_spec {v1 : (List Int)} {v2 : Int} (hr : slices_Min_int_int v1 = some (v2)) : Spec (lim Tryz.prog) 66 [.list 1 (v1.map e_i)] ⟨[.v (.int .i64 v2)],[]⟩:=by
  unfold slices_Min_int_int at hr
  apply Spec.fn Tryz.func66 rfl
  focus (simp [Tryz.f66]<;>exact rfl)
  focus
    repeat (first|(with_reducible first|refine mv ?_|refine TO.nil ?_)|((with_reducible first|apply TO.asg|apply TO.mv|apply TO.len|apply TO.bin);(repeat (focus (show _ = _;first|exact k2 rfl|(simp only [zz,y18,tlen]<;>exact rfl))));(with_reducible apply TO.here))|((with_reducible apply TX.region);(focus (simp only []<;>exact rfl));(focus rfl);(try dsimp only)))
    rcases Bool.eq_false_or_eq_true ((decide ((v1.length : Int) < 1))) with h1|h1
    · rw [if_pos h1] at hr
      cases hr
    · rw [if_neg (by rw [h1];exact Bool.false_ne_true)] at hr
      repeat (first|with_reducible refine mv ?_|((with_reducible apply TO.mv);(repeat (focus (show _ = _;first|exact k2 rfl|(simp only [zz,h1]<;>exact rfl))));(with_reducible apply TO.here))|((with_reducible apply TX.region);(focus (simp only []<;>exact rfl));(focus rfl);(try dsimp only))|((with_reducible apply TX.cond_false);(focus rfl);(focus ((simp only [z1,h1];done)))))
      obtain ⟨v3,h2,hr⟩:=Option.bind_eq_some_iff.1 hr
      try dsimp only at hr
      have h2m:=tidx_map (f:=e_i) h2
      have h2l:=getI_lt h2
      try simp only [List.length_set] at h2l
      have h2a:=getI_at h2
      repeat (first|(with_reducible first|refine mv ?_|refine TO.nil ?_)|((with_reducible first|apply TO.ia|apply TO.ld|apply TO.asg);(repeat (focus (show _ = _;first|exact k2 rfl|(simp only [zz,y18,e_i,tindexAddr,tload,rowOf,partT,h2m]<;>exact rfl)|exact rfl)));(with_reducible apply TO.here))|((with_reducible apply TX.region);(focus (simp only []<;>exact rfl));(focus rfl);(try dsimp only)))
      obtain ⟨v9,h7,hr⟩:=Option.bind_eq_some_iff.1 hr
      try dsimp only at hr
      refine TX.loopE (step:=slices_Min_int_int_l1 v1) (x:=(v3,1)) h7 (fun (v4,v5)=>⟨.list 1 (v1.map e_i) :: .junk :: .junk :: .v (.int .i64 v4) :: .v (.int .i64 v5) :: .junk :: .junk :: .junk :: .junk :: .junk :: .junk :: .junk :: .junk :: .junk :: .junk :: .junk :: .junk :: .junk :: .junk :: .junk :: .junk :: .junk :: .junk :: .junk :: .junk :: [],[]⟩) (fun v7=>(.exit 0,⟨.junk :: .junk :: .junk :: .v (.int .i64 v7) :: .junk :: .junk :: .junk :: .junk :: .junk :: .junk :: .junk :: .junk :: .junk :: .junk :: .junk :: .junk :: .junk :: .junk :: .junk :: .junk :: .junk :: .junk :: .junk :: .junk :: .junk :: [],[]⟩)) ?_ ?_ ?_ ?_
      · rintro ⟨v4,v5⟩ v0 hr
        dsimp only [slices_Min_int_int_l1] at hr
        try dsimp only
        repeat (first|(with_reducible first|refine mv ?_|refine TO.nil ?_)|((with_reducible first|apply TO.mv|apply TO.len|apply TO.bin);(repeat (focus (show _ = _;first|exact k2 rfl|(simp only [zz,y18,tlen]<;>exact rfl))));(with_reducible apply TO.here))|((with_reducible apply TX.region);(focus (simp only []<;>exact rfl));(focus rfl);(try dsimp only)))
        rcases Bool.eq_false_or_eq_true ((decide (v5 < (v1.length : Int)))) with h5|h5
        · rw [if_pos h5] at hr
          repeat (first|with_reducible refine mv ?_|((with_reducible apply TO.mv);(repeat (focus (show _ = _;first|exact k2 rfl|(simp only [zz,h5]<;>exact rfl))));(with_reducible apply TO.here))|((with_reducible apply TX.region);(focus (simp only []<;>exact rfl));(focus rfl);(try dsimp only))|((with_reducible apply TX.cond_true);(focus rfl);(focus ((simp only [z1,h5];done)))))
          obtain ⟨v8,h6,hr⟩:=Option.bind_eq_some_iff.1 hr
          try dsimp only at hr
          have h6m:=tidx_map (f:=e_i) h6
          have h6l:=getI_lt h6
          try simp only [List.length_set] at h6l
          have h6a:=getI_at h6
          repeat (first|((with_reducible first|apply TO.ia|apply TO.ld);(repeat (focus (show _ = _;first|exact k2 rfl|(simp only [zz,y18,e_i,tindexAddr,tload,rowOf,partT,h6m]<;>exact rfl)|exact rfl)));(with_reducible apply TO.here)))
          apply TO.pop1 (by first|rfl|(simp only [twant,z1,z7,h1,h2m,h2l,h2a,h5,h6m,h6l,h6a]<;>rfl)) (pop_min rfl rfl)
          (repeat (focus (show _ = _;(simp only [zz]<;>exact rfl))))
          with_reducible apply TO.here
          repeat (first|(with_reducible first|refine mv ?_|refine TO.nil ?_)|((with_reducible first|apply TO.asg|apply TO.mv|apply TO.bin);(repeat (focus (show _ = _;first|exact k2 rfl|(simp only [zz]<;>exact rfl))));(with_reducible apply TO.here))|((with_reducible apply TX.region);(focus (simp only []<;>exact rfl));(focus rfl);(try dsimp only)))
          cases hr
          refine ⟨rfl,?_⟩
          exact Wk.ren [] rfl .nil (by (repeat (first|exact RNs.nil|refine RNs.cons .junk ?_|refine RNs.cons (.keep rfl rfl) ?_)))
        · rw [if_neg (by rw [h5];exact Bool.false_ne_true)] at hr
          repeat (first|with_reducible refine mv ?_|((with_reducible apply TX.cond_false);(focus rfl);(focus ((simp only [z1,h5];done)))))
          cases hr
          refine ⟨rfl,?_⟩
          exact Wk.ren [] rfl .nil (by (repeat (first|exact RNs.nil|refine RNs.cons .junk ?_|refine RNs.cons (.keep rfl rfl) ?_)))
      · intro e h;cases h
      · try dsimp only
        repeat (first|(with_reducible first|refine mv ?_|refine TO.nil ?_)|((with_reducible first|apply TO.mv|apply TO.asg);(repeat (focus (show _ = _;first|exact k2 rfl|(simp only [zz]<;>exact rfl))));(with_reducible apply TO.here))|((with_reducible apply TX.region);(focus (simp only []<;>exact rfl));(focus rfl);(try dsimp only)))
        cases hr
        refine ⟨.inr rfl,_,(by simp only [];exact rfl),?_⟩
        exact Wk.ren [] rfl .nil (by (repeat (first|exact RNs.nil|refine RNs.cons (.keep rfl rfl) ?_)))
      · try dsimp only
        exact Wk.ren [] rfl .nil (by (repeat (first|exact RNs.nil|refine RNs.cons .junk ?_|refine RNs.cons (.keep rfl rfl) ?_)))
  rfl

end Go.Rex

namespace Go.Rex
open Go.Proofs
open Go Go.Rex Go.RowKit
set_option maxRecDepth 100000
set_option maxHeartbeats 200000
def y19:=an @ag3 <| an @cs3 <| an @ok3 <| an @so44 <| @wi64_1a1
theorem slices_Max_int_int_spec {v1 : (List Int)} {v2 : Int} (hr : slices_Max_int_int v1 = some (v2)) : Spec (lim Tryz.prog) 67 [.list 1 (v1.map e_i)] ⟨[.v (.int .i64 v2)],[]⟩:=by
  unfold slices_Max_int_int at hr
  apply Spec.fn Tryz.func67 rfl
  focus (simp [Tryz.f67]<;>exact rfl)
  focus
    repeat (first|(with_reducible first|refine mv ?_|refine TO.nil ?_)|((with_reducible first|apply TO.asg|apply TO.mv|apply TO.len|apply TO.bin);(repeat (focus (show _ = _;first|exact k2 rfl|(simp only [zz,y19,tlen]<;>exact rfl))));(with_reducible apply TO.here))|((with_reducible apply TX.region);(focus (simp only []<;>exact rfl));(focus rfl);(try dsimp only)))
    rcases Bool.eq_false_or_eq_true ((decide ((v1.length : Int) < 1))) with h1|h1
    · rw [if_pos h1] at hr
      cases hr
    · rw [if_neg (by rw [h1];exact Bool.false_ne_true)] at hr
      repeat (first|with_reducible refine mv ?_|((with_reducible apply TO.mv);(repeat (focus (show _ = _;first|exact k2 rfl|(simp only [zz,h1]<;>exact rfl))));(with_reducible apply TO.here))|((with_reducible apply TX.region);(focus (simp only []<;>exact rfl));(focus rfl);(try dsimp only))|((with_reducible apply TX.cond_false);(focus rfl);(focus ((simp only [z1,h1];done)))))
      obtain ⟨v3,h2,hr⟩:=Option.bind_eq_some_iff.1 hr
      try dsimp only at hr
      have h2m:=tidx_map (f:=e_i) h2
      have h2l:=getI_lt h2
      try simp only [List.length_set] at h2l
      have h2a:=getI_at h2
      repeat (first|(with_reducible first|refine mv ?_|refine TO.nil ?_)|((with_reducible first|apply TO.ia|apply TO.ld|apply TO.asg);(repeat (focus (show _ = _;first|exact k2 rfl|(simp only [zz,y19,e_i,tindexAddr,tload,rowOf,partT,h2m]<;>exact rfl)|exact rfl)));(with_reducible apply TO.here))|((with_reducible apply TX.region);(focus (simp only []<;>exact rfl));(focus rfl);(try dsimp only)))
      obtain ⟨v9,h7,hr⟩:=Option.bind_eq_some_iff.1 hr
      try dsimp only at hr
      refine TX.loopE (step:=slices_Max_int_int_l1 v1) (x:=(v3,1)) h7 (fun (v4,v5)=>⟨.list 1 (v1.map e_i) :: .junk :: .junk :: .v (.int .i64 v4) :: .v (.int .i64 v5) :: .junk :: .junk :: .junk :: .junk :: .junk :: .junk :: .junk :: .junk :: .junk :: .junk :: .junk :: .junk :: .junk :: .junk :: .junk :: .junk :: .junk :: .junk :: .junk :: .junk :: [],[]⟩) (fun v7=>(.exit 0,⟨.junk :: .junk :: .junk :: .v (.int .i64 v7) :: .junk :: .junk :: .junk :: .junk :: .junk :: .junk :: .junk :: .junk :: .junk :: .junk :: .junk :: .junk :: .junk :: .junk :: .junk :: .junk :: .junk :: .junk :: .junk :: .junk :: .junk :: [],[]⟩)) ?_ ?_ ?_ ?_
      · rintro ⟨v4,v5⟩ v0 hr
        dsimp only [slices_Max_int_int_l1] at hr
        try dsimp only
        repeat (first|(with_reducible first|refine mv ?_|refine TO.nil ?_)|((with_reducible first|apply TO.mv|apply TO.len|apply TO.bin);(repeat (focus (show _ = _;first|exact k2 rfl|(simp only [zz,y19,tlen]<;>exact rfl))));(with_reducible apply TO.here))|((with_reducible apply TX.region);(focus (simp only []<;>exact rfl));(focus rfl);(try dsimp only)))
        rcases Bool.eq_false_or_eq_true ((decide (v5 < (v1.length : Int)))) with h5|h5
        · rw [if_pos h5] at hr
          repeat (first|with_reducible refine mv ?_|((with_reducible apply TO.mv);(repeat (focus (show _ = _;first|exact k2 rfl|(simp only [zz,h5]<;>exact rfl))));(with_reducible apply TO.here))|((with_reducible apply TX.region);(focus (simp only []<;>exact rfl));(focus rfl);(try dsimp only))|((with_reducible apply TX.cond_true);(focus rfl);(focus ((simp only [z1,h5];done)))))
          obtain ⟨v8,h6,hr⟩:=Option.bind_eq_some_iff.1 hr
          try dsimp only at hr
          have h6m:=tidx_map (f:=e_i) h6
          have h6l:=getI_lt h6
          try simp only [List.length_set] at h6l
          have h6a:=getI_at h6
          repeat (first|((with_reducible first|apply TO.ia|apply TO.ld);(repeat (focus (show _ = _;first|exact k2 rfl|(simp only [zz,y19,e_i,tindexAddr,tload,rowOf,partT,h6m]<;>exact rfl)|exact rfl)));(with_reducible apply TO.here)))
          apply TO.pop1 (by first|rfl|(simp only [twant,z1,z7,h1,h2m,h2l,h2a,h5,h6m,h6l,h6a]<;>rfl)) (pop_max rfl rfl)
          (repeat (focus (show _ = _;(simp only [zz]<;>exact rfl))))
          with_reducible apply TO.here
          repeat (first|(with_reducible first|refine mv ?_|refine TO.nil ?_)|((with_reducible first|apply TO.asg|apply TO.mv|apply TO.bin);(repeat (focus (show _ = _;first|exact k2 rfl|(simp only [zz]<;>exact rfl))));(with_reducible apply TO.here))|((with_reducible apply TX.region);(focus (simp only []<;>exact rfl));(focus rfl);(try dsimp only)))
          cases hr
          refine ⟨rfl,?_⟩
          exact Wk.ren [] rfl .nil (by (repeat (first|exact RNs.nil|refine RNs.cons .junk ?_|refine RNs.cons (.keep rfl rfl) ?_)))
        · rw [if_neg (by rw [h5];exact Bool.false_ne_true)] at hr
          repeat (first|with_reducible refine mv ?_|((with_reducible apply TX.cond_false);(focus rfl);(focus ((simp only [z1,h5];done)))))
          cases hr
          refine ⟨rfl,?_⟩
          exact Wk.ren [] rfl .nil (by (repeat (first|exact RNs.nil|refine RNs.cons .junk ?_|refine RNs.cons (.keep rfl rfl) ?_)))
      · intro e h;cases h
      · try dsimp only
        repeat (first|(with_reducible first|refine mv ?_|refine TO.nil ?_)|((with_reducible first|apply TO.mv|apply TO.asg);(repeat (focus (show _ = _;first|exact k2 rfl|(simp only [zz]<;>exact rfl))));(with_reducible apply TO.here))|((with_reducible apply TX.region);(focus (simp only []<;>exact rfl));(focus rfl);(try dsimp only)))
        cases hr
        refine ⟨.inr rfl,_,(by simp only [];exact rfl),?_⟩
        exact Wk.ren [] rfl .nil (by (repeat (first|exact RNs.nil|refine RNs.cons (.keep rfl rfl) ?_)))
      · try dsimp only
        exact Wk.ren [] rfl .nil (by (repeat (first|exact RNs.nil|refine RNs.cons .junk ?_|refine RNs.cons (.keep rfl rfl) ?_)))
  rfl

end Go.Rex

namespace Go.Rex
open Go.Proofs
open Go Go.Rex Go.RowKit
set_option maxRecDepth 100000
set_option maxHeartbeats 200000
def y20:=an @ag97 <| an @cs97 <| an @ok97 <| an @st30 <| an @st97 <| an @zc30 <| @zc97
theorem energy_between_spec {v1 : Int} {v2 : Int} {v3 : Int} {v4 : Int} (hr : energy_between v1 v2 = some (v3,v4)) : Spec (lim Tryz.prog) 81 [.v (.int .i64 v1),.v (.int .i64 v2)] ⟨[.agg [.v (.int .i64 v3),.v (.int .i64 v4)]],[]⟩:=by
  unfold energy_between at hr
  apply Spec.fn Tryz.func81 rfl
  focus (simp [Tryz.f81]<;>exact rfl)
  focus
    repeat (first|(with_reducible first|refine mv ?_|refine TO.nil ?_)|((with_reducible first|apply TO.al|apply TO.mv|apply TO.bld|apply TO.sv);(repeat (focus (show _ = _;first|exact k1 rfl|exact k2 rfl|(simp only [zz,y20,Nat.reduceAdd,Nat.reduceLeDiff,tbuild,tfill]<;>exact rfl))));(with_reducible apply TO.here))|((with_reducible apply TX.region);(focus (simp only []<;>exact rfl));(focus rfl);(try dsimp only)))
    cases hr
    refine ⟨.inr rfl,_,(by simp only [];exact rfl),?_⟩
    exact wr [] rfl .nil
  rfl

end Go.Rex

namespace Go.Rex
open Go.Proofs
open Go Go.Rex Go.RowKit
set_option maxRecDepth 100000
set_option maxHeartbeats 200000
def y21:=an @ag97 <| an @cs97 <| an @ok97 <| @zc97
theorem energy_exactly_spec {v1 : Int} {v2 : Int} {v3 : Int} (hr : energy_exactly v1 = some (v2,v3)) : Spec (lim Tryz.prog) 68 [.v (.int .i64 v1)] ⟨[.agg [.v (.int .i64 v2),.v (.int .i64 v3)]],[]⟩:=by
  unfold energy_exactly at hr
  apply Spec.fn Tryz.func68 rfl
  focus (simp [Tryz.f68]<;>exact rfl)
  focus
    repeat (first|(with_reducible first|refine mv ?_|refine TO.nil ?_)|((with_reducible first|apply TO.al|apply TO.mv);(repeat (focus (show _ = _;first|exact k2 rfl|(simp only [zz,y21]<;>exact rfl))));(with_reducible apply TO.here))|((with_reducible apply TX.region);(focus (simp only []<;>exact rfl));(focus rfl);(try dsimp only)))
    obtain ⟨⟨v4,v5⟩,h1,hr⟩:=Option.bind_eq_some_iff.1 hr
    try dsimp only at hr
    apply TO.cal (by first|rfl|(simp only [twant,z1,z7]<;>rfl)) rfl goFn81 (energy_between_spec h1) rfl rfl rfl
    (repeat (focus (show _ = _;(simp only [zz,Nat.reduceAdd,shift]<;>exact rfl))))
    with_reducible apply TO.here
    repeat (first|(with_reducible first|refine mv ?_|refine TO.nil ?_)|((with_reducible apply TO.sv);(repeat (focus (show _ = _;first|exact k1 rfl|exact k2 rfl|(simp only [zz,y21,Nat.reduceAdd]<;>exact rfl))));(with_reducible apply TO.here)))
    cases hr
    refine ⟨.inr rfl,_,(by simp only [];exact rfl),?_⟩
    exact wr [] rfl .nil
  rfl

end Go.Rex

namespace Go.Rex
open Go.Proofs
open Go Go.Rex Go.RowKit
set_option maxRecDepth 100000
set_option maxHeartbeats 200000
theorem energy_up_spec {v1 : Int} {v2 : Int} {v3 : Int} (hr : energy_up v1 v2 = some (v3)) : Spec (lim Tryz.prog) 69 [.v (.int .i64 v1),.v (.int .i64 v2)] ⟨[.v (.int .i64 v3)],[]⟩:=by
  unfold energy_up at hr
  apply Spec.fn Tryz.func69 rfl
  focus (simp [Tryz.f69]<;>exact rfl)
  focus
    repeat (first|(with_reducible first|refine mv ?_|refine TO.nil ?_)|((with_reducible first|apply TO.asg|apply TO.mv|apply TO.bin);(repeat (focus (show _ = _;first|exact k2 rfl|(simp only [zz]<;>exact rfl))));(with_reducible apply TO.here))|((with_reducible apply TX.region);(focus (simp only []<;>exact rfl));(focus rfl);(try dsimp only)))
    by_cases h1 : v2 = 0
    · rw [if_pos h1] at hr
      cases hr
    · rw [if_neg h1] at hr
      repeat (first|(with_reducible first|refine mv ?_|refine TO.nil ?_)|((with_reducible first|apply TO.bin|apply TO.asg);(repeat (focus (show _ = _;first|exact k2 rfl|(simp only [zz,h1]<;>exact rfl))));(with_reducible apply TO.here)))
      cases hr
      refine ⟨.inr rfl,_,(by simp only [];exact rfl),?_⟩
      exact wr [] rfl .nil
  rfl

end Go.Rex

namespace Go.Rex
open Go.Proofs
open Go Go.Rex Go.RowKit
set_option maxRecDepth 100000
set_option maxHeartbeats 200000
theorem energy_down_spec {v1 : Int} {v2 : Int} {v3 : Int} (hr : energy_down v1 v2 = some (v3)) : Spec (lim Tryz.prog) 70 [.v (.int .i64 v1),.v (.int .i64 v2)] ⟨[.v (.int .i64 v3)],[]⟩:=by
  unfold energy_down at hr
  apply Spec.fn Tryz.func70 rfl
  focus (simp [Tryz.f70]<;>exact rfl)
  focus
    repeat (first|(with_reducible first|refine mv ?_|refine TO.nil ?_)|((with_reducible first|apply TO.asg|apply TO.mv);(repeat (focus (show _ = _;first|exact k2 rfl|(simp only [zz]<;>exact rfl))));(with_reducible apply TO.here))|((with_reducible apply TX.region);(focus (simp only []<;>exact rfl));(focus rfl);(try dsimp only)))
    by_cases h1 : v2 = 0
    · rw [if_pos h1] at hr
      cases hr
    · rw [if_neg h1] at hr
      repeat (first|(with_reducible first|refine mv ?_|refine TO.nil ?_)|((with_reducible first|apply TO.bin|apply TO.asg);(repeat (focus (show _ = _;first|exact k2 rfl|(simp only [zz,h1]<;>exact rfl))));(with_reducible apply TO.here)))
      cases hr
      refine ⟨.inr rfl,_,(by simp only [];exact rfl),?_⟩
      exact wr [] rfl .nil
  rfl

end Go.Rex

namespace Go.Rex
open Go.Proofs
open Go Go.Rex Go.RowKit
set_option maxRecDepth 100000
set_option maxHeartbeats 1000000
def y22:=an @ag3 <| an @ag30 <| an @ag44 <| an @ag46 <| an @cs3 <| an @cs30 <| an @cs46 <| an @cs95 <| an @cs97 <| an @fd30_0 <| an @fd30_1 <| an @fd46_1 <| an @fd97_0 <| an @ok3 <| an @ok30 <| an @ok46 <| an @ok97 <| an @so136 <| an @so44 <| an @st30 <| an @zc30 <| an @zc95 <| an @zc97 <| @wi64_0a1
theorem energy_BoundOf_spec {v1 : (List (List Int))} {v2 : (List Int)} {v3 : Int} {v4 : Int} {v5 : Int} {v6 : Int} {v7 : Int} (hr : energy_BoundOf v1 v2 v3 v4 = some (v5,v6,v7)) : Spec (lim Tryz.prog) 34 [.agg [.list 1 (v1.map e_Li_),.list 1 (v2.map e_i)],.v (.int .i64 v3),.v (.int .i64 v4)] ⟨[.tuple [.agg [.v (.int .i64 v5),.v (.int .i64 v6)],.v (.int .i64 v7)]],[]⟩:=by
  unfold energy_BoundOf at hr
  apply Spec.fn Tryz.func34 rfl
  focus (simp [Tryz.f34]<;>exact rfl)
  focus
    repeat (first|(with_reducible first|refine mv ?_|refine TO.nil ?_)|((with_reducible first|apply TO.bf|apply TO.al|apply TO.asg|apply TO.ld);(repeat (focus (show _ = _;first|exact k1 rfl|exact k2 rfl|(simp only [zz,y22,Nat.reduceAdd,Nat.reduceLeDiff,tload,rowOf,partT]<;>exact rfl)|exact rfl)));(with_reducible apply TO.here))|((with_reducible apply TX.region);(focus (simp only []<;>exact rfl));(focus rfl);(try dsimp only)))
    obtain ⟨v8,h1,hr⟩:=Option.bind_eq_some_iff.1 hr
    try dsimp only at hr
    apply TO.cal (by first|rfl|(simp only [twant,z1,z7]<;>rfl)) rfl goFn59 (energy_exchanged_spec h1) rfl rfl rfl
    (repeat (focus (show _ = _;(simp only [zz,shift]<;>exact rfl))))
    with_reducible apply TO.here
    repeat (first|((with_reducible apply TO.mv);(repeat (focus (show _ = _;first|exact k2 rfl|(simp only [zz]<;>exact rfl))));(with_reducible apply TO.here)))
    obtain ⟨⟨v9,v10⟩,h2,hr⟩:=Option.bind_eq_some_iff.1 hr
    try dsimp only at hr
    apply TO.cal (by first|rfl|(simp only [twant,z1,z7]<;>rfl)) rfl goFn57 (energy_within_spec h2) rfl rfl rfl
    (repeat (focus (show _ = _;(simp only [zz,shift]<;>exact rfl))))
    with_reducible apply TO.here
    repeat (first|((with_reducible apply TO.mv);(repeat (focus (show _ = _;first|exact k2 rfl|(simp only [zz]<;>exact rfl))));(with_reducible apply TO.here)))
    obtain ⟨⟨v11,v12⟩,h3,hr⟩:=Option.bind_eq_some_iff.1 hr
    try dsimp only at hr
    apply TO.cal (by first|rfl|(simp only [twant,z1,z7]<;>rfl)) rfl goFn61 (energy_stepped_spec h3) rfl rfl rfl
    (repeat (focus (show _ = _;(simp only [zz,shift]<;>exact rfl))))
    with_reducible apply TO.here
    repeat (first|((with_reducible apply TO.bs);(repeat (focus (show _ = _;first|exact k2 rfl|(simp only [zz,y22,Nat.reduceAdd,Nat.reduceMul,tslice,tparts]<;>exact rfl)|exact rfl)));(with_reducible apply TO.here)))
    obtain ⟨v13,h4,hr⟩:=Option.bind_eq_some_iff.1 hr
    try dsimp only at hr
    apply TO.cal (by first|rfl|(simp only [twant,z1,z7]<;>rfl)) rfl goFn48 (energy_firstError_f1be_spec h4) rfl rfl rfl
    (repeat (focus (show _ = _;(simp only [zz,shift]<;>exact rfl))))
    with_reducible apply TO.here
    repeat (first|(with_reducible first|refine mv ?_|refine TO.nil ?_)|((with_reducible first|apply TO.asg|apply TO.mv|apply TO.bin);(repeat (focus (show _ = _;first|exact k2 rfl|(simp only [zz]<;>exact rfl))));(with_reducible apply TO.here))|((with_reducible apply TX.region);(focus (simp only []<;>exact rfl));(focus rfl);(try dsimp only)))
    rcases Bool.eq_false_or_eq_true ((decide (v13 ≠ 0))) with h5|h5
    · rw [if_pos h5] at hr
      repeat (first|(with_reducible first|refine mv ?_|refine TO.nil ?_)|((with_reducible first|apply TO.bld|apply TO.mv|apply TO.sv|apply TO.asg);(repeat (focus (show _ = _;first|exact k1 rfl|exact k2 rfl|(simp only [zz,y22,Nat.reduceAdd,tbuild,tfill,h5]<;>exact rfl))));(with_reducible apply TO.here))|((with_reducible apply TX.region);(focus (simp only []<;>exact rfl));(focus rfl);(try dsimp only))|((with_reducible apply TX.cond_true);(focus rfl);(focus ((simp only [z1,h5];done)))))
      cases hr
      refine ⟨.inr rfl,_,(by simp only [];exact rfl),?_⟩
      exact Wk.ren [] rfl .nil (by (repeat (first|exact RNs.nil|refine RNs.cons (.keep rfl rfl) ?_)))
    · rw [if_neg (by rw [h5];exact Bool.false_ne_true)] at hr
      repeat (first|with_reducible refine mv ?_|((with_reducible first|apply TD.fa|apply TD.ld);(repeat (focus (show _ = _;first|exact k2 rfl|(simp only [zz,y22,Nat.reduceAdd,tfieldAddr,tload,rowOf,partT,h5]<;>exact rfl)|exact rfl)));(with_reducible refine TD.here ?_))|((with_reducible apply TX.drawn);(focus decide +kernel);(focus (simp only []<;>exact rfl));(focus exact rfl);(try dsimp only))|((with_reducible apply TX.cond_false);(focus rfl);(focus ((simp only [z1,h5];done)))))
      obtain ⟨v14,h6,hr⟩:=Option.bind_eq_some_iff.1 hr
      try dsimp only at hr
      first|apply TD.cal (by first|rfl|(simp only [twant,z1,z7,h5]<;>rfl)) rfl goFn66 (slices_Min_int_int_spec h6) rfl rfl rfl|apply TD.calw (by first|rfl|(simp only [twant,z1,z7,h5]<;>rfl)) rfl goFn66 (slices_Min_int_int_spec h6) rfl rfl rfl rfl
      (repeat (focus (show _ = _;(simp only [zz,shift]<;>exact rfl))))
      with_reducible apply TD.here
      repeat (first|((with_reducible first|apply TD.fa|apply TD.ld);(repeat (focus (show _ = _;first|exact k2 rfl|(simp only [zz,y22,Nat.reduceAdd,tfieldAddr,tload,rowOf,partT]<;>exact rfl)|exact rfl)));(with_reducible refine TD.here ?_)))
      obtain ⟨v15,h7,hr⟩:=Option.bind_eq_some_iff.1 hr
      try dsimp only at hr
      first|apply TD.cal (by first|rfl|(simp only [twant,z1,z7,h5]<;>rfl)) rfl goFn67 (slices_Max_int_int_spec h7) rfl rfl rfl|apply TD.calw (by first|rfl|(simp only [twant,z1,z7,h5]<;>rfl)) rfl goFn67 (slices_Max_int_int_spec h7) rfl rfl rfl rfl
      (repeat (focus (show _ = _;(simp only [zz,shift]<;>exact rfl))))
      with_reducible apply TD.here
      repeat (first|with_reducible refine mv ?_|((with_reducible apply TO.mv);(repeat (focus (show _ = _;first|exact k2 rfl|(simp only [zz]<;>exact rfl))));(with_reducible apply TO.here))|((with_reducible apply TX.region);(focus (simp only []<;>exact rfl));(focus rfl);(try dsimp only))|with_reducible refine TD.nil ?_|((with_reducible apply TD.asg);(repeat (focus (show _ = _;first|exact k2 rfl|(simp only [zz]<;>exact rfl))));(with_reducible refine TD.here ?_)))
      obtain ⟨⟨v16,v17⟩,h8,hr⟩:=Option.bind_eq_some_iff.1 hr
      try dsimp only at hr
      apply TO.cal (by first|rfl|(simp only [twant,z1,z7,h5]<;>rfl)) rfl goFn68 (energy_exactly_spec h8) rfl rfl rfl
      (repeat (focus (show _ = _;(simp only [zz,Nat.reduceAdd,shift]<;>exact rfl))))
      with_reducible apply TO.here
      repeat (first|(with_reducible first|refine mv ?_|refine TO.nil ?_)|((with_reducible first|apply TO.al|apply TO.sv|apply TO.mv);(repeat (focus (show _ = _;first|exact k1 rfl|exact k2 rfl|(simp only [zz,y22,Nat.reduceAdd]<;>exact rfl))));(with_reducible apply TO.here))|((with_reducible apply TX.region);(focus (simp only []<;>exact rfl));(focus rfl);(try dsimp only)))
      obtain ⟨⟨v27,v28⟩,h15,hr⟩:=Option.bind_eq_some_iff.1 hr
      try dsimp only at hr
      refine TX.loopE (step:=energy_BoundOf_l1 v2 v4 v14 v15) (x:=(v16,v17,0)) h15 (fun (v18,v19,v20)=>⟨.junk :: .junk :: .junk :: .fptr true [.list 1 (v1.map e_Li_),.list 1 (v2.map e_i)] 0 :: .junk :: .junk :: .lptr 0 0 0 :: .junk :: .junk :: .v (.int .i64 v14) :: .v (.int .i64 v15) :: .lptr 1 0 0 :: .junk :: .junk :: .junk :: .junk :: .junk :: .junk :: .junk :: .junk :: .junk :: .junk :: .junk :: .junk :: .junk :: .junk :: .junk :: .junk :: .junk :: .junk :: .junk :: .junk :: .v (.int .i64 v4) :: .v (.int .i64 v20) :: .junk :: .junk :: .junk :: .junk :: .junk :: .junk :: .junk :: .junk :: .junk :: .junk :: .junk :: .junk :: .junk :: .junk :: .junk :: .junk :: .junk :: .junk :: .junk :: .junk :: .junk :: .junk :: .junk :: .junk :: .junk :: .junk :: .junk :: .junk :: .junk :: .junk :: .junk :: .junk :: .junk :: [],[.var [.v (.int .i64 0),.v (.int .i64 0)],.var [.v (.int .i64 v18),.v (.int .i64 v19)]]⟩) (fun (v23,v24)=>(.exit 0,⟨.junk :: .junk :: .junk :: .junk :: .junk :: .junk :: .lptr 0 0 0 :: .junk :: .junk :: .junk :: .junk :: .lptr 1 0 0 :: .junk :: .junk :: .junk :: .junk :: .junk :: .junk :: .junk :: .junk :: .junk :: .junk :: .junk :: .junk :: .junk :: .junk :: .junk :: .junk :: .junk :: .junk :: .junk :: .junk :: .junk :: .junk :: .junk :: .junk :: .junk :: .junk :: .junk :: .junk :: .junk :: .junk :: .junk :: .junk :: .junk :: .junk :: .junk :: .junk :: .junk :: .junk :: .junk :: .junk :: .junk :: .junk :: .junk :: .junk :: .junk :: .junk :: .junk :: .junk :: .junk :: .junk :: .junk :: .junk :: .junk :: .junk :: .junk :: [],[.var [.v (.int .i64 0),.v (.int .i64 0)],.var [.v (.int .i64 v23),.v (.int .i64 v24)]]⟩)) ?_ ?_ ?_ ?_
      · rintro ⟨v18,v19,v20⟩ v0 hr
        dsimp only [energy_BoundOf_l1] at hr
        try dsimp only
        repeat (first|(with_reducible first|refine mv ?_|refine TO.nil ?_)|((with_reducible apply TO.bin);(repeat (focus (show _ = _;first|exact k2 rfl|(simp only [zz]<;>exact rfl))));(with_reducible apply TO.here))|((with_reducible apply TX.region);(focus (simp only []<;>exact rfl));(focus rfl);(try dsimp only)))
        rcases Bool.eq_false_or_eq_true ((decide (v20 < v4))) with h12|h12
        · rw [if_pos h12] at hr
          repeat (first|with_reducible refine mv ?_|((with_reducible first|apply TD.fa|apply TD.ld|apply TD.mv|apply TD.bin);(repeat (focus (show _ = _;first|exact k2 rfl|(simp only [zz,y22,Nat.reduceAdd,tfieldAddr,tload,rowOf,partT,h12]<;>exact rfl)|exact rfl)));(with_reducible refine TD.here ?_))|((with_reducible apply TX.drawn);(focus decide +kernel);(focus (simp only []<;>exact rfl));(focus exact rfl);(try dsimp only))|((with_reducible apply TX.cond_true);(focus rfl);(focus ((simp only [z1,h12];done)))))
          obtain ⟨v25,h13,hr⟩:=Option.bind_eq_some_iff.1 hr
          try dsimp only at hr
          first|apply TD.cal (by first|rfl|(simp only [twant,z1,z7,h5,h12]<;>rfl)) rfl goFn69 (energy_up_spec h13) rfl rfl rfl|apply TD.calw (by first|rfl|(simp only [twant,z1,z7,h5,h12]<;>rfl)) rfl goFn69 (energy_up_spec h13) rfl rfl rfl rfl
          (repeat (focus (show _ = _;(simp only [zz,shift]<;>exact rfl))))
          with_reducible apply TD.here
          repeat (first|(with_reducible first|refine mv ?_|refine TD.nil ?_)|((with_reducible first|apply TD.bin|apply TD.fa|apply TD.sv|apply TD.ld|apply TD.mv);(repeat (focus (show _ = _;first|exact k1 rfl|exact k2 rfl|(simp only [zz,y22,Nat.reduceAdd,tfieldAddr,tload,rowOf,partT]<;>exact rfl)|exact rfl)));(with_reducible refine TD.here ?_))|((with_reducible apply TX.drawn);(focus decide +kernel);(focus (simp only []<;>exact rfl));(focus exact rfl);(try dsimp only)))
          obtain ⟨v26,h14,hr⟩:=Option.bind_eq_some_iff.1 hr
          try dsimp only at hr
          first|apply TD.cal (by first|rfl|(simp only [twant,z1,z7,h5,h12]<;>rfl)) rfl goFn70 (energy_down_spec h14) rfl rfl rfl|apply TD.calw (by first|rfl|(simp only [twant,z1,z7,h5,h12]<;>rfl)) rfl goFn70 (energy_down_spec h14) rfl rfl rfl rfl
          (repeat (focus (show _ = _;(simp only [zz,shift]<;>exact rfl))))
          with_reducible apply TD.here
          repeat (first|((with_reducible first|apply TD.bin|apply TD.fa|apply TD.ld|apply TD.len);(repeat (focus (show _ = _;first|exact k2 rfl|(simp only [zz,y22,Nat.reduceAdd,tfieldAddr,tload,rowOf,partT,tlen]<;>exact rfl)|exact rfl)));(with_reducible refine TD.here ?_)))
          apply TD.pop1 (by first|rfl|(simp only [twant,z1,z7,h5,h12]<;>rfl)) (pop_max rfl rfl)
          (repeat (focus (show _ = _;(simp only [zz]<;>exact rfl))))
          with_reducible apply TD.here
          repeat (first|(with_reducible first|refine mv ?_|refine TO.nil ?_)|((with_reducible first|apply TO.bin|apply TO.mv);(repeat (focus (show _ = _;first|exact k2 rfl|(simp only [zz]<;>exact rfl))));(with_reducible apply TO.here))|((with_reducible apply TX.region);(focus (simp only []<;>exact rfl));(focus rfl);(try dsimp only))|with_reducible refine TD.nil ?_|((with_reducible first|apply TD.fa|apply TD.sv);(repeat (focus (show _ = _;first|exact k1 rfl|exact k2 rfl|(simp only [zz,y22,Nat.reduceAdd,tfieldAddr]<;>exact rfl))));(with_reducible refine TD.here ?_)))
          cases hr
          refine ⟨rfl,?_⟩
          exact Wk.ren [some 0,some 1] rfl (rv (rv .nil rfl) rfl) (by (repeat (first|exact RNs.nil|refine RNs.cons .junk ?_|refine RNs.cons (.keep rfl rfl) ?_|refine RNs.cons (.lptr rfl) ?_)))
        · rw [if_neg (by rw [h12];exact Bool.false_ne_true)] at hr
          repeat (first|with_reducible refine mv ?_|((with_reducible apply TX.cond_false);(focus rfl);(focus ((simp only [z1,h12];done)))))
          cases hr
          refine ⟨rfl,?_⟩
          exact Wk.ren [some 0,some 1] rfl (rv (rv .nil rfl) rfl) (by (repeat (first|exact RNs.nil|refine RNs.cons .junk ?_|refine RNs.cons (.lptr rfl) ?_)))
      · intro e h;cases h
      · try dsimp only
        repeat (first|(with_reducible first|refine mv ?_|refine TO.nil ?_)|((with_reducible first|apply TO.fa|apply TO.ld|apply TO.sv|apply TO.asg);(repeat (focus (show _ = _;first|exact k1 rfl|exact k2 rfl|(simp only [zz,y22,Nat.reduceAdd,Nat.reduceLeDiff,tfieldAddr,tload,rowOf,partT]<;>exact rfl)|exact rfl)));(with_reducible apply TO.here))|((with_reducible apply TX.region);(focus (simp only []<;>exact rfl));(focus rfl);(try dsimp only)))
        cases hr
        refine ⟨.inr rfl,_,(by simp only [];exact rfl),?_⟩
        exact Wk.ren [] rfl .nil (by (repeat (first|exact RNs.nil|refine RNs.cons (.keep rfl rfl) ?_)))
      · try dsimp only
        exact Wk.ren [some 0,some 1] rfl (rv (rv .nil rfl) rfl) (by (repeat (first|exact RNs.nil|refine RNs.cons .junk ?_|refine RNs.cons (.keep rfl rfl) ?_|refine RNs.cons (.lptr rfl) ?_)))
  rfl

end Go.Rex

namespace Go.Rex
open Go.Proofs
open Go Go.Rex Go.RowKit
set_option maxRecDepth 100000
set_option maxHeartbeats 200000
theorem base_Within_spec {v1 : Int} {v2 : Int} {v3 : Int} {v4 : Bool} (hr : base_Within v1 v2 v3 = some (v4)) : Spec (lim Tryz.prog) 31 [.v (.int .i64 v1),.v (.int .i64 v2),.v (.int .i64 v3)] ⟨[.v (.bool v4)],[]⟩:=by
  unfold base_Within at hr
  apply Spec.fn Tryz.func31 rfl
  focus (simp [Tryz.f31]<;>exact rfl)
  focus
    repeat (first|(with_reducible first|refine mv ?_|refine TO.nil ?_)|((with_reducible first|apply TO.asg|apply TO.mv|apply TO.bin);(repeat (focus (show _ = _;first|exact k2 rfl|(simp only [zz]<;>exact rfl))));(with_reducible apply TO.here))|((with_reducible apply TX.region);(focus (simp only []<;>exact rfl));(focus rfl);(try dsimp only)))
    rcases Bool.eq_false_or_eq_true ((decide (v2 ≤ v1))) with h1|h1
    · rw [if_pos h1] at hr
      repeat (first|(with_reducible first|refine mv ?_|refine TO.nil ?_)|((with_reducible first|apply TO.mv|apply TO.bin|apply TO.pk|apply TO.asg);(repeat (focus (show _ = _;first|exact k2 rfl|(simp only [zz,h1]<;>exact rfl))));(with_reducible apply TO.here)))
      cases hr
      refine ⟨.inr rfl,_,(by simp only [];exact rfl),?_⟩
      exact Wk.ren [] rfl .nil (by (repeat (first|exact RNs.nil|refine RNs.cons (.keep rfl rfl) ?_)))
    · rw [if_neg (by rw [h1];exact Bool.false_ne_true)] at hr
      repeat (first|(with_reducible first|refine mv ?_|refine TO.nil ?_)|((with_reducible first|apply TO.pk|apply TO.asg);(repeat (focus (show _ = _;first|exact k2 rfl|(simp only [zz]<;>exact rfl))));(with_reducible apply TO.here))|((with_reducible apply TO.skip1);(repeat (focus (show _ = _;(simp only [zz,twant,zp,zs,h1]<;>exact rfl))));(with_reducible apply TO.here)))
      cases hr
      refine ⟨.inr rfl,_,(by simp only [];exact rfl),?_⟩
      exact Wk.ren [] rfl .nil (by (repeat (first|exact RNs.nil|refine RNs.cons (.keep rfl rfl) ?_)))
  rfl

end Go.Rex
