/- Proofs that the program's functions do what these plain functions say. -/
import Derived.Test.YtnjbkoobeobfiaaGreatGB
import Derived.Test.YtnjbkoobeobfiaaGreatS
import Derived.Test.YtnjbkoobeobfiaaGreatG1
import Derived.Test.YtnjbkoobeobfiaaGreatM
set_option linter.unusedSimpArgs false
set_option linter.unusedVariables false
set_option linter.defProp false
namespace Go.Rex
open Go.Proofs
open Go Go.Rex Go.RowKit
set_option maxRecDepth 100000
set_option maxHeartbeats 1000000
def y23:=an @ag3 <| an @ag43 <| an @ag44 <| an @cs3 <| an @cs44 <| an @fd46_0 <| an @fd46_1 <| an @ok3 <| an @ok44 <| an @so43 <| an @so44 <| @wi64_0a1
theorem ref03_CheckExchange_spec {v1 : (List (List Int))} {v2 : (List Int)} {v3 : Int} {v4 : Int} (hr : ref03_CheckExchange v1 v2 = some (v3,v4)) : Spec (lim Tryz.prog) 25 [.agg [.list 1 (v1.map e_Li_),.list 1 (v2.map e_i)]] ⟨[.tuple [.v (.int .i64 v3),.v (.int .i64 v4)]],[]⟩:=by
  unfold ref03_CheckExchange at hr
  apply Spec.fn Tryz.func25 rfl
  focus (simp [Tryz.f25]<;>exact rfl)
  focus
    repeat (first|(with_reducible first|refine mv ?_|refine TO.nil ?_)|((with_reducible first|apply TO.bf|apply TO.asg|apply TO.fa|apply TO.ld|apply TO.len|apply TO.mv|apply TO.bin);(repeat (focus (show _ = _;first|exact k1 rfl|exact k2 rfl|(simp only [zz,y23,Nat.reduceAdd,tfieldAddr,tload,rowOf,partT,tlen]<;>exact rfl)|exact rfl)));(with_reducible apply TO.here))|((with_reducible apply TX.region);(focus (simp only []<;>exact rfl));(focus rfl);(try dsimp only)))
    rcases Bool.eq_false_or_eq_true ((decide ((v1.length : Int) = 0))) with h1|h1
    · rw [if_pos h1] at hr
      repeat (first|(with_reducible first|refine mv ?_|refine TO.nil ?_)|((with_reducible apply TO.asg);(repeat (focus (show _ = _;first|exact k2 rfl|(simp only [zz,h1]<;>exact rfl))));(with_reducible apply TO.here))|((with_reducible apply TX.region);(focus (simp only []<;>exact rfl));(focus rfl);(try dsimp only))|((with_reducible apply TX.cond_true);(focus rfl);(focus ((simp only [z1,h1];done)))))
      cases hr
      refine ⟨.inr rfl,_,(by simp only [];exact rfl),?_⟩
      exact Wk.ren [] rfl .nil (by (repeat (first|exact RNs.nil|refine RNs.cons (.keep rfl rfl) ?_)))
    · rw [if_neg (by rw [h1];exact Bool.false_ne_true)] at hr
      repeat (first|(with_reducible first|refine mv ?_|refine TO.nil ?_)|((with_reducible first|apply TO.mv|apply TO.bin);(repeat (focus (show _ = _;first|exact k2 rfl|(simp only [zz,h1]<;>exact rfl))));(with_reducible apply TO.here))|((with_reducible apply TX.region);(focus (simp only []<;>exact rfl));(focus rfl);(try dsimp only))|((with_reducible apply TX.cond_false);(focus rfl);(focus ((simp only [z1,h1];done)))))
      rcases Bool.eq_false_or_eq_true ((decide ((v1.length : Int) > 12))) with h2|h2
      · rw [if_pos h2] at hr
        repeat (first|(with_reducible first|refine mv ?_|refine TO.nil ?_)|((with_reducible apply TO.asg);(repeat (focus (show _ = _;first|exact k2 rfl|(simp only [zz,h2]<;>exact rfl))));(with_reducible apply TO.here))|((with_reducible apply TX.region);(focus (simp only []<;>exact rfl));(focus rfl);(try dsimp only))|((with_reducible apply TX.cond_true);(focus rfl);(focus ((simp only [z1,h2];done)))))
        cases hr
        refine ⟨.inr rfl,_,(by simp only [];exact rfl),?_⟩
        exact Wk.ren [] rfl .nil (by (repeat (first|exact RNs.nil|refine RNs.cons (.keep rfl rfl) ?_)))
      · rw [if_neg (by rw [h2];exact Bool.false_ne_true)] at hr
        repeat (first|(with_reducible first|refine mv ?_|refine TO.nil ?_)|((with_reducible first|apply TO.fa|apply TO.ld|apply TO.len|apply TO.mv|apply TO.bin);(repeat (focus (show _ = _;first|exact k2 rfl|(simp only [zz,y23,Nat.reduceAdd,tfieldAddr,tload,rowOf,partT,tlen,h2]<;>exact rfl)|exact rfl)));(with_reducible apply TO.here))|((with_reducible apply TX.region);(focus (simp only []<;>exact rfl));(focus rfl);(try dsimp only))|((with_reducible apply TX.cond_false);(focus rfl);(focus ((simp only [z1,h2];done)))))
        rcases Bool.eq_false_or_eq_true ((decide ((v2.length : Int) ≠ (v1.length : Int)))) with h3|h3
        · rw [if_pos h3] at hr
          repeat (first|(with_reducible first|refine mv ?_|refine TO.nil ?_)|((with_reducible apply TO.asg);(repeat (focus (show _ = _;first|exact k2 rfl|(simp only [zz,h3]<;>exact rfl))));(with_reducible apply TO.here))|((with_reducible apply TX.region);(focus (simp only []<;>exact rfl));(focus rfl);(try dsimp only))|((with_reducible apply TX.cond_true);(focus rfl);(focus ((simp only [z1,h3];done)))))
          cases hr
          refine ⟨.inr rfl,_,(by simp only [];exact rfl),?_⟩
          exact Wk.ren [] rfl .nil (by (repeat (first|exact RNs.nil|refine RNs.cons (.keep rfl rfl) ?_)))
        · rw [if_neg (by rw [h3];exact Bool.false_ne_true)] at hr
          repeat (first|(with_reducible first|refine mv ?_|refine TO.nil ?_)|((with_reducible apply TO.asg);(repeat (focus (show _ = _;first|exact k2 rfl|(simp only [zz,h3]<;>exact rfl))));(with_reducible apply TO.here))|((with_reducible apply TX.region);(focus (simp only []<;>exact rfl));(focus rfl);(try dsimp only))|((with_reducible apply TX.cond_false);(focus rfl);(focus ((simp only [z1,h3];done)))))
          obtain ⟨v32,h36,hr⟩:=Option.bind_eq_some_iff.1 hr
          refine TX.loopE (step:=ref03_CheckExchange_l1 v1 v2) (x:=0) h36 (fun v5=>⟨.junk :: .fptr true [.list 1 (v1.map e_Li_),.list 1 (v2.map e_i)] 0 :: .junk :: .junk :: .v (.int .i64 (v1.length : Int)) :: .v (.int .i64 v5) :: .junk :: .junk :: .junk :: .junk :: .junk :: .junk :: .junk :: .junk :: .junk :: .junk :: .junk :: .junk :: .junk :: .junk :: .junk :: .junk :: .junk :: .junk :: .junk :: .junk :: .junk :: .junk :: .junk :: .junk :: .junk :: .junk :: .junk :: .junk :: .junk :: .junk :: .junk :: .junk :: .junk :: .junk :: .junk :: .junk :: .junk :: .junk :: .junk :: .junk :: .junk :: .junk :: .junk :: .junk :: .junk :: .junk :: .junk :: .junk :: .junk :: .junk :: .junk :: .junk :: .junk :: .junk :: .junk :: .junk :: .junk :: .junk :: .junk :: .junk :: .junk :: .junk :: .junk :: .junk :: .junk :: [],[]⟩) (fun e=>match e with|(.inl (v18,v19))=>(.ret,⟨.junk :: .junk :: .v (.int .i64 v18) :: .v (.int .i64 v19) :: .junk :: .junk :: .junk :: .junk :: .junk :: .junk :: .junk :: .junk :: .junk :: .junk :: .junk :: .junk :: .junk :: .junk :: .junk :: .junk :: .junk :: .junk :: .junk :: .junk :: .junk :: .junk :: .junk :: .junk :: .junk :: .junk :: .junk :: .junk :: .junk :: .junk :: .junk :: .junk :: .junk :: .junk :: .junk :: .junk :: .junk :: .junk :: .junk :: .junk :: .junk :: .junk :: .junk :: .junk :: .junk :: .junk :: .junk :: .junk :: .junk :: .junk :: .junk :: .junk :: .junk :: .junk :: .junk :: .junk :: .junk :: .junk :: .junk :: .junk :: .junk :: .junk :: .junk :: .junk :: .junk :: .junk :: .junk :: [],[]⟩)|(.inr _)=>(.exit 0,⟨.junk :: .junk :: .junk :: .junk :: .junk :: .junk :: .junk :: .junk :: .junk :: .junk :: .junk :: .junk :: .junk :: .junk :: .junk :: .junk :: .junk :: .junk :: .junk :: .junk :: .junk :: .junk :: .junk :: .junk :: .junk :: .junk :: .junk :: .junk :: .junk :: .junk :: .junk :: .junk :: .junk :: .junk :: .junk :: .junk :: .junk :: .junk :: .junk :: .junk :: .junk :: .junk :: .junk :: .junk :: .junk :: .junk :: .junk :: .junk :: .junk :: .junk :: .junk :: .junk :: .junk :: .junk :: .junk :: .junk :: .junk :: .junk :: .junk :: .junk :: .junk :: .junk :: .junk :: .junk :: .junk :: .junk :: .junk :: .junk :: .junk :: .junk :: .junk :: [],[]⟩)) ?_ ?_ ?_ ?_
          · rintro v5 v0 hr
            dsimp only [ref03_CheckExchange_l1] at hr
            try dsimp only
            repeat (first|(with_reducible first|refine mv ?_|refine TO.nil ?_)|((with_reducible first|apply TO.mv|apply TO.bin);(repeat (focus (show _ = _;first|exact k2 rfl|(simp only [zz]<;>exact rfl))));(with_reducible apply TO.here))|((with_reducible apply TX.region);(focus (simp only []<;>exact rfl));(focus rfl);(try dsimp only)))
            rcases Bool.eq_false_or_eq_true ((decide (v5 < (v1.length : Int)))) with h20|h20
            · rw [if_pos h20] at hr
              repeat (first|with_reducible refine mv ?_|((with_reducible first|apply TO.fa|apply TO.ld|apply TO.mv);(repeat (focus (show _ = _;first|exact k2 rfl|(simp only [zz,y23,Nat.reduceAdd,tfieldAddr,tload,rowOf,partT,h20]<;>exact rfl)|exact rfl)));(with_reducible apply TO.here))|((with_reducible apply TX.region);(focus (simp only []<;>exact rfl));(focus rfl);(try dsimp only))|((with_reducible apply TX.cond_true);(focus rfl);(focus ((simp only [z1,h20];done)))))
              obtain ⟨v20,h21,hr⟩:=Option.bind_eq_some_iff.1 hr
              try dsimp only at hr
              have h21m:=tidx_map (f:=e_Li_) h21
              have h21l:=getI_lt h21
              try simp only [List.length_set] at h21l
              have h21a:=getI_at h21
              repeat (first|(with_reducible first|refine mv ?_|refine TO.nil ?_)|((with_reducible first|apply TO.ia|apply TO.ld|apply TO.len|apply TO.mv|apply TO.bin);(repeat (focus (show _ = _;first|exact k2 rfl|(simp only [zz,y23,e_Li_,tindexAddr,tload,rowOf,partT,tlen,h21m]<;>exact rfl)|exact rfl)));(with_reducible apply TO.here)))
              rcases Bool.eq_false_or_eq_true ((decide ((v20.length : Int) ≠ (v1.length : Int)))) with h22|h22
              · rw [if_pos h22] at hr
                repeat (first|(with_reducible first|refine mv ?_|refine TO.nil ?_)|((with_reducible first|apply TO.mv|apply TO.asg);(repeat (focus (show _ = _;first|exact k2 rfl|(simp only [zz,h22]<;>exact rfl))));(with_reducible apply TO.here))|((with_reducible apply TX.region);(focus (simp only []<;>exact rfl));(focus rfl);(try dsimp only))|((with_reducible apply TX.cond_true);(focus rfl);(focus ((simp only [z1,h22];done)))))
                cases hr
                refine ⟨rfl,?_⟩
                exact Wk.ren [] rfl .nil (by (repeat (first|exact RNs.nil|refine RNs.cons .junk ?_|refine RNs.cons (.keep rfl rfl) ?_)))
              · rw [if_neg (by rw [h22];exact Bool.false_ne_true)] at hr
                repeat (first|(with_reducible first|refine mv ?_|refine TO.nil ?_)|((with_reducible apply TO.asg);(repeat (focus (show _ = _;first|exact k2 rfl|(simp only [zz,h22]<;>exact rfl))));(with_reducible apply TO.here))|((with_reducible apply TX.region);(focus (simp only []<;>exact rfl));(focus rfl);(try dsimp only))|((with_reducible apply TX.cond_false);(focus rfl);(focus ((simp only [z1,h22];done)))))
                obtain ⟨v28,h31,hr⟩:=Option.bind_eq_some_iff.1 hr
                refine TX.loopE (step:=ref03_CheckExchange_l2 v1 v20) (x:=(0,0)) h31 (fun (v21,v22)=>⟨.junk :: .fptr true [.list 1 (v1.map e_Li_),.list 1 (v2.map e_i)] 0 :: .junk :: .junk :: .v (.int .i64 (v1.length : Int)) :: .v (.int .i64 v5) :: .v (.int .i64 v21) :: .v (.int .i64 v22) :: .junk :: .junk :: .junk :: .junk :: .junk :: .junk :: .junk :: .junk :: .junk :: .junk :: .junk :: .junk :: .junk :: .junk :: .junk :: .junk :: .junk :: .junk :: .junk :: .junk :: .junk :: .junk :: .junk :: .junk :: .junk :: .junk :: .junk :: .junk :: .junk :: .junk :: .junk :: .junk :: .junk :: .junk :: .junk :: .junk :: .junk :: .junk :: .junk :: .junk :: .junk :: .junk :: .junk :: .junk :: .junk :: .junk :: .junk :: .junk :: .junk :: .junk :: .junk :: .junk :: .junk :: .junk :: .junk :: .junk :: .junk :: .junk :: .junk :: .junk :: .junk :: .junk :: .junk :: [],[]⟩) (fun e=>match e with|(.inl _)=>(.ret,⟨.junk :: .junk :: .v (.int .i64 v5) :: .v (.int .i64 2) :: .junk :: .junk :: .junk :: .junk :: .junk :: .junk :: .junk :: .junk :: .junk :: .junk :: .junk :: .junk :: .junk :: .junk :: .junk :: .junk :: .junk :: .junk :: .junk :: .junk :: .junk :: .junk :: .junk :: .junk :: .junk :: .junk :: .junk :: .junk :: .junk :: .junk :: .junk :: .junk :: .junk :: .junk :: .junk :: .junk :: .junk :: .junk :: .junk :: .junk :: .junk :: .junk :: .junk :: .junk :: .junk :: .junk :: .junk :: .junk :: .junk :: .junk :: .junk :: .junk :: .junk :: .junk :: .junk :: .junk :: .junk :: .junk :: .junk :: .junk :: .junk :: .junk :: .junk :: .junk :: .junk :: .junk :: .junk :: [],[]⟩)|(.inr v25)=>(.exit 2,⟨.junk :: .fptr true [.list 1 (v1.map e_Li_),.list 1 (v2.map e_i)] 0 :: .junk :: .junk :: .v (.int .i64 (v1.length : Int)) :: .v (.int .i64 v5) :: .v (.int .i64 v25) :: .junk :: .junk :: .junk :: .junk :: .junk :: .junk :: .junk :: .junk :: .junk :: .junk :: .junk :: .junk :: .junk :: .junk :: .junk :: .junk :: .junk :: .junk :: .junk :: .junk :: .junk :: .junk :: .junk :: .junk :: .junk :: .junk :: .junk :: .junk :: .junk :: .junk :: .junk :: .junk :: .junk :: .junk :: .junk :: .junk :: .junk :: .junk :: .junk :: .junk :: .junk :: .junk :: .junk :: .junk :: .junk :: .junk :: .junk :: .junk :: .junk :: .junk :: .junk :: .junk :: .junk :: .junk :: .junk :: .junk :: .junk :: .junk :: .junk :: .junk :: .junk :: .junk :: .junk :: .junk :: [],[]⟩)) ?_ ?_ ?_ ?_
                · rintro ⟨v21,v22⟩ v0 hr
                  dsimp only [ref03_CheckExchange_l2] at hr
                  try dsimp only
                  repeat (first|(with_reducible first|refine mv ?_|refine TO.nil ?_)|((with_reducible first|apply TO.mv|apply TO.bin);(repeat (focus (show _ = _;first|exact k2 rfl|(simp only [zz]<;>exact rfl))));(with_reducible apply TO.here))|((with_reducible apply TX.region);(focus (simp only []<;>exact rfl));(focus rfl);(try dsimp only)))
                  rcases Bool.eq_false_or_eq_true ((decide (v22 < (v1.length : Int)))) with h27|h27
                  · rw [if_pos h27] at hr
                    repeat (first|with_reducible refine mv ?_|((with_reducible first|apply TO.fa|apply TO.ld|apply TO.mv|apply TO.ia);(repeat (focus (show _ = _;first|exact k2 rfl|(simp only [zz,y23,e_Li_,tfieldAddr,tload,rowOf,partT,tindexAddr,Nat.zero_add,h21m,h27]<;>exact rfl)|exact rfl)));(with_reducible apply TO.here))|((with_reducible apply TX.region);(focus (simp only []<;>exact rfl));(focus rfl);(try dsimp only))|((with_reducible apply TX.cond_true);(focus rfl);(focus ((simp only [z1,h27];done)))))
                    obtain ⟨v26,h28,hr⟩:=Option.bind_eq_some_iff.1 hr
                    try dsimp only at hr
                    have h28m:=tidx_map (f:=e_i) h28
                    have h28l:=getI_lt h28
                    try simp only [List.length_set] at h28l
                    have h28a:=getI_at h28
                    repeat (first|((with_reducible first|apply TO.ia|apply TO.ld);(repeat (focus (show _ = _;first|exact k2 rfl|(simp only [zz,y23,e_i,tindexAddr,tload,rowOf,partT,h28m]<;>exact rfl)|exact rfl)));(with_reducible apply TO.here)))
                    obtain ⟨v27,h29,hr⟩:=Option.bind_eq_some_iff.1 hr
                    try dsimp only at hr
                    apply TO.cal (by first|rfl|(simp only [twant,z1,z7,h1,h2,h3,h20,h21m,h21l,h21a,h22,h27,h28m,h28l,h28a]<;>rfl)) rfl goFn31 (base_Within_spec h29) rfl rfl rfl
                    (repeat (focus (show _ = _;(simp only [zz,shift]<;>exact rfl))))
                    with_reducible apply TO.here
                    apply TO.pop1 (by first|rfl|(simp only [twant,z1,z7,h1,h2,h3,h20,h21m,h21l,h21a,h22,h27,h28m,h28l,h28a]<;>rfl)) (pop_not rfl)
                    (repeat (focus (show _ = _;(simp only [zz]<;>exact rfl))))
                    with_reducible apply TO.here
                    repeat (first|(with_reducible first|refine mv ?_|refine TO.nil ?_))
                    rcases Bool.eq_false_or_eq_true (v27) with h30|h30
                    · rw [if_pos h30] at hr
                      repeat (first|(with_reducible first|refine mv ?_|refine TO.nil ?_)|((with_reducible first|apply TO.mv|apply TO.fa|apply TO.ld|apply TO.ia|apply TO.bin|apply TO.asg);(repeat (focus (show _ = _;first|exact k2 rfl|(simp only [zz,y23,e_Li_,e_i,tfieldAddr,tload,rowOf,partT,tindexAddr,Nat.zero_add,h21m,h28m,h30]<;>exact rfl)|exact rfl)));(with_reducible apply TO.here))|((with_reducible apply TX.region);(focus (simp only []<;>exact rfl));(focus rfl);(try dsimp only))|((with_reducible apply TX.cond_false);(focus rfl);(focus ((simp only [z1,Bool.not_true,h30];done)))))
                      cases hr
                      refine ⟨rfl,?_⟩
                      exact Wk.ren [] rfl .nil (by (repeat (first|exact RNs.nil|refine RNs.cons .junk ?_|refine RNs.cons (.keep rfl rfl) ?_)))
                    · rw [if_neg (by rw [h30];exact Bool.false_ne_true)] at hr
                      repeat (first|(with_reducible first|refine mv ?_|refine TO.nil ?_)|((with_reducible first|apply TO.mv|apply TO.asg);(repeat (focus (show _ = _;first|exact k2 rfl|(simp only [zz,h30]<;>exact rfl))));(with_reducible apply TO.here))|((with_reducible apply TX.region);(focus (simp only []<;>exact rfl));(focus rfl);(try dsimp only))|((with_reducible apply TX.cond_true);(focus rfl);(focus ((simp only [z1,Bool.not_false,h30];done)))))
                      cases hr
                      refine ⟨rfl,?_⟩
                      exact Wk.ren [] rfl .nil (by (repeat (first|exact RNs.nil|refine RNs.cons .junk ?_|refine RNs.cons (.keep rfl rfl) ?_)))
                  · rw [if_neg (by rw [h27];exact Bool.false_ne_true)] at hr
                    repeat (first|with_reducible refine mv ?_|((with_reducible apply TX.cond_false);(focus rfl);(focus ((simp only [z1,h27];done)))))
                    cases hr
                    refine ⟨rfl,?_⟩
                    exact Wk.ren [] rfl .nil (by (repeat (first|exact RNs.nil|refine RNs.cons .junk ?_|refine RNs.cons (.keep rfl rfl) ?_)))
                · intro e h;rcases e with _|e<;>cases h
                · try dsimp only
                  rcases v28 with _|v29
                  · try dsimp only at hr
                    try dsimp only
                    repeat (first|with_reducible refine mv ?_)
                    cases hr
                    refine ⟨rfl,?_⟩
                    exact Wk.ren [] rfl .nil (by (repeat (first|exact RNs.nil|refine RNs.cons .junk ?_|refine RNs.cons (.keep rfl rfl) ?_)))
                  · try dsimp only at hr
                    try dsimp only
                    repeat (first|(with_reducible first|refine mv ?_|refine TO.nil ?_)|((with_reducible first|apply TO.mv|apply TO.bin);(repeat (focus (show _ = _;first|exact k2 rfl|(simp only [zz]<;>exact rfl))));(with_reducible apply TO.here))|((with_reducible apply TX.region);(focus (simp only []<;>exact rfl));(focus rfl);(try dsimp only)))
                    rcases Bool.eq_false_or_eq_true ((decide (v29 ≠ 1000))) with h32|h32
                    · rw [if_pos h32] at hr
                      repeat (first|(with_reducible first|refine mv ?_|refine TO.nil ?_)|((with_reducible first|apply TO.mv|apply TO.asg);(repeat (focus (show _ = _;first|exact k2 rfl|(simp only [zz,h32]<;>exact rfl))));(with_reducible apply TO.here))|((with_reducible apply TX.region);(focus (simp only []<;>exact rfl));(focus rfl);(try dsimp only))|((with_reducible apply TX.cond_true);(focus rfl);(focus ((simp only [z1,h32];done)))))
                      cases hr
                      refine ⟨rfl,?_⟩
                      exact Wk.ren [] rfl .nil (by (repeat (first|exact RNs.nil|refine RNs.cons .junk ?_|refine RNs.cons (.keep rfl rfl) ?_)))
                    · rw [if_neg (by rw [h32];exact Bool.false_ne_true)] at hr
                      repeat (first|with_reducible refine mv ?_|((with_reducible first|apply TO.fa|apply TO.ld|apply TO.mv);(repeat (focus (show _ = _;first|exact k2 rfl|(simp only [zz,y23,Nat.reduceAdd,tfieldAddr,tload,rowOf,partT,h32]<;>exact rfl)|exact rfl)));(with_reducible apply TO.here))|((with_reducible apply TX.region);(focus (simp only []<;>exact rfl));(focus rfl);(try dsimp only))|((with_reducible apply TX.cond_false);(focus rfl);(focus ((simp only [z1,h32];done)))))
                      obtain ⟨v30,h33,hr⟩:=Option.bind_eq_some_iff.1 hr
                      try dsimp only at hr
                      have h33m:=tidx_map (f:=e_i) h33
                      have h33l:=getI_lt h33
                      try simp only [List.length_set] at h33l
                      have h33a:=getI_at h33
                      repeat (first|((with_reducible first|apply TO.ia|apply TO.ld);(repeat (focus (show _ = _;first|exact k2 rfl|(simp only [zz,y23,e_i,tindexAddr,tload,rowOf,partT,h33m]<;>exact rfl)|exact rfl)));(with_reducible apply TO.here)))
                      obtain ⟨v31,h34,hr⟩:=Option.bind_eq_some_iff.1 hr
                      try dsimp only at hr
                      apply TO.cal (by first|rfl|(simp only [twant,z1,z7,h1,h2,h3,h20,h21m,h21l,h21a,h22,h32,h33m,h33l,h33a]<;>rfl)) rfl goFn31 (base_Within_spec h34) rfl rfl rfl
                      (repeat (focus (show _ = _;(simp only [zz,shift]<;>exact rfl))))
                      with_reducible apply TO.here
                      apply TO.pop1 (by first|rfl|(simp only [twant,z1,z7,h1,h2,h3,h20,h21m,h21l,h21a,h22,h32,h33m,h33l,h33a]<;>rfl)) (pop_not rfl)
                      (repeat (focus (show _ = _;(simp only [zz]<;>exact rfl))))
                      with_reducible apply TO.here
                      repeat (first|(with_reducible first|refine mv ?_|refine TO.nil ?_))
                      rcases Bool.eq_false_or_eq_true (v31) with h35|h35
                      · rw [if_pos h35] at hr
                        repeat (first|(with_reducible first|refine mv ?_|refine TO.nil ?_)|((with_reducible first|apply TO.mv|apply TO.bin|apply TO.asg);(repeat (focus (show _ = _;first|exact k2 rfl|(simp only [zz,h35]<;>exact rfl))));(with_reducible apply TO.here))|((with_reducible apply TX.region);(focus (simp only []<;>exact rfl));(focus rfl);(try dsimp only))|((with_reducible apply TX.cond_false);(focus rfl);(focus ((simp only [z1,Bool.not_true,h35];done)))))
                        cases hr
                        refine ⟨rfl,?_⟩
                        exact Wk.ren [] rfl .nil (by (repeat (first|exact RNs.nil|refine RNs.cons .junk ?_|refine RNs.cons (.keep rfl rfl) ?_)))
                      · rw [if_neg (by rw [h35];exact Bool.false_ne_true)] at hr
                        repeat (first|(with_reducible first|refine mv ?_|refine TO.nil ?_)|((with_reducible first|apply TO.mv|apply TO.asg);(repeat (focus (show _ = _;first|exact k2 rfl|(simp only [zz,h35]<;>exact rfl))));(with_reducible apply TO.here))|((with_reducible apply TX.region);(focus (simp only []<;>exact rfl));(focus rfl);(try dsimp only))|((with_reducible apply TX.cond_true);(focus rfl);(focus ((simp only [z1,Bool.not_false,h35];done)))))
                        cases hr
                        refine ⟨rfl,?_⟩
                        exact Wk.ren [] rfl .nil (by (repeat (first|exact RNs.nil|refine RNs.cons .junk ?_|refine RNs.cons (.keep rfl rfl) ?_)))
                · try dsimp only
                  exact Wk.ren [] rfl .nil (by (repeat (first|exact RNs.nil|refine RNs.cons .junk ?_|refine RNs.cons (.keep rfl rfl) ?_)))
            · rw [if_neg (by rw [h20];exact Bool.false_ne_true)] at hr
              repeat (first|with_reducible refine mv ?_|((with_reducible apply TX.cond_false);(focus rfl);(focus ((simp only [z1,h20];done)))))
              cases hr
              refine ⟨rfl,?_⟩
              exact Wk.ren [] rfl .nil (by (repeat (first|exact RNs.nil|refine RNs.cons .junk ?_)))
          · intro e h;rcases e with _|e<;>cases h
          · try dsimp only
            rcases v32 with ⟨v33,v34⟩|_
            · try dsimp only at hr
              try dsimp only
              repeat (first|with_reducible refine mv ?_)
              cases hr
              refine ⟨.inr rfl,_,(by simp only [];exact rfl),?_⟩
              exact Wk.ren [] rfl .nil (by (repeat (first|exact RNs.nil|refine RNs.cons (.keep rfl rfl) ?_)))
            · try dsimp only at hr
              try dsimp only
              repeat (first|(with_reducible first|refine mv ?_|refine TO.nil ?_)|((with_reducible apply TO.asg);(repeat (focus (show _ = _;first|exact k2 rfl|(simp only [zz]<;>exact rfl))));(with_reducible apply TO.here))|((with_reducible apply TX.region);(focus (simp only []<;>exact rfl));(focus rfl);(try dsimp only)))
              cases hr
              refine ⟨.inr rfl,_,(by simp only [];exact rfl),?_⟩
              exact Wk.ren [] rfl .nil (by (repeat (first|exact RNs.nil|refine RNs.cons (.keep rfl rfl) ?_)))
          · try dsimp only
            exact Wk.ren [] rfl .nil (by (repeat (first|exact RNs.nil|refine RNs.cons .junk ?_|refine RNs.cons (.keep rfl rfl) ?_)))
  rfl

end Go.Rex

namespace Go.Rex
open Go.Proofs
open Go Go.Rex Go.RowKit
set_option maxRecDepth 100000
set_option maxHeartbeats 200000
theorem ref03_StepsErr_spec {v1 : Int} {v2 : Int} (hr : ref03_StepsErr v1 = some (v2)) : Spec (lim Tryz.prog) 29 [.v (.int .i64 v1)] ⟨[.v (.int .i64 v2)],[]⟩:=by
  unfold ref03_StepsErr at hr
  apply Spec.fn Tryz.func29 rfl
  focus (simp [Tryz.f29]<;>exact rfl)
  focus
    repeat (first|(with_reducible first|refine mv ?_|refine TO.nil ?_)|((with_reducible first|apply TO.asg|apply TO.mv);(repeat (focus (show _ = _;first|exact k2 rfl|(simp only [zz]<;>exact rfl))));(with_reducible apply TO.here))|((with_reducible apply TX.region);(focus (simp only []<;>exact rfl));(focus rfl);(try dsimp only)))
    obtain ⟨v3,h1,hr⟩:=Option.bind_eq_some_iff.1 hr
    try dsimp only at hr
    apply TO.cal (by first|rfl|(simp only [twant,z1,z7]<;>rfl)) rfl goFn31 (base_Within_spec h1) rfl rfl rfl
    (repeat (focus (show _ = _;(simp only [zz,shift]<;>exact rfl))))
    with_reducible apply TO.here
    apply TO.pop1 (by first|rfl|(simp only [twant,z1,z7]<;>rfl)) (pop_not rfl)
    (repeat (focus (show _ = _;(simp only [zz]<;>exact rfl))))
    with_reducible apply TO.here
    repeat (first|(with_reducible first|refine mv ?_|refine TO.nil ?_))
    rcases Bool.eq_false_or_eq_true (v3) with h2|h2
    · rw [if_pos h2] at hr
      repeat (first|(with_reducible first|refine mv ?_|refine TO.nil ?_)|((with_reducible apply TO.asg);(repeat (focus (show _ = _;first|exact k2 rfl|(simp only [zz,h2]<;>exact rfl))));(with_reducible apply TO.here))|((with_reducible apply TX.region);(focus (simp only []<;>exact rfl));(focus rfl);(try dsimp only))|((with_reducible apply TX.cond_false);(focus rfl);(focus ((simp only [z1,Bool.not_true,h2];done)))))
      cases hr
      refine ⟨.inr rfl,_,(by simp only [];exact rfl),?_⟩
      exact Wk.ren [] rfl .nil (by (repeat (first|exact RNs.nil|refine RNs.cons (.keep rfl rfl) ?_)))
    · rw [if_neg (by rw [h2];exact Bool.false_ne_true)] at hr
      repeat (first|(with_reducible first|refine mv ?_|refine TO.nil ?_)|((with_reducible apply TO.asg);(repeat (focus (show _ = _;first|exact k2 rfl|(simp only [zz,h2]<;>exact rfl))));(with_reducible apply TO.here))|((with_reducible apply TX.region);(focus (simp only []<;>exact rfl));(focus rfl);(try dsimp only))|((with_reducible apply TX.cond_true);(focus rfl);(focus ((simp only [z1,Bool.not_false,h2];done)))))
      cases hr
      refine ⟨.inr rfl,_,(by simp only [];exact rfl),?_⟩
      exact Wk.ren [] rfl .nil (by (repeat (first|exact RNs.nil|refine RNs.cons (.keep rfl rfl) ?_)))
  rfl

end Go.Rex

namespace Go.Rex
open Go.Proofs
open Go Go.Rex Go.RowKit
set_option maxRecDepth 100000
set_option maxHeartbeats 200000
theorem base_Floor_spec {v1 : Int} {v2 : Int} {v3 : Int} (hr : base_Floor v1 v2 = some (v3)) : Spec (lim Tryz.prog) 65 [.v (.int .i64 v1),.v (.int .i64 v2)] ⟨[.v (.int .i64 v3)],[]⟩:=by
  unfold base_Floor at hr
  apply Spec.fn Tryz.func65 rfl
  focus (simp [Tryz.f65]<;>exact rfl)
  focus
    repeat (first|(with_reducible first|refine mv ?_|refine TO.nil ?_)|((with_reducible first|apply TO.asg|apply TO.mv);(repeat (focus (show _ = _;first|exact k2 rfl|(simp only [zz]<;>exact rfl))));(with_reducible apply TO.here))|((with_reducible apply TX.region);(focus (simp only []<;>exact rfl));(focus rfl);(try dsimp only)))
    by_cases h1 : v2 = 0
    · rw [if_pos h1] at hr
      cases hr
    · rw [if_neg h1] at hr
      repeat (first|(with_reducible first|refine mv ?_|refine TO.nil ?_)|((with_reducible first|apply TO.bin|apply TO.asg|apply TO.mv);(repeat (focus (show _ = _;first|exact k2 rfl|(simp only [zz,h1]<;>exact rfl))));(with_reducible apply TO.here))|((with_reducible apply TX.region);(focus (simp only []<;>exact rfl));(focus rfl);(try dsimp only)))
      rcases Bool.eq_false_or_eq_true ((decide ((v1.tmod v2) < 0))) with h2|h2
      · rw [if_pos h2] at hr
        repeat (first|(with_reducible first|refine mv ?_|refine TO.nil ?_)|((with_reducible first|apply TO.mv|apply TO.bin|apply TO.asg);(repeat (focus (show _ = _;first|exact k2 rfl|(simp only [zz,h2]<;>exact rfl))));(with_reducible apply TO.here))|((with_reducible apply TX.region);(focus (simp only []<;>exact rfl));(focus rfl);(try dsimp only))|((with_reducible apply TX.cond_true);(focus rfl);(focus ((simp only [z1,h2];done)))))
        cases hr
        refine ⟨.inr rfl,_,(by simp only [];exact rfl),?_⟩
        exact Wk.ren [] rfl .nil (by (repeat (first|exact RNs.nil|refine RNs.cons (.keep rfl rfl) ?_)))
      · rw [if_neg (by rw [h2];exact Bool.false_ne_true)] at hr
        repeat (first|(with_reducible first|refine mv ?_|refine TO.nil ?_)|((with_reducible first|apply TO.mv|apply TO.asg);(repeat (focus (show _ = _;first|exact k2 rfl|(simp only [zz,h2]<;>exact rfl))));(with_reducible apply TO.here))|((with_reducible apply TX.region);(focus (simp only []<;>exact rfl));(focus rfl);(try dsimp only))|((with_reducible apply TX.cond_false);(focus rfl);(focus ((simp only [z1,h2];done)))))
        cases hr
        refine ⟨.inr rfl,_,(by simp only [];exact rfl),?_⟩
        exact Wk.ren [] rfl .nil (by (repeat (first|exact RNs.nil|refine RNs.cons (.keep rfl rfl) ?_)))
  rfl

end Go.Rex

namespace Go.Rex
open Go.Proofs
open Go Go.Rex Go.RowKit
set_option maxRecDepth 100000
set_option maxHeartbeats 200000
theorem base_Ceil_spec {v1 : Int} {v2 : Int} {v3 : Int} (hr : base_Ceil v1 v2 = some (v3)) : Spec (lim Tryz.prog) 64 [.v (.int .i64 v1),.v (.int .i64 v2)] ⟨[.v (.int .i64 v3)],[]⟩:=by
  unfold base_Ceil at hr
  apply Spec.fn Tryz.func64 rfl
  focus (simp [Tryz.f64]<;>exact rfl)
  focus
    repeat (first|(with_reducible first|refine mv ?_|refine TO.nil ?_)|((with_reducible first|apply TO.asg|apply TO.mv);(repeat (focus (show _ = _;first|exact k2 rfl|(simp only [zz]<;>exact rfl))));(with_reducible apply TO.here))|((with_reducible apply TX.region);(focus (simp only []<;>exact rfl));(focus rfl);(try dsimp only)))
    apply TO.pop1 (by first|rfl|(simp only [twant,z1,z7]<;>rfl)) (pop_neg rfl)
    (repeat (focus (show _ = _;(simp only [zz]<;>exact rfl))))
    with_reducible apply TO.here
    repeat (first|((with_reducible apply TO.mv);(repeat (focus (show _ = _;first|exact k2 rfl|(simp only [zz]<;>exact rfl))));(with_reducible apply TO.here)))
    obtain ⟨v4,h1,hr⟩:=Option.bind_eq_some_iff.1 hr
    try dsimp only at hr
    apply TO.cal (by first|rfl|(simp only [twant,z1,z7]<;>rfl)) rfl goFn65 (base_Floor_spec h1) rfl rfl rfl
    (repeat (focus (show _ = _;(simp only [zz,shift]<;>exact rfl))))
    with_reducible apply TO.here
    apply TO.pop1 (by first|rfl|(simp only [twant,z1,z7]<;>rfl)) (pop_neg rfl)
    (repeat (focus (show _ = _;(simp only [zz]<;>exact rfl))))
    with_reducible apply TO.here
    repeat (first|(with_reducible first|refine mv ?_|refine TO.nil ?_)|((with_reducible apply TO.asg);(repeat (focus (show _ = _;first|exact k2 rfl|(simp only [zz]<;>exact rfl))));(with_reducible apply TO.here)))
    cases hr
    refine ⟨.inr rfl,_,(by simp only [];exact rfl),?_⟩
    exact wr [] rfl .nil
  rfl

end Go.Rex

namespace Go.Rex
open Go.Proofs
open Go Go.Rex Go.RowKit
set_option maxRecDepth 100000
set_option maxHeartbeats 1000000
def y24:=an @ag3 <| an @ag30 <| an @ag44 <| an @cs3 <| an @cs30 <| an @fd30_0 <| an @fd30_1 <| an @fd46_1 <| an @ok3 <| an @ok30 <| an @so44 <| an @st30 <| an @zc30 <| @wi64_0a1
theorem ref03_BoundOf_spec {v1 : (List (List Int))} {v2 : (List Int)} {v3 : Int} {v4 : Int} {v5 : Int} {v6 : Int} (hr : ref03_BoundOf v1 v2 v3 v4 = some (v5,v6)) : Spec (lim Tryz.prog) 35 [.agg [.list 1 (v1.map e_Li_),.list 1 (v2.map e_i)],.v (.int .i64 v3),.v (.int .i64 v4)] ⟨[.agg [.v (.int .i64 v5),.v (.int .i64 v6)]],[]⟩:=by
  unfold ref03_BoundOf at hr
  apply Spec.fn Tryz.func35 rfl
  focus (simp [Tryz.f35]<;>exact rfl)
  focus
    repeat (first|(with_reducible first|refine mv ?_|refine TO.nil ?_)|((with_reducible first|apply TO.bf|apply TO.al);(repeat (focus (show _ = _;first|exact k1 rfl|exact k2 rfl|(simp only [zz,y24]<;>exact rfl)|exact rfl)));(with_reducible apply TO.here))|((with_reducible apply TX.region);(focus (simp only []<;>exact rfl));(focus rfl);(try dsimp only))|((with_reducible first|apply TD.fa|apply TD.ld);(repeat (focus (show _ = _;first|exact k2 rfl|(simp only [zz,y24,Nat.reduceAdd,tfieldAddr,tload,rowOf,partT]<;>exact rfl)|exact rfl)));(with_reducible refine TD.here ?_))|((with_reducible apply TX.drawn);(focus decide +kernel);(focus (simp only []<;>exact rfl));(focus exact rfl);(try dsimp only)))
    obtain ⟨v7,h1,hr⟩:=Option.bind_eq_some_iff.1 hr
    try dsimp only at hr
    have h1m:=tidx_map (f:=e_i) h1
    have h1l:=getI_lt h1
    try simp only [List.length_set] at h1l
    have h1a:=getI_at h1
    repeat (first|(with_reducible first|refine mv ?_|refine TO.nil ?_)|((with_reducible apply TO.asg);(repeat (focus (show _ = _;first|exact k2 rfl|(simp only [zz]<;>exact rfl))));(with_reducible apply TO.here))|((with_reducible apply TX.region);(focus (simp only []<;>exact rfl));(focus rfl);(try dsimp only))|with_reducible refine TD.nil ?_|((with_reducible first|apply TD.ia|apply TD.ld|apply TD.fa|apply TD.asg);(repeat (focus (show _ = _;first|exact k2 rfl|(simp only [zz,y24,e_i,tindexAddr,Nat.zero_add,tload,rowOf,partT,tfieldAddr,h1m]<;>exact rfl)|exact rfl)));(with_reducible refine TD.here ?_)))
    obtain ⟨⟨v15,v16⟩,h6,hr⟩:=Option.bind_eq_some_iff.1 hr
    try dsimp only at hr
    refine TX.loopE (step:=ref03_BoundOf_l1 v2) (x:=(v7,v7,0)) h6 (fun (v8,v9,v10)=>⟨.junk :: .v (.int .i64 v3) :: .v (.int .i64 v4) :: .fptr true [.list 1 (v1.map e_Li_),.list 1 (v2.map e_i)] 0 :: .junk :: .junk :: .lptr 0 0 0 :: .v (.int .i64 v8) :: .v (.int .i64 v9) :: .v (.int .i64 v10) :: .junk :: .junk :: .junk :: .junk :: .junk :: .junk :: .junk :: .junk :: .junk :: .junk :: .junk :: .junk :: .junk :: .junk :: .junk :: .junk :: .junk :: .junk :: .junk :: .junk :: .junk :: .junk :: .junk :: .junk :: .junk :: .junk :: .junk :: .junk :: .junk :: .junk :: .junk :: .junk :: .junk :: .junk :: .junk :: .junk :: .junk :: .junk :: .junk :: .junk :: .junk :: .junk :: .junk :: .junk :: .junk :: .junk :: .junk :: .junk :: .junk :: .junk :: .junk :: .junk :: .junk :: .junk :: .junk :: .junk :: .junk :: .junk :: .junk :: .junk :: .junk :: .junk :: .junk :: [],[.var [.v (.int .i64 0),.v (.int .i64 0)]]⟩) (fun (v12,v13)=>(.exit 0,⟨.junk :: .v (.int .i64 v3) :: .v (.int .i64 v4) :: .fptr true [.list 1 (v1.map e_Li_),.list 1 (v2.map e_i)] 0 :: .junk :: .junk :: .lptr 0 0 0 :: .v (.int .i64 v12) :: .v (.int .i64 v13) :: .junk :: .junk :: .junk :: .junk :: .junk :: .junk :: .junk :: .junk :: .junk :: .junk :: .junk :: .junk :: .junk :: .junk :: .junk :: .junk :: .junk :: .junk :: .junk :: .junk :: .junk :: .junk :: .junk :: .junk :: .junk :: .junk :: .junk :: .junk :: .junk :: .junk :: .junk :: .junk :: .junk :: .junk :: .junk :: .junk :: .junk :: .junk :: .junk :: .junk :: .junk :: .junk :: .junk :: .junk :: .junk :: .junk :: .junk :: .junk :: .junk :: .junk :: .junk :: .junk :: .junk :: .junk :: .junk :: .junk :: .junk :: .junk :: .junk :: .junk :: .junk :: .junk :: .junk :: .junk :: [],[.var [.v (.int .i64 0),.v (.int .i64 0)]]⟩)) ?_ ?_ ?_ ?_
    · rintro ⟨v8,v9,v10⟩ v0 hr
      dsimp only [ref03_BoundOf_l1] at hr
      try dsimp only
      repeat (first|(with_reducible first|refine mv ?_|refine TO.nil ?_)|((with_reducible first|apply TO.mv|apply TO.fa|apply TO.ld|apply TO.len|apply TO.bin);(repeat (focus (show _ = _;first|exact k2 rfl|(simp only [zz,y24,Nat.reduceAdd,tfieldAddr,tload,rowOf,partT,tlen]<;>exact rfl)|exact rfl)));(with_reducible apply TO.here))|((with_reducible apply TX.region);(focus (simp only []<;>exact rfl));(focus rfl);(try dsimp only)))
      rcases Bool.eq_false_or_eq_true ((decide (v10 < (v2.length : Int)))) with h4|h4
      · rw [if_pos h4] at hr
        repeat (first|with_reducible refine mv ?_|((with_reducible first|apply TD.mv|apply TD.fa|apply TD.ld);(repeat (focus (show _ = _;first|exact k2 rfl|(simp only [zz,y24,Nat.reduceAdd,tfieldAddr,tload,rowOf,partT,h4]<;>exact rfl)|exact rfl)));(with_reducible refine TD.here ?_))|((with_reducible apply TX.drawn);(focus decide +kernel);(focus (simp only []<;>exact rfl));(focus exact rfl);(try dsimp only))|((with_reducible apply TX.cond_true);(focus rfl);(focus ((simp only [z1,h4];done)))))
        obtain ⟨v14,h5,hr⟩:=Option.bind_eq_some_iff.1 hr
        try dsimp only at hr
        have h5m:=tidx_map (f:=e_i) h5
        have h5l:=getI_lt h5
        try simp only [List.length_set] at h5l
        have h5a:=getI_at h5
        repeat (first|((with_reducible first|apply TD.ia|apply TD.ld);(repeat (focus (show _ = _;first|exact k2 rfl|(simp only [zz,y24,e_i,tindexAddr,tload,rowOf,partT,h5m]<;>exact rfl)|exact rfl)));(with_reducible refine TD.here ?_)))
        apply TD.pop1 (by first|rfl|(simp only [twant,z1,z7,h1m,h1l,h1a,h4,h5m,h5l,h5a]<;>rfl)) (pop_min rfl rfl)
        (repeat (focus (show _ = _;(simp only [zz]<;>exact rfl))))
        with_reducible apply TD.here
        repeat (first|((with_reducible first|apply TD.mv|apply TD.fa|apply TD.ld|apply TD.ia);(repeat (focus (show _ = _;first|exact k2 rfl|(simp only [zz,y24,e_i,tfieldAddr,tload,rowOf,partT,tindexAddr,Nat.zero_add,h5m]<;>exact rfl)|exact rfl)));(with_reducible refine TD.here ?_)))
        apply TD.pop1 (by first|rfl|(simp only [twant,z1,z7,h1m,h1l,h1a,h4,h5m,h5l,h5a]<;>rfl)) (pop_max rfl rfl)
        (repeat (focus (show _ = _;(simp only [zz]<;>exact rfl))))
        with_reducible apply TD.here
        repeat (first|(with_reducible first|refine mv ?_|refine TO.nil ?_)|((with_reducible first|apply TO.mv|apply TO.bin|apply TO.asg);(repeat (focus (show _ = _;first|exact k2 rfl|(simp only [zz]<;>exact rfl))));(with_reducible apply TO.here))|((with_reducible apply TX.region);(focus (simp only []<;>exact rfl));(focus rfl);(try dsimp only))|with_reducible refine TD.nil ?_|((with_reducible apply TD.asg);(repeat (focus (show _ = _;first|exact k2 rfl|(simp only [zz]<;>exact rfl))));(with_reducible refine TD.here ?_)))
        cases hr
        refine ⟨rfl,?_⟩
        exact Wk.ren [some 0] rfl (rv .nil rfl) (by (repeat (first|exact RNs.nil|refine RNs.cons .junk ?_|refine RNs.cons (.keep rfl rfl) ?_|refine RNs.cons (.lptr rfl) ?_)))
      · rw [if_neg (by rw [h4];exact Bool.false_ne_true)] at hr
        repeat (first|with_reducible refine mv ?_|((with_reducible apply TX.cond_false);(focus rfl);(focus ((simp only [z1,h4];done)))))
        cases hr
        refine ⟨rfl,?_⟩
        exact Wk.ren [some 0] rfl (rv .nil rfl) (by (repeat (first|exact RNs.nil|refine RNs.cons .junk ?_|refine RNs.cons (.keep rfl rfl) ?_|refine RNs.cons (.lptr rfl) ?_)))
    · intro e h;cases h
    · try dsimp only
      repeat (first|(with_reducible first|refine mv ?_|refine TO.nil ?_)|((with_reducible first|apply TO.mv|apply TO.bld|apply TO.al|apply TO.sv|apply TO.asg);(repeat (focus (show _ = _;first|exact k1 rfl|exact k2 rfl|(simp only [zz,y24,Nat.reduceAdd,Nat.reduceLeDiff,tbuild,tfill]<;>exact rfl))));(with_reducible apply TO.here))|((with_reducible apply TX.region);(focus (simp only []<;>exact rfl));(focus rfl);(try dsimp only)))
      obtain ⟨⟨v26,v27⟩,h13,hr⟩:=Option.bind_eq_some_iff.1 hr
      try dsimp only at hr
      refine TX.loopE (step:=ref03_BoundOf_l2 v2 v4 v15 v16) (x:=(v3,v3,0)) h13 (fun (v17,v18,v19)=>⟨.junk :: .junk :: .v (.int .i64 v4) :: .fptr true [.list 1 (v1.map e_Li_),.list 1 (v2.map e_i)] 0 :: .junk :: .junk :: .lptr 0 0 0 :: .v (.int .i64 v15) :: .v (.int .i64 v16) :: .junk :: .lptr 1 0 0 :: .v (.int .i64 v19) :: .junk :: .junk :: .junk :: .junk :: .junk :: .junk :: .junk :: .junk :: .junk :: .junk :: .junk :: .junk :: .junk :: .junk :: .junk :: .junk :: .junk :: .junk :: .junk :: .junk :: .junk :: .junk :: .junk :: .junk :: .junk :: .junk :: .junk :: .junk :: .junk :: .junk :: .junk :: .junk :: .junk :: .junk :: .junk :: .junk :: .junk :: .junk :: .junk :: .junk :: .junk :: .junk :: .junk :: .junk :: .junk :: .junk :: .junk :: .junk :: .junk :: .junk :: .junk :: .junk :: .junk :: .junk :: .junk :: .junk :: .junk :: .junk :: .junk :: .junk :: .junk :: [],[.var [.v (.int .i64 0),.v (.int .i64 0)],.var [.v (.int .i64 v17),.v (.int .i64 v18)]]⟩) (fun (v22,v23)=>(.exit 2,⟨.junk :: .junk :: .junk :: .junk :: .junk :: .junk :: .lptr 0 0 0 :: .junk :: .junk :: .junk :: .lptr 1 0 0 :: .junk :: .junk :: .junk :: .junk :: .junk :: .junk :: .junk :: .junk :: .junk :: .junk :: .junk :: .junk :: .junk :: .junk :: .junk :: .junk :: .junk :: .junk :: .junk :: .junk :: .junk :: .junk :: .junk :: .junk :: .junk :: .junk :: .junk :: .junk :: .junk :: .junk :: .junk :: .junk :: .junk :: .junk :: .junk :: .junk :: .junk :: .junk :: .junk :: .junk :: .junk :: .junk :: .junk :: .junk :: .junk :: .junk :: .junk :: .junk :: .junk :: .junk :: .junk :: .junk :: .junk :: .junk :: .junk :: .junk :: .junk :: .junk :: .junk :: .junk :: .junk :: .junk :: [],[.var [.v (.int .i64 0),.v (.int .i64 0)],.var [.v (.int .i64 v22),.v (.int .i64 v23)]]⟩)) ?_ ?_ ?_ ?_
      · rintro ⟨v17,v18,v19⟩ v0 hr
        dsimp only [ref03_BoundOf_l2] at hr
        try dsimp only
        repeat (first|(with_reducible first|refine mv ?_|refine TO.nil ?_)|((with_reducible first|apply TO.mv|apply TO.bin);(repeat (focus (show _ = _;first|exact k2 rfl|(simp only [zz]<;>exact rfl))));(with_reducible apply TO.here))|((with_reducible apply TX.region);(focus (simp only []<;>exact rfl));(focus rfl);(try dsimp only)))
        rcases Bool.eq_false_or_eq_true ((decide (v19 < v4))) with h10|h10
        · rw [if_pos h10] at hr
          repeat (first|with_reducible refine mv ?_|((with_reducible first|apply TD.fa|apply TD.ld|apply TD.mv|apply TD.bin);(repeat (focus (show _ = _;first|exact k2 rfl|(simp only [zz,y24,Nat.reduceAdd,tfieldAddr,tload,rowOf,partT,h10]<;>exact rfl)|exact rfl)));(with_reducible refine TD.here ?_))|((with_reducible apply TX.drawn);(focus decide +kernel);(focus (simp only []<;>exact rfl));(focus exact rfl);(try dsimp only))|((with_reducible apply TX.cond_true);(focus rfl);(focus ((simp only [z1,h10];done)))))
          obtain ⟨v24,h11,hr⟩:=Option.bind_eq_some_iff.1 hr
          try dsimp only at hr
          first|apply TD.cal (by first|rfl|(simp only [twant,z1,z7,h1m,h1l,h1a,h10]<;>rfl)) rfl goFn64 (base_Ceil_spec h11) rfl rfl rfl|apply TD.calw (by first|rfl|(simp only [twant,z1,z7,h1m,h1l,h1a,h10]<;>rfl)) rfl goFn64 (base_Ceil_spec h11) rfl rfl rfl rfl
          (repeat (focus (show _ = _;(simp only [zz,shift]<;>exact rfl))))
          with_reducible apply TD.here
          repeat (first|(with_reducible first|refine mv ?_|refine TD.nil ?_)|((with_reducible first|apply TD.bin|apply TD.fa|apply TD.sv|apply TD.ld|apply TD.mv);(repeat (focus (show _ = _;first|exact k1 rfl|exact k2 rfl|(simp only [zz,y24,Nat.reduceAdd,tfieldAddr,tload,rowOf,partT]<;>exact rfl)|exact rfl)));(with_reducible refine TD.here ?_))|((with_reducible apply TX.drawn);(focus decide +kernel);(focus (simp only []<;>exact rfl));(focus exact rfl);(try dsimp only)))
          obtain ⟨v25,h12,hr⟩:=Option.bind_eq_some_iff.1 hr
          try dsimp only at hr
          first|apply TD.cal (by first|rfl|(simp only [twant,z1,z7,h1m,h1l,h1a,h10]<;>rfl)) rfl goFn65 (base_Floor_spec h12) rfl rfl rfl|apply TD.calw (by first|rfl|(simp only [twant,z1,z7,h1m,h1l,h1a,h10]<;>rfl)) rfl goFn65 (base_Floor_spec h12) rfl rfl rfl rfl
          (repeat (focus (show _ = _;(simp only [zz,shift]<;>exact rfl))))
          with_reducible apply TD.here
          repeat (first|((with_reducible first|apply TD.bin|apply TD.fa|apply TD.ld|apply TD.len);(repeat (focus (show _ = _;first|exact k2 rfl|(simp only [zz,y24,Nat.reduceAdd,tfieldAddr,tload,rowOf,partT,tlen]<;>exact rfl)|exact rfl)));(with_reducible refine TD.here ?_)))
          apply TD.pop1 (by first|rfl|(simp only [twant,z1,z7,h1m,h1l,h1a,h10]<;>rfl)) (pop_max rfl rfl)
          (repeat (focus (show _ = _;(simp only [zz]<;>exact rfl))))
          with_reducible apply TD.here
          repeat (first|(with_reducible first|refine mv ?_|refine TO.nil ?_)|((with_reducible first|apply TO.mv|apply TO.bin|apply TO.asg);(repeat (focus (show _ = _;first|exact k2 rfl|(simp only [zz]<;>exact rfl))));(with_reducible apply TO.here))|((with_reducible apply TX.region);(focus (simp only []<;>exact rfl));(focus rfl);(try dsimp only))|with_reducible refine TD.nil ?_|((with_reducible first|apply TD.fa|apply TD.sv);(repeat (focus (show _ = _;first|exact k1 rfl|exact k2 rfl|(simp only [zz,y24,Nat.reduceAdd,tfieldAddr]<;>exact rfl))));(with_reducible refine TD.here ?_)))
          cases hr
          refine ⟨rfl,?_⟩
          exact Wk.ren [some 0,some 1] rfl (rv (rv .nil rfl) rfl) (by (repeat (first|exact RNs.nil|refine RNs.cons .junk ?_|refine RNs.cons (.keep rfl rfl) ?_|refine RNs.cons (.lptr rfl) ?_)))
        · rw [if_neg (by rw [h10];exact Bool.false_ne_true)] at hr
          repeat (first|with_reducible refine mv ?_|((with_reducible apply TX.cond_false);(focus rfl);(focus ((simp only [z1,h10];done)))))
          cases hr
          refine ⟨rfl,?_⟩
          exact Wk.ren [some 0,some 1] rfl (rv (rv .nil rfl) rfl) (by (repeat (first|exact RNs.nil|refine RNs.cons .junk ?_|refine RNs.cons (.lptr rfl) ?_)))
      · intro e h;cases h
      · try dsimp only
        repeat (first|(with_reducible first|refine mv ?_|refine TO.nil ?_)|((with_reducible first|apply TO.ld|apply TO.sv);(repeat (focus (show _ = _;first|exact k1 rfl|exact k2 rfl|(simp only [zz,y24,Nat.reduceAdd,Nat.reduceLeDiff,tload,rowOf,partT]<;>exact rfl)|exact rfl)));(with_reducible apply TO.here))|((with_reducible apply TX.region);(focus (simp only []<;>exact rfl));(focus rfl);(try dsimp only)))
        cases hr
        refine ⟨.inr rfl,_,(by simp only [];exact rfl),?_⟩
        exact wr [] rfl .nil
      · try dsimp only
        exact wr [some 0,some 1] rfl (rv (rv .nil rfl) rfl)
    · try dsimp only
      exact wr [some 0] rfl (rv .nil rfl)
  rfl

end Go.Rex

namespace Go.Rex
open Go.Proofs
open Go Go.Rex Go.RowKit
set_option maxRecDepth 100000
set_option maxHeartbeats 200000
def y25:=an @ag3 <| an @ag43 <| an @cs3 <| an @fd46_0 <| an @ok3 <| an @so43 <| an @so44 <| @wi64_0a1
theorem ref03_EnergiesErr_spec {v1 : (List (List Int))} {v2 : (List Int)} {v3 : (List Int)} {v4 : Int} (hr : ref03_EnergiesErr v1 v2 v3 = some (v4)) : Spec (lim Tryz.prog) 33 [.agg [.list 1 (v1.map e_Li_),.list 1 (v2.map e_i)],.list 1 (v3.map e_i)] ⟨[.v (.int .i64 v4)],[]⟩:=by
  unfold ref03_EnergiesErr at hr
  apply Spec.fn Tryz.func33 rfl
  focus (simp [Tryz.f33]<;>exact rfl)
  focus
    repeat (first|(with_reducible first|refine mv ?_|refine TO.nil ?_)|((with_reducible first|apply TO.bf|apply TO.asg|apply TO.mv|apply TO.len|apply TO.fa|apply TO.ld|apply TO.bin);(repeat (focus (show _ = _;first|exact k1 rfl|exact k2 rfl|(simp only [zz,y25,Nat.reduceAdd,tlen,tfieldAddr,tload,rowOf,partT]<;>exact rfl)|exact rfl)));(with_reducible apply TO.here))|((with_reducible apply TX.region);(focus (simp only []<;>exact rfl));(focus rfl);(try dsimp only)))
    rcases Bool.eq_false_or_eq_true ((decide ((v3.length : Int) ≠ (v1.length : Int)))) with h1|h1
    · rw [if_pos h1] at hr
      repeat (first|(with_reducible first|refine mv ?_|refine TO.nil ?_)|((with_reducible apply TO.asg);(repeat (focus (show _ = _;first|exact k2 rfl|(simp only [zz,h1]<;>exact rfl))));(with_reducible apply TO.here))|((with_reducible apply TX.region);(focus (simp only []<;>exact rfl));(focus rfl);(try dsimp only))|((with_reducible apply TX.cond_true);(focus rfl);(focus ((simp only [z1,h1];done)))))
      cases hr
      refine ⟨.inr rfl,_,(by simp only [];exact rfl),?_⟩
      exact Wk.ren [] rfl .nil (by (repeat (first|exact RNs.nil|refine RNs.cons (.keep rfl rfl) ?_)))
    · rw [if_neg (by rw [h1];exact Bool.false_ne_true)] at hr
      repeat (first|(with_reducible first|refine mv ?_|refine TO.nil ?_)|((with_reducible apply TO.asg);(repeat (focus (show _ = _;first|exact k2 rfl|(simp only [zz,h1]<;>exact rfl))));(with_reducible apply TO.here))|((with_reducible apply TX.region);(focus (simp only []<;>exact rfl));(focus rfl);(try dsimp only))|((with_reducible apply TX.cond_false);(focus rfl);(focus ((simp only [z1,h1];done)))))
      obtain ⟨v10,h10,hr⟩:=Option.bind_eq_some_iff.1 hr
      refine TX.loopE (step:=ref03_EnergiesErr_l1 v3) (x:=0) h10 (fun v5=>⟨.junk :: .list 1 (v3.map e_i) :: .junk :: .junk :: .junk :: .v (.int .i64 v5) :: .junk :: .junk :: .junk :: .junk :: .junk :: .junk :: .junk :: .junk :: .junk :: .junk :: .junk :: .junk :: .junk :: .junk :: .junk :: .junk :: .junk :: .junk :: [],[]⟩) (fun e=>match e with|(.inl _)=>(.ret,⟨.junk :: .junk :: .junk :: .junk :: .v (.int .i64 2) :: .junk :: .junk :: .junk :: .junk :: .junk :: .junk :: .junk :: .junk :: .junk :: .junk :: .junk :: .junk :: .junk :: .junk :: .junk :: .junk :: .junk :: .junk :: .junk :: [],[]⟩)|(.inr _)=>(.exit 0,⟨.junk :: .junk :: .junk :: .junk :: .junk :: .junk :: .junk :: .junk :: .junk :: .junk :: .junk :: .junk :: .junk :: .junk :: .junk :: .junk :: .junk :: .junk :: .junk :: .junk :: .junk :: .junk :: .junk :: .junk :: [],[]⟩)) ?_ ?_ ?_ ?_
      · rintro v5 v0 hr
        dsimp only [ref03_EnergiesErr_l1] at hr
        try dsimp only
        repeat (first|(with_reducible first|refine mv ?_|refine TO.nil ?_)|((with_reducible first|apply TO.mv|apply TO.len|apply TO.bin);(repeat (focus (show _ = _;first|exact k2 rfl|(simp only [zz,y25,tlen]<;>exact rfl))));(with_reducible apply TO.here))|((with_reducible apply TX.region);(focus (simp only []<;>exact rfl));(focus rfl);(try dsimp only)))
        rcases Bool.eq_false_or_eq_true ((decide (v5 < (v3.length : Int)))) with h6|h6
        · rw [if_pos h6] at hr
          repeat (first|with_reducible refine mv ?_|((with_reducible apply TO.mv);(repeat (focus (show _ = _;first|exact k2 rfl|(simp only [zz,h6]<;>exact rfl))));(with_reducible apply TO.here))|((with_reducible apply TX.region);(focus (simp only []<;>exact rfl));(focus rfl);(try dsimp only))|((with_reducible apply TX.cond_true);(focus rfl);(focus ((simp only [z1,h6];done)))))
          obtain ⟨v8,h7,hr⟩:=Option.bind_eq_some_iff.1 hr
          try dsimp only at hr
          have h7m:=tidx_map (f:=e_i) h7
          have h7l:=getI_lt h7
          try simp only [List.length_set] at h7l
          have h7a:=getI_at h7
          repeat (first|((with_reducible first|apply TO.ia|apply TO.ld);(repeat (focus (show _ = _;first|exact k2 rfl|(simp only [zz,y25,e_i,tindexAddr,tload,rowOf,partT,h7m]<;>exact rfl)|exact rfl)));(with_reducible apply TO.here)))
          obtain ⟨v9,h8,hr⟩:=Option.bind_eq_some_iff.1 hr
          try dsimp only at hr
          apply TO.cal (by first|rfl|(simp only [twant,z1,z7,h1,h6,h7m,h7l,h7a]<;>rfl)) rfl goFn31 (base_Within_spec h8) rfl rfl rfl
          (repeat (focus (show _ = _;(simp only [zz,shift]<;>exact rfl))))
          with_reducible apply TO.here
          apply TO.pop1 (by first|rfl|(simp only [twant,z1,z7,h1,h6,h7m,h7l,h7a]<;>rfl)) (pop_not rfl)
          (repeat (focus (show _ = _;(simp only [zz]<;>exact rfl))))
          with_reducible apply TO.here
          repeat (first|(with_reducible first|refine mv ?_|refine TO.nil ?_))
          rcases Bool.eq_false_or_eq_true (v9) with h9|h9
          · rw [if_pos h9] at hr
            repeat (first|(with_reducible first|refine mv ?_|refine TO.nil ?_)|((with_reducible first|apply TO.mv|apply TO.bin|apply TO.asg);(repeat (focus (show _ = _;first|exact k2 rfl|(simp only [zz,h9]<;>exact rfl))));(with_reducible apply TO.here))|((with_reducible apply TX.region);(focus (simp only []<;>exact rfl));(focus rfl);(try dsimp only))|((with_reducible apply TX.cond_false);(focus rfl);(focus ((simp only [z1,Bool.not_true,h9];done)))))
            cases hr
            refine ⟨rfl,?_⟩
            exact Wk.ren [] rfl .nil (by (repeat (first|exact RNs.nil|refine RNs.cons .junk ?_|refine RNs.cons (.keep rfl rfl) ?_)))
          · rw [if_neg (by rw [h9];exact Bool.false_ne_true)] at hr
            repeat (first|(with_reducible first|refine mv ?_|refine TO.nil ?_)|((with_reducible apply TO.asg);(repeat (focus (show _ = _;first|exact k2 rfl|(simp only [zz,h9]<;>exact rfl))));(with_reducible apply TO.here))|((with_reducible apply TX.region);(focus (simp only []<;>exact rfl));(focus rfl);(try dsimp only))|((with_reducible apply TX.cond_true);(focus rfl);(focus ((simp only [z1,Bool.not_false,h9];done)))))
            cases hr
            refine ⟨rfl,?_⟩
            exact Wk.ren [] rfl .nil (by (repeat (first|exact RNs.nil|refine RNs.cons .junk ?_|refine RNs.cons (.keep rfl rfl) ?_)))
        · rw [if_neg (by rw [h6];exact Bool.false_ne_true)] at hr
          repeat (first|with_reducible refine mv ?_|((with_reducible apply TX.cond_false);(focus rfl);(focus ((simp only [z1,h6];done)))))
          cases hr
          refine ⟨rfl,?_⟩
          exact Wk.ren [] rfl .nil (by (repeat (first|exact RNs.nil|refine RNs.cons .junk ?_)))
      · intro e h;rcases e with _|e<;>cases h
      · try dsimp only
        rcases v10 with _|_
        · try dsimp only at hr
          try dsimp only
          repeat (first|with_reducible refine mv ?_)
          cases hr
          refine ⟨.inr rfl,_,(by simp only [];exact rfl),?_⟩
          exact Wk.ren [] rfl .nil (by (repeat (first|exact RNs.nil|refine RNs.cons (.keep rfl rfl) ?_)))
        · try dsimp only at hr
          try dsimp only
          repeat (first|(with_reducible first|refine mv ?_|refine TO.nil ?_)|((with_reducible apply TO.asg);(repeat (focus (show _ = _;first|exact k2 rfl|(simp only [zz]<;>exact rfl))));(with_reducible apply TO.here))|((with_reducible apply TX.region);(focus (simp only []<;>exact rfl));(focus rfl);(try dsimp only)))
          cases hr
          refine ⟨.inr rfl,_,(by simp only [];exact rfl),?_⟩
          exact Wk.ren [] rfl .nil (by (repeat (first|exact RNs.nil|refine RNs.cons (.keep rfl rfl) ?_)))
      · try dsimp only
        exact Wk.ren [] rfl .nil (by (repeat (first|exact RNs.nil|refine RNs.cons .junk ?_|refine RNs.cons (.keep rfl rfl) ?_)))
  rfl

end Go.Rex

namespace Go.Rex
open Go.Proofs
open Go Go.Rex Go.RowKit
set_option maxRecDepth 100000
set_option maxHeartbeats 200000
def y26:=an @ag3 <| an @cs3 <| an @ok3 <| an @so44 <| @wi64_0a1
theorem ref03_Total_spec {v1 : (List Int)} {v2 : Int} (hr : ref03_Total v1 = some (v2)) : Spec (lim Tryz.prog) 32 [.list 1 (v1.map e_i)] ⟨[.v (.int .i64 v2)],[]⟩:=by
  unfold ref03_Total at hr
  apply Spec.fn Tryz.func32 rfl
  focus (simp [Tryz.f32]<;>exact rfl)
  focus
    repeat (first|(with_reducible first|refine mv ?_|refine TO.nil ?_)|((with_reducible apply TO.asg);(repeat (focus (show _ = _;first|exact k2 rfl|(simp only [zz]<;>exact rfl))));(with_reducible apply TO.here))|((with_reducible apply TX.region);(focus (simp only []<;>exact rfl));(focus rfl);(try dsimp only)))
    obtain ⟨v8,h5,hr⟩:=Option.bind_eq_some_iff.1 hr
    try dsimp only at hr
    refine TX.loopE (step:=ref03_Total_l1 v1) (x:=(0,0)) h5 (fun (v3,v4)=>⟨.list 1 (v1.map e_i) :: .junk :: .junk :: .v (.int .i64 v3) :: .v (.int .i64 v4) :: .junk :: .junk :: .junk :: .junk :: .junk :: .junk :: .junk :: .junk :: .junk :: .junk :: .junk :: .junk :: .junk :: [],[]⟩) (fun v6=>(.exit 0,⟨.junk :: .junk :: .junk :: .v (.int .i64 v6) :: .junk :: .junk :: .junk :: .junk :: .junk :: .junk :: .junk :: .junk :: .junk :: .junk :: .junk :: .junk :: .junk :: .junk :: [],[]⟩)) ?_ ?_ ?_ ?_
    · rintro ⟨v3,v4⟩ v0 hr
      dsimp only [ref03_Total_l1] at hr
      try dsimp only
      repeat (first|(with_reducible first|refine mv ?_|refine TO.nil ?_)|((with_reducible first|apply TO.mv|apply TO.len|apply TO.bin);(repeat (focus (show _ = _;first|exact k2 rfl|(simp only [zz,y26,tlen]<;>exact rfl))));(with_reducible apply TO.here))|((with_reducible apply TX.region);(focus (simp only []<;>exact rfl));(focus rfl);(try dsimp only)))
      rcases Bool.eq_false_or_eq_true ((decide (v4 < (v1.length : Int)))) with h3|h3
      · rw [if_pos h3] at hr
        repeat (first|with_reducible refine mv ?_|((with_reducible apply TO.mv);(repeat (focus (show _ = _;first|exact k2 rfl|(simp only [zz,h3]<;>exact rfl))));(with_reducible apply TO.here))|((with_reducible apply TX.region);(focus (simp only []<;>exact rfl));(focus rfl);(try dsimp only))|((with_reducible apply TX.cond_true);(focus rfl);(focus ((simp only [z1,h3];done)))))
        obtain ⟨v7,h4,hr⟩:=Option.bind_eq_some_iff.1 hr
        try dsimp only at hr
        have h4m:=tidx_map (f:=e_i) h4
        have h4l:=getI_lt h4
        try simp only [List.length_set] at h4l
        have h4a:=getI_at h4
        repeat (first|(with_reducible first|refine mv ?_|refine TO.nil ?_)|((with_reducible first|apply TO.ia|apply TO.ld|apply TO.bin|apply TO.asg|apply TO.mv);(repeat (focus (show _ = _;first|exact k2 rfl|(simp only [zz,y26,e_i,tindexAddr,tload,rowOf,partT,h4m]<;>exact rfl)|exact rfl)));(with_reducible apply TO.here))|((with_reducible apply TX.region);(focus (simp only []<;>exact rfl));(focus rfl);(try dsimp only)))
        cases hr
        refine ⟨rfl,?_⟩
        exact Wk.ren [] rfl .nil (by (repeat (first|exact RNs.nil|refine RNs.cons .junk ?_|refine RNs.cons (.keep rfl rfl) ?_)))
      · rw [if_neg (by rw [h3];exact Bool.false_ne_true)] at hr
        repeat (first|with_reducible refine mv ?_|((with_reducible apply TX.cond_false);(focus rfl);(focus ((simp only [z1,h3];done)))))
        cases hr
        refine ⟨rfl,?_⟩
        exact Wk.ren [] rfl .nil (by (repeat (first|exact RNs.nil|refine RNs.cons .junk ?_|refine RNs.cons (.keep rfl rfl) ?_)))
    · intro e h;cases h
    · try dsimp only
      repeat (first|(with_reducible first|refine mv ?_|refine TO.nil ?_)|((with_reducible first|apply TO.mv|apply TO.asg);(repeat (focus (show _ = _;first|exact k2 rfl|(simp only [zz]<;>exact rfl))));(with_reducible apply TO.here))|((with_reducible apply TX.region);(focus (simp only []<;>exact rfl));(focus rfl);(try dsimp only)))
      cases hr
      refine ⟨.inr rfl,_,(by simp only [];exact rfl),?_⟩
      exact wr [] rfl .nil
    · try dsimp only
      exact wr [] rfl .nil
  rfl

end Go.Rex

namespace Go.Rex
open Go.Proofs
open Go Go.Rex Go.RowKit
set_option maxRecDepth 100000
set_option maxHeartbeats 200000
theorem energy_perPatch_spec {v1 : (List (List Int))} {v2 : (List Int)} {v3 : (List Int)} {v4 : Int} {v5 : Int} {v6 : (List Int)} {v7 : (List (List Int))} {v8 : (List Int)} {v9 : Int} {v10 : Int} (hr : energy_perPatch v1 v2 v3 v4 v5 = some (v6,v7,v8,v9,v10)) : Spec (lim Tryz.prog) 73 [.agg [.list 1 (v1.map e_Li_),.list 1 (v2.map e_i)],.list 1 (v3.map e_i),.v (.int .i64 v4),.v (.int .i64 v5)] ⟨[.func 90 [] [.fptr true [.list 1 (v6.map e_i)] 0,.fptr true [.list 1 (v7.map e_Li_),.list 1 (v8.map e_i)] 0,.fptr true [.v (.int .i64 v9)] 0,.fptr true [.v (.int .i64 v10)] 0]],[]⟩:=by
  unfold energy_perPatch at hr
  apply Spec.fn Tryz.func73 rfl
  focus (simp [Tryz.f73]<;>exact rfl)
  focus
    repeat (first|(with_reducible first|refine mv ?_|refine TO.nil ?_)|((with_reducible first|apply TO.bf|apply TO.asg|apply TO.mf);(repeat (focus (show _ = _;first|exact k1 rfl|exact k2 rfl|(simp only [zz]<;>exact rfl)|exact rfl)));(with_reducible apply TO.here))|((with_reducible apply TX.region);(focus (simp only []<;>exact rfl));(focus rfl);(try dsimp only)))
    cases hr
    refine ⟨.inr rfl,_,(by simp only [];exact rfl),?_⟩
    exact wr [] rfl .nil
  rfl

end Go.Rex

namespace Go.Rex
open Go.Proofs
open Go Go.Rex Go.RowKit
set_option maxRecDepth 100000
set_option maxHeartbeats 200000
def y27:=an @ag46 <| an @cs46 <| @ok46
theorem energy_energies_spec {v1 : (List (List Int))} {v2 : (List Int)} {v3 : (List Int)} {v4 : (List Int)} {v5 : (List (List Int))} {v6 : (List Int)} {v7 : Int} {v8 : Int} (hr : energy_energies v1 v2 v3 = some (v4,v5,v6,v7,v8)) : Spec (lim Tryz.prog) 60 [.agg [.list 1 (v1.map e_Li_),.list 1 (v2.map e_i)],.list 1 (v3.map e_i)] ⟨[.func 90 [] [.fptr true [.list 1 (v4.map e_i)] 0,.fptr true [.list 1 (v5.map e_Li_),.list 1 (v6.map e_i)] 0,.fptr true [.v (.int .i64 v7)] 0,.fptr true [.v (.int .i64 v8)] 0]],[]⟩:=by
  unfold energy_energies at hr
  apply Spec.fn Tryz.func60 rfl
  focus (simp [Tryz.f60]<;>exact rfl)
  focus
    repeat (first|(with_reducible first|refine mv ?_|refine TO.nil ?_)|((with_reducible first|apply TO.bf|apply TO.asg|apply TO.ld|apply TO.mv);(repeat (focus (show _ = _;first|exact k1 rfl|exact k2 rfl|(simp only [zz,y27,Nat.reduceAdd,Nat.reduceLeDiff,tload,rowOf,partT]<;>exact rfl)|exact rfl)));(with_reducible apply TO.here))|((with_reducible apply TX.region);(focus (simp only []<;>exact rfl));(focus rfl);(try dsimp only)))
    obtain ⟨⟨v9,v10,v11,v12,v13⟩,h1,hr⟩:=Option.bind_eq_some_iff.1 hr
    try dsimp only at hr
    apply TO.cal (by first|rfl|(simp only [twant,z1,z7]<;>rfl)) rfl goFn73 (energy_perPatch_spec h1) rfl rfl rfl
    (repeat (focus (show _ = _;(simp only [zz,shift]<;>exact rfl))))
    with_reducible apply TO.here
    repeat (first|(with_reducible first|refine mv ?_|refine TO.nil ?_)|((with_reducible apply TO.asg);(repeat (focus (show _ = _;first|exact k2 rfl|(simp only [zz]<;>exact rfl))));(with_reducible apply TO.here)))
    cases hr
    refine ⟨.inr rfl,_,(by simp only [];exact rfl),?_⟩
    exact wr [] rfl .nil
  rfl

end Go.Rex

namespace Go.Rex
open Go.Proofs
open Go Go.Rex Go.RowKit
set_option maxRecDepth 100000
set_option maxHeartbeats 200000
def y28:=an @ag95 <| an @cs95 <| an @ok95 <| an @so136 <| an @wi64_0a1 <| @wi64_1a1
theorem energy_firstError_fcdf_spec {v1 : Bool} {v2 : Int} {v3 : Int} {v4 : Int} (hr : energy_firstError_fcdf v1 v2 v3 = some (v4)) : Spec (lim Tryz.prog) 48 [.list 1 [[.func 85 [] [.fptr true [.v (.bool v1)] 0,.fptr true [.v (.int .i64 v2)] 0]],[.func 104 [] [.fptr true [.v (.int .i64 v3)] 0]]]] ⟨[.v (.int .i64 v4)],[]⟩:=by
  unfold energy_firstError_fcdf at hr
  apply Spec.fn Tryz.func48 rfl
  focus (simp [Tryz.f48]<;>exact rfl)
  focus
    repeat (first|(with_reducible first|refine mv ?_|refine TO.nil ?_)|((with_reducible first|apply TO.asg|apply TO.mv|apply TO.len);(repeat (focus (show _ = _;first|exact k2 rfl|(simp only [zz,y28,Nat.reduceAdd,tlen]<;>exact rfl))));(with_reducible apply TO.here))|((with_reducible apply TX.region);(focus (simp only []<;>exact rfl));(focus rfl);(try dsimp only)))
    refine TX.unroll ?_
    repeat (first|(with_reducible first|refine mv ?_|refine TO.nil ?_)|((with_reducible first|apply TO.bin|apply TO.ia|apply TO.ld|apply TO.asg|apply TO.mv);(repeat (focus (show _ = _;first|exact k2 rfl|(simp only [zz,y28,tindexAddr,z5,Int.reduceLT,Int.cast_ofNat_Int,tload,rowOf,partT]<;>exact rfl)|exact rfl)));(with_reducible apply TO.here))|((with_reducible apply TX.region);(focus (simp only []<;>exact rfl));(focus rfl);(try dsimp only))|((with_reducible apply TX.cond_true);(focus rfl);(focus (rfl))))
    obtain ⟨v5,h1,hr⟩:=Option.bind_eq_some_iff.1 hr
    try dsimp only at hr
    apply TO.cal (by first|rfl|(simp only [twant,z1,z7]<;>rfl)) rfl goFn85 (energy_refuse_c1_11f9_spec h1) rfl rfl rfl
    (repeat (focus (show _ = _;(simp only [zz,shift]<;>exact rfl))))
    with_reducible apply TO.here
    repeat (first|(with_reducible first|refine mv ?_|refine TO.nil ?_)|((with_reducible first|apply TO.asg|apply TO.mv|apply TO.bin);(repeat (focus (show _ = _;first|exact k2 rfl|(simp only [zz]<;>exact rfl))));(with_reducible apply TO.here))|((with_reducible apply TX.region);(focus (simp only []<;>exact rfl));(focus rfl);(try dsimp only)))
    rcases Bool.eq_false_or_eq_true ((decide (v5 ≠ 0))) with h2|h2
    · rw [if_pos h2] at hr
      repeat (first|(with_reducible first|refine mv ?_|refine TO.nil ?_)|((with_reducible first|apply TO.mv|apply TO.asg);(repeat (focus (show _ = _;first|exact k2 rfl|(simp only [zz,h2]<;>exact rfl))));(with_reducible apply TO.here))|((with_reducible apply TX.region);(focus (simp only []<;>exact rfl));(focus rfl);(try dsimp only))|((with_reducible apply TX.cond_true);(focus rfl);(focus ((simp only [z1,h2];done)))))
      cases hr
      refine ⟨.inr rfl,_,(by simp only [];exact rfl),?_⟩
      exact Wk.ren [] rfl .nil (by (repeat (first|exact RNs.nil|refine RNs.cons (.keep rfl rfl) ?_)))
    · rw [if_neg (by rw [h2];exact Bool.false_ne_true)] at hr
      repeat (first|(with_reducible first|refine mv ?_|refine TO.nil ?_)|((with_reducible first|apply TO.bin|apply TO.mv);(repeat (focus (show _ = _;first|exact k2 rfl|(simp only [zz,y28,h2]<;>exact rfl))));(with_reducible apply TO.here))|((with_reducible apply TX.region);(focus (simp only []<;>exact rfl));(focus rfl);(try dsimp only))|((with_reducible apply TX.cond_false);(focus rfl);(focus ((simp only [z1,h2];done)))))
      refine TX.unroll ?_
      repeat (first|(with_reducible first|refine mv ?_|refine TO.nil ?_)|((with_reducible first|apply TO.bin|apply TO.ia|apply TO.ld|apply TO.asg|apply TO.mv);(repeat (focus (show _ = _;first|exact k2 rfl|(simp only [zz,y28,tindexAddr,z5,Int.reduceLT,tload,rowOf,partT]<;>exact rfl)|exact rfl)));(with_reducible apply TO.here))|((with_reducible apply TX.region);(focus (simp only []<;>exact rfl));(focus rfl);(try dsimp only))|((with_reducible apply TX.cond_true);(focus rfl);(focus (rfl))))
      obtain ⟨v6,h3,hr⟩:=Option.bind_eq_some_iff.1 hr
      try dsimp only at hr
      apply TO.cal (by first|rfl|(simp only [twant,z1,z7,h2]<;>rfl)) rfl goFn104 (energy_unnumbered_c1_662c_spec h3) rfl rfl rfl
      (repeat (focus (show _ = _;(simp only [zz,shift]<;>exact rfl))))
      with_reducible apply TO.here
      repeat (first|(with_reducible first|refine mv ?_|refine TO.nil ?_)|((with_reducible first|apply TO.asg|apply TO.mv|apply TO.bin);(repeat (focus (show _ = _;first|exact k2 rfl|(simp only [zz]<;>exact rfl))));(with_reducible apply TO.here))|((with_reducible apply TX.region);(focus (simp only []<;>exact rfl));(focus rfl);(try dsimp only)))
      rcases Bool.eq_false_or_eq_true ((decide (v6 ≠ 0))) with h4|h4
      · rw [if_pos h4] at hr
        repeat (first|(with_reducible first|refine mv ?_|refine TO.nil ?_)|((with_reducible first|apply TO.mv|apply TO.asg);(repeat (focus (show _ = _;first|exact k2 rfl|(simp only [zz,h4]<;>exact rfl))));(with_reducible apply TO.here))|((with_reducible apply TX.region);(focus (simp only []<;>exact rfl));(focus rfl);(try dsimp only))|((with_reducible apply TX.cond_true);(focus rfl);(focus ((simp only [z1,h4];done)))))
        cases hr
        refine ⟨.inr rfl,_,(by simp only [];exact rfl),?_⟩
        exact Wk.ren [] rfl .nil (by (repeat (first|exact RNs.nil|refine RNs.cons (.keep rfl rfl) ?_)))
      · rw [if_neg (by rw [h4];exact Bool.false_ne_true)] at hr
        repeat (first|(with_reducible first|refine mv ?_|refine TO.nil ?_)|((with_reducible first|apply TO.bin|apply TO.mv);(repeat (focus (show _ = _;first|exact k2 rfl|(simp only [zz,y28,h4]<;>exact rfl))));(with_reducible apply TO.here))|((with_reducible apply TX.region);(focus (simp only []<;>exact rfl));(focus rfl);(try dsimp only))|((with_reducible apply TX.cond_false);(focus rfl);(focus ((simp only [z1,h4];done)))))
        refine TX.unroll ?_
        repeat (first|(with_reducible first|refine mv ?_|refine TO.nil ?_)|((with_reducible first|apply TO.bin|apply TO.asg);(repeat (focus (show _ = _;first|exact k2 rfl|(simp only [zz]<;>exact rfl))));(with_reducible apply TO.here))|((with_reducible apply TX.region);(focus (simp only []<;>exact rfl));(focus rfl);(try dsimp only))|((with_reducible apply TX.cond_false);(focus rfl);(focus (rfl))))
        cases hr
        refine ⟨.inr rfl,_,(by simp only [];exact rfl),?_⟩
        exact Wk.ren [] rfl .nil (by (repeat (first|exact RNs.nil|refine RNs.cons (.keep rfl rfl) ?_)))
  rfl

end Go.Rex

namespace Go.Rex
open Go.Proofs
open Go Go.Rex Go.RowKit
set_option maxRecDepth 100000
set_option maxHeartbeats 200000
def y29:=an @ag3 <| an @ag43 <| an @ag44 <| an @cs95 <| an @fd46_0 <| an @so136 <| an @so43 <| an @so44 <| @zc95
theorem energy_perPatch_c1_e525_spec {v1 : (List Int)} {v2 : (List (List Int))} {v3 : (List Int)} {v4 : Int} {v5 : Int} {v6 : Int} (hr : energy_perPatch_c1_e525 v1 v2 v3 v4 v5 = some (v6)) : Spec (lim Tryz.prog) 90 [.fptr true [.list 1 (v1.map e_i)] 0,.fptr true [.list 1 (v2.map e_Li_),.list 1 (v3.map e_i)] 0,.fptr true [.v (.int .i64 v4)] 0,.fptr true [.v (.int .i64 v5)] 0] ⟨[.v (.int .i64 v6)],[]⟩:=by
  unfold energy_perPatch_c1_e525 at hr
  apply Spec.fn Tryz.func90 rfl
  focus (simp [Tryz.f90]<;>exact rfl)
  focus
    repeat (first|(with_reducible first|refine mv ?_|refine TO.nil ?_)|((with_reducible apply TO.asg);(repeat (focus (show _ = _;first|exact k2 rfl|(simp only [zz]<;>exact rfl))));(with_reducible apply TO.here))|((with_reducible apply TX.region);(focus (simp only []<;>exact rfl));(focus rfl);(try dsimp only))|((with_reducible first|apply TD.ld|apply TD.len|apply TD.fa|apply TD.bin);(repeat (focus (show _ = _;first|exact k2 rfl|(simp only [zz,y29,Nat.reduceAdd,tload,rowOf,partT,tlen,tfieldAddr]<;>exact rfl)|exact rfl)));(with_reducible refine TD.here ?_))|((with_reducible apply TX.drawn);(focus decide +kernel);(focus (simp only []<;>exact rfl));(focus exact rfl);(try dsimp only)))
    obtain ⟨⟨v7,v8⟩,h1,hr⟩:=Option.bind_eq_some_iff.1 hr
    try dsimp only at hr
    first|apply TD.cal (by first|rfl|(simp only [twant,z1,z7]<;>rfl)) rfl goFn50 (energy_refuse_spec h1) rfl rfl rfl|apply TD.calw (by first|rfl|(simp only [twant,z1,z7]<;>rfl)) rfl goFn50 (energy_refuse_spec h1) rfl rfl rfl rfl
    (repeat (focus (show _ = _;(simp only [zz,shift]<;>exact rfl))))
    with_reducible apply TD.here
    repeat (first|((with_reducible apply TD.ld);(repeat (focus (show _ = _;first|exact k2 rfl|(simp only [zz,y29,tload,rowOf,partT]<;>exact rfl)|exact rfl)));(with_reducible refine TD.here ?_)))
    obtain ⟨v9,h2,hr⟩:=Option.bind_eq_some_iff.1 hr
    try dsimp only at hr
    first|apply TD.cal (by first|rfl|(simp only [twant,z1,z7]<;>rfl)) rfl goFn55 (energy_allWithin_spec h2) rfl rfl rfl|apply TD.calw (by first|rfl|(simp only [twant,z1,z7]<;>rfl)) rfl goFn55 (energy_allWithin_spec h2) rfl rfl rfl rfl
    (repeat (focus (show _ = _;(simp only [zz,shift]<;>exact rfl))))
    with_reducible apply TD.here
    repeat (first|((with_reducible apply TD.bs);(repeat (focus (show _ = _;first|exact k2 rfl|(simp only [zz,y29,Nat.reduceAdd,Nat.reduceMul,tslice,tparts]<;>exact rfl)|exact rfl)));(with_reducible refine TD.here ?_)))
    obtain ⟨v10,h3,hr⟩:=Option.bind_eq_some_iff.1 hr
    try dsimp only at hr
    first|apply TD.cal (by first|rfl|(simp only [twant,z1,z7]<;>rfl)) rfl goFn48 (energy_firstError_fcdf_spec h3) rfl rfl rfl|apply TD.calw (by first|rfl|(simp only [twant,z1,z7]<;>rfl)) rfl goFn48 (energy_firstError_fcdf_spec h3) rfl rfl rfl rfl
    (repeat (focus (show _ = _;(simp only [zz,shift]<;>exact rfl))))
    with_reducible apply TD.here
    repeat (first|(with_reducible first|refine mv ?_|refine TD.nil ?_)|((with_reducible apply TD.asg);(repeat (focus (show _ = _;first|exact k2 rfl|(simp only [zz]<;>exact rfl))));(with_reducible refine TD.here ?_)))
    cases hr
    refine ⟨.inr rfl,_,(by simp only [];exact rfl),?_⟩
    exact wr [] rfl .nil
  rfl

end Go.Rex

namespace Go.Rex
open Go.Proofs
open Go Go.Rex Go.RowKit
set_option maxRecDepth 100000
set_option maxHeartbeats 200000
def y30:=an @ag95 <| an @cs95 <| an @ok95 <| an @so136 <| an @wi64_0a1 <| an @wi64_1a1 <| @wi64_2a1
theorem energy_firstError_7416_spec {v1 : Int} {v2 : (List Int)} {v3 : (List (List Int))} {v4 : (List Int)} {v5 : Int} {v6 : Int} {v7 : Bool} {v8 : Int} {v9 : Int} (hr : energy_firstError_7416 v1 v2 v3 v4 v5 v6 v7 v8 = some (v9)) : Spec (lim Tryz.prog) 48 [.list 1 [[.func 104 [] [.fptr true [.v (.int .i64 v1)] 0]],[.func 90 [] [.fptr true [.list 1 (v2.map e_i)] 0,.fptr true [.list 1 (v3.map e_Li_),.list 1 (v4.map e_i)] 0,.fptr true [.v (.int .i64 v5)] 0,.fptr true [.v (.int .i64 v6)] 0]],[.func 85 [] [.fptr true [.v (.bool v7)] 0,.fptr true [.v (.int .i64 v8)] 0]]]] ⟨[.v (.int .i64 v9)],[]⟩:=by
  unfold energy_firstError_7416 at hr
  apply Spec.fn Tryz.func48 rfl
  focus (simp [Tryz.f48]<;>exact rfl)
  focus
    repeat (first|(with_reducible first|refine mv ?_|refine TO.nil ?_)|((with_reducible first|apply TO.asg|apply TO.mv|apply TO.len);(repeat (focus (show _ = _;first|exact k2 rfl|(simp only [zz,y30,Nat.reduceAdd,tlen]<;>exact rfl))));(with_reducible apply TO.here))|((with_reducible apply TX.region);(focus (simp only []<;>exact rfl));(focus rfl);(try dsimp only)))
    refine TX.unroll ?_
    repeat (first|(with_reducible first|refine mv ?_|refine TO.nil ?_)|((with_reducible first|apply TO.bin|apply TO.ia|apply TO.ld|apply TO.asg|apply TO.mv);(repeat (focus (show _ = _;first|exact k2 rfl|(simp only [zz,y30,tindexAddr,z5,Int.reduceLT,Int.cast_ofNat_Int,tload,rowOf,partT]<;>exact rfl)|exact rfl)));(with_reducible apply TO.here))|((with_reducible apply TX.region);(focus (simp only []<;>exact rfl));(focus rfl);(try dsimp only))|((with_reducible apply TX.cond_true);(focus rfl);(focus (rfl))))
    obtain ⟨v10,h1,hr⟩:=Option.bind_eq_some_iff.1 hr
    try dsimp only at hr
    apply TO.cal (by first|rfl|(simp only [twant,z1,z7]<;>rfl)) rfl goFn104 (energy_unnumbered_c1_662c_spec h1) rfl rfl rfl
    (repeat (focus (show _ = _;(simp only [zz,shift]<;>exact rfl))))
    with_reducible apply TO.here
    repeat (first|(with_reducible first|refine mv ?_|refine TO.nil ?_)|((with_reducible first|apply TO.asg|apply TO.mv|apply TO.bin);(repeat (focus (show _ = _;first|exact k2 rfl|(simp only [zz]<;>exact rfl))));(with_reducible apply TO.here))|((with_reducible apply TX.region);(focus (simp only []<;>exact rfl));(focus rfl);(try dsimp only)))
    rcases Bool.eq_false_or_eq_true ((decide (v10 ≠ 0))) with h2|h2
    · rw [if_pos h2] at hr
      repeat (first|(with_reducible first|refine mv ?_|refine TO.nil ?_)|((with_reducible first|apply TO.mv|apply TO.asg);(repeat (focus (show _ = _;first|exact k2 rfl|(simp only [zz,h2]<;>exact rfl))));(with_reducible apply TO.here))|((with_reducible apply TX.region);(focus (simp only []<;>exact rfl));(focus rfl);(try dsimp only))|((with_reducible apply TX.cond_true);(focus rfl);(focus ((simp only [z1,h2];done)))))
      cases hr
      refine ⟨.inr rfl,_,(by simp only [];exact rfl),?_⟩
      exact Wk.ren [] rfl .nil (by (repeat (first|exact RNs.nil|refine RNs.cons (.keep rfl rfl) ?_)))
    · rw [if_neg (by rw [h2];exact Bool.false_ne_true)] at hr
      repeat (first|(with_reducible first|refine mv ?_|refine TO.nil ?_)|((with_reducible first|apply TO.bin|apply TO.mv);(repeat (focus (show _ = _;first|exact k2 rfl|(simp only [zz,y30,h2]<;>exact rfl))));(with_reducible apply TO.here))|((with_reducible apply TX.region);(focus (simp only []<;>exact rfl));(focus rfl);(try dsimp only))|((with_reducible apply TX.cond_false);(focus rfl);(focus ((simp only [z1,h2];done)))))
      refine TX.unroll ?_
      repeat (first|(with_reducible first|refine mv ?_|refine TO.nil ?_)|((with_reducible first|apply TO.bin|apply TO.ia|apply TO.ld|apply TO.asg|apply TO.mv);(repeat (focus (show _ = _;first|exact k2 rfl|(simp only [zz,y30,tindexAddr,z5,Int.reduceLT,tload,rowOf,partT]<;>exact rfl)|exact rfl)));(with_reducible apply TO.here))|((with_reducible apply TX.region);(focus (simp only []<;>exact rfl));(focus rfl);(try dsimp only))|((with_reducible apply TX.cond_true);(focus rfl);(focus (rfl))))
      obtain ⟨v11,h3,hr⟩:=Option.bind_eq_some_iff.1 hr
      try dsimp only at hr
      apply TO.cal (by first|rfl|(simp only [twant,z1,z7,h2]<;>rfl)) rfl goFn90 (energy_perPatch_c1_e525_spec h3) rfl rfl rfl
      (repeat (focus (show _ = _;(simp only [zz,shift]<;>exact rfl))))
      with_reducible apply TO.here
      repeat (first|(with_reducible first|refine mv ?_|refine TO.nil ?_)|((with_reducible first|apply TO.asg|apply TO.mv|apply TO.bin);(repeat (focus (show _ = _;first|exact k2 rfl|(simp only [zz]<;>exact rfl))));(with_reducible apply TO.here))|((with_reducible apply TX.region);(focus (simp only []<;>exact rfl));(focus rfl);(try dsimp only)))
      rcases Bool.eq_false_or_eq_true ((decide (v11 ≠ 0))) with h4|h4
      · rw [if_pos h4] at hr
        repeat (first|(with_reducible first|refine mv ?_|refine TO.nil ?_)|((with_reducible first|apply TO.mv|apply TO.asg);(repeat (focus (show _ = _;first|exact k2 rfl|(simp only [zz,h4]<;>exact rfl))));(with_reducible apply TO.here))|((with_reducible apply TX.region);(focus (simp only []<;>exact rfl));(focus rfl);(try dsimp only))|((with_reducible apply TX.cond_true);(focus rfl);(focus ((simp only [z1,h4];done)))))
        cases hr
        refine ⟨.inr rfl,_,(by simp only [];exact rfl),?_⟩
        exact Wk.ren [] rfl .nil (by (repeat (first|exact RNs.nil|refine RNs.cons (.keep rfl rfl) ?_)))
      · rw [if_neg (by rw [h4];exact Bool.false_ne_true)] at hr
        repeat (first|(with_reducible first|refine mv ?_|refine TO.nil ?_)|((with_reducible first|apply TO.bin|apply TO.mv);(repeat (focus (show _ = _;first|exact k2 rfl|(simp only [zz,y30,h4]<;>exact rfl))));(with_reducible apply TO.here))|((with_reducible apply TX.region);(focus (simp only []<;>exact rfl));(focus rfl);(try dsimp only))|((with_reducible apply TX.cond_false);(focus rfl);(focus ((simp only [z1,h4];done)))))
        refine TX.unroll ?_
        repeat (first|(with_reducible first|refine mv ?_|refine TO.nil ?_)|((with_reducible first|apply TO.bin|apply TO.ia|apply TO.ld|apply TO.asg|apply TO.mv);(repeat (focus (show _ = _;first|exact k2 rfl|(simp only [zz,y30,tindexAddr,z5,Int.reduceLT,tload,rowOf,partT]<;>exact rfl)|exact rfl)));(with_reducible apply TO.here))|((with_reducible apply TX.region);(focus (simp only []<;>exact rfl));(focus rfl);(try dsimp only))|((with_reducible apply TX.cond_true);(focus rfl);(focus (rfl))))
        obtain ⟨v12,h5,hr⟩:=Option.bind_eq_some_iff.1 hr
        try dsimp only at hr
        apply TO.cal (by first|rfl|(simp only [twant,z1,z7,h2,h4]<;>rfl)) rfl goFn85 (energy_refuse_c1_11f9_spec h5) rfl rfl rfl
        (repeat (focus (show _ = _;(simp only [zz,shift]<;>exact rfl))))
        with_reducible apply TO.here
        repeat (first|(with_reducible first|refine mv ?_|refine TO.nil ?_)|((with_reducible first|apply TO.asg|apply TO.mv|apply TO.bin);(repeat (focus (show _ = _;first|exact k2 rfl|(simp only [zz]<;>exact rfl))));(with_reducible apply TO.here))|((with_reducible apply TX.region);(focus (simp only []<;>exact rfl));(focus rfl);(try dsimp only)))
        rcases Bool.eq_false_or_eq_true ((decide (v12 ≠ 0))) with h6|h6
        · rw [if_pos h6] at hr
          repeat (first|(with_reducible first|refine mv ?_|refine TO.nil ?_)|((with_reducible first|apply TO.mv|apply TO.asg);(repeat (focus (show _ = _;first|exact k2 rfl|(simp only [zz,h6]<;>exact rfl))));(with_reducible apply TO.here))|((with_reducible apply TX.region);(focus (simp only []<;>exact rfl));(focus rfl);(try dsimp only))|((with_reducible apply TX.cond_true);(focus rfl);(focus ((simp only [z1,h6];done)))))
          cases hr
          refine ⟨.inr rfl,_,(by simp only [];exact rfl),?_⟩
          exact Wk.ren [] rfl .nil (by (repeat (first|exact RNs.nil|refine RNs.cons (.keep rfl rfl) ?_)))
        · rw [if_neg (by rw [h6];exact Bool.false_ne_true)] at hr
          repeat (first|(with_reducible first|refine mv ?_|refine TO.nil ?_)|((with_reducible first|apply TO.bin|apply TO.mv);(repeat (focus (show _ = _;first|exact k2 rfl|(simp only [zz,y30,h6]<;>exact rfl))));(with_reducible apply TO.here))|((with_reducible apply TX.region);(focus (simp only []<;>exact rfl));(focus rfl);(try dsimp only))|((with_reducible apply TX.cond_false);(focus rfl);(focus ((simp only [z1,h6];done)))))
          refine TX.unroll ?_
          repeat (first|(with_reducible first|refine mv ?_|refine TO.nil ?_)|((with_reducible first|apply TO.bin|apply TO.asg);(repeat (focus (show _ = _;first|exact k2 rfl|(simp only [zz]<;>exact rfl))));(with_reducible apply TO.here))|((with_reducible apply TX.region);(focus (simp only []<;>exact rfl));(focus rfl);(try dsimp only))|((with_reducible apply TX.cond_false);(focus rfl);(focus (rfl))))
          cases hr
          refine ⟨.inr rfl,_,(by simp only [];exact rfl),?_⟩
          exact Wk.ren [] rfl .nil (by (repeat (first|exact RNs.nil|refine RNs.cons (.keep rfl rfl) ?_)))
  rfl

end Go.Rex

namespace Go.Rex
open Go.Proofs
open Go Go.Rex Go.RowKit
set_option maxRecDepth 100000
set_option maxHeartbeats 200000
def y31:=an @by3 <| an @cs3 <| an @ni44 <| an @so44 <| @zc3
theorem slices_Clone_int_int_spec {v1 : (List Int)} {v2 : (List Int)} (hr : slices_Clone_int_int v1 = some (v2)) : Spec (lim Tryz.prog) 62 [.list 1 (v1.map e_i)] ⟨[.lsl 0 0 v2.length],[.rows 1 (v2.map e_i)]⟩:=by
  unfold slices_Clone_int_int at hr
  apply Spec.fn Tryz.func62 rfl
  focus (simp [Tryz.f62]<;>exact rfl)
  focus
    repeat (first|(with_reducible first|refine mv ?_|refine TO.nil ?_)|((with_reducible first|apply TO.asg|apply TO.mv);(repeat (focus (show _ = _;first|exact k2 rfl|(simp only [zz]<;>exact rfl))));(with_reducible apply TO.here))|((with_reducible apply TX.region);(focus (simp only []<;>exact rfl));(focus rfl);(try dsimp only)))
    refine TO.nq (by first|rfl|(simp only [twant,z1,z7]<;>rfl)) (.inl rfl) rfl rfl so44 ?_ ?_
    · intro h1
      replace hr:=nilq_l hr h1
      show TO _ _ _ _ ⟨[.list 1 (v1.map e_i),.junk,.v (.slice none 0 0),.list 1 (v1.map e_i),.v (.bool true),.junk,.junk,.junk],[]⟩ _
      repeat (first|(with_reducible first|refine mv ?_|refine TO.nil ?_)|((with_reducible apply TO.asg);(repeat (focus (show _ = _;first|exact k2 rfl|(simp only [zz]<;>exact rfl))));(with_reducible apply TO.here))|((with_reducible apply TX.region);(focus (simp only []<;>exact rfl));(focus rfl);(try dsimp only))|((with_reducible apply TX.cond_true);(focus rfl);(focus (rfl))))
      cases hr
      refine ⟨.inr rfl,_,(by simp only [];exact rfl),?_⟩
      exact wr [none] rfl (.virt .nil)
    · replace hr:=nilq_r hr
      show TO _ _ _ _ ⟨[.list 1 (v1.map e_i),.junk,.v (.slice none 0 0),.list 1 (v1.map e_i),.v (.bool false),.junk,.junk,.junk],[]⟩ _
      repeat (first|(with_reducible first|refine mv ?_|refine TO.nil ?_)|((with_reducible apply TX.region);(focus (simp only []<;>exact rfl));(focus rfl);(try dsimp only))|((with_reducible apply TX.cond_false);(focus rfl);(focus (rfl))))
      apply TO.bl e_i ([] : List Int) (by first|rfl|(simp only [twant,z1,z7]<;>rfl)) rfl (by simp only [zz,y31,Nat.reduceAdd,Nat.reduceMul,tslice,tparts];exact rfl) rfl rfl
      (repeat (focus (show _ = _;(simp only [zz]<;>exact rfl))))
      with_reducible apply TO.here
      repeat (first|((with_reducible apply TO.mv);(repeat (focus (show _ = _;first|exact k2 rfl|(simp only [zz]<;>exact rfl))));(with_reducible apply TO.here)))
      obtain ⟨v3,h2,hr⟩:=Option.bind_eq_some_iff.1 hr
      try dsimp only at hr
      apply TO.ap (f:=e_i) (xs:=([] : List Int)) (ys:=v1) (by first|rfl|(simp only [twant,z1,z7]<;>rfl)) rfl rfl (by first|rfl|simp only [List.length_set]) rfl rfl so44 ni44 zc3 rfl (by rw [by3];exact h2) (fun _=>⟨rfl,rfl,rfl⟩)
      (repeat (focus (show _ = _;(simp only [zz,Nat.reduceAdd,kill,killB]<;>exact rfl))))
      with_reducible apply TO.here
      repeat (first|(with_reducible first|refine mv ?_|refine TO.nil ?_)|((with_reducible apply TO.asg);(repeat (focus (show _ = _;first|exact k2 rfl|(simp only [zz]<;>exact rfl))));(with_reducible apply TO.here)))
      cases hr
      refine ⟨.inr rfl,_,(by simp only [];exact rfl),?_⟩
      exact wr [some 0] rfl (.rows .nil rfl rfl)
  rfl

end Go.Rex

namespace Go.Rex
open Go.Proofs
open Go Go.Rex Go.RowKit
set_option maxRecDepth 100000
set_option maxHeartbeats 200000
def y32:=an @ag3 <| an @cs3 <| an @ok3 <| an @so44 <| @wi64_0a1
theorem slices_Index_int_int_spec {v1 : (List Int)} {v2 : Int} {v3 : Int} (hr : slices_Index_int_int v1 v2 = some (v3)) : Spec (lim Tryz.prog) 105 [.list 1 (v1.map e_i),.v (.int .i64 v2)] ⟨[.v (.int .i64 v3)],[]⟩:=by
  unfold slices_Index_int_int at hr
  apply Spec.fn Tryz.func105 rfl
  focus (simp [Tryz.f105]<;>exact rfl)
  focus
    repeat (first|(with_reducible first|refine mv ?_|refine TO.nil ?_)|((with_reducible first|apply TO.asg|apply TO.mv|apply TO.len);(repeat (focus (show _ = _;first|exact k2 rfl|(simp only [zz,y32,tlen]<;>exact rfl))));(with_reducible apply TO.here))|((with_reducible apply TX.region);(focus (simp only []<;>exact rfl));(focus rfl);(try dsimp only)))
    obtain ⟨v8,h7,hr⟩:=Option.bind_eq_some_iff.1 hr
    refine TX.loopE (step:=slices_Index_int_int_l1 v1 v2) (x:=0) h7 (fun v4=>⟨.list 1 (v1.map e_i) :: .v (.int .i64 v2) :: .junk :: .junk :: .junk :: .junk :: .junk :: .v (.int .i64 (v1.length : Int)) :: .v (.int .i64 v4) :: .junk :: .junk :: .junk :: .junk :: .junk :: .junk :: .junk :: .junk :: .junk :: .junk :: [],[]⟩) (fun e=>match e with|(.inl v6)=>(.ret,⟨.junk :: .junk :: .junk :: .junk :: .v (.int .i64 v6) :: .junk :: .junk :: .junk :: .junk :: .junk :: .junk :: .junk :: .junk :: .junk :: .junk :: .junk :: .junk :: .junk :: .junk :: [],[]⟩)|(.inr _)=>(.exit 0,⟨.junk :: .junk :: .junk :: .junk :: .junk :: .junk :: .junk :: .junk :: .junk :: .junk :: .junk :: .junk :: .junk :: .junk :: .junk :: .junk :: .junk :: .junk :: .junk :: [],[]⟩)) ?_ ?_ ?_ ?_
    · rintro v4 v0 hr
      dsimp only [slices_Index_int_int_l1] at hr
      try dsimp only
      repeat (first|(with_reducible first|refine mv ?_|refine TO.nil ?_)|((with_reducible apply TO.bin);(repeat (focus (show _ = _;first|exact k2 rfl|(simp only [zz]<;>exact rfl))));(with_reducible apply TO.here))|((with_reducible apply TX.region);(focus (simp only []<;>exact rfl));(focus rfl);(try dsimp only)))
      rcases Bool.eq_false_or_eq_true ((decide (v4 < (v1.length : Int)))) with h4|h4
      · rw [if_pos h4] at hr
        repeat (first|(with_reducible first|refine mv ?_|refine TO.nil ?_)|((with_reducible first|apply TO.mv|apply TO.asg);(repeat (focus (show _ = _;first|exact k2 rfl|(simp only [zz,h4]<;>exact rfl))));(with_reducible apply TO.here))|((with_reducible apply TX.region);(focus (simp only []<;>exact rfl));(focus rfl);(try dsimp only))|((with_reducible apply TX.cond_true);(focus rfl);(focus ((simp only [z1,h4];done)))))
        obtain ⟨v7,h5,hr⟩:=Option.bind_eq_some_iff.1 hr
        try dsimp only at hr
        have h5m:=tidx_map (f:=e_i) h5
        have h5l:=getI_lt h5
        try simp only [List.length_set] at h5l
        have h5a:=getI_at h5
        repeat (first|(with_reducible first|refine mv ?_|refine TO.nil ?_)|((with_reducible first|apply TO.ia|apply TO.ld|apply TO.bin);(repeat (focus (show _ = _;first|exact k2 rfl|(simp only [zz,y32,e_i,tindexAddr,tload,rowOf,partT,h5m]<;>exact rfl)|exact rfl)));(with_reducible apply TO.here)))
        rcases Bool.eq_false_or_eq_true ((decide (v2 = v7))) with h6|h6
        · rw [if_pos h6] at hr
          repeat (first|(with_reducible first|refine mv ?_|refine TO.nil ?_)|((with_reducible first|apply TO.mv|apply TO.asg);(repeat (focus (show _ = _;first|exact k2 rfl|(simp only [zz,h6]<;>exact rfl))));(with_reducible apply TO.here))|((with_reducible apply TX.region);(focus (simp only []<;>exact rfl));(focus rfl);(try dsimp only))|((with_reducible apply TX.cond_true);(focus rfl);(focus ((simp only [z1,h6];done)))))
          cases hr
          refine ⟨rfl,?_⟩
          exact Wk.ren [] rfl .nil (by (repeat (first|exact RNs.nil|refine RNs.cons .junk ?_|refine RNs.cons (.keep rfl rfl) ?_)))
        · rw [if_neg (by rw [h6];exact Bool.false_ne_true)] at hr
          repeat (first|(with_reducible first|refine mv ?_|refine TO.nil ?_)|((with_reducible first|apply TO.bin|apply TO.mv);(repeat (focus (show _ = _;first|exact k2 rfl|(simp only [zz,h6]<;>exact rfl))));(with_reducible apply TO.here))|((with_reducible apply TX.region);(focus (simp only []<;>exact rfl));(focus rfl);(try dsimp only))|((with_reducible apply TX.cond_false);(focus rfl);(focus ((simp only [z1,h6];done)))))
          cases hr
          refine ⟨rfl,?_⟩
          exact Wk.ren [] rfl .nil (by (repeat (first|exact RNs.nil|refine RNs.cons .junk ?_|refine RNs.cons (.keep rfl rfl) ?_)))
      · rw [if_neg (by rw [h4];exact Bool.false_ne_true)] at hr
        repeat (first|with_reducible refine mv ?_|((with_reducible apply TX.cond_false);(focus rfl);(focus ((simp only [z1,h4];done)))))
        cases hr
        refine ⟨rfl,?_⟩
        exact Wk.ren [] rfl .nil (by (repeat (first|exact RNs.nil|refine RNs.cons .junk ?_)))
    · intro e h;rcases e with _|e<;>cases h
    · try dsimp only
      rcases v8 with v9|_
      · try dsimp only at hr
        try dsimp only
        repeat (first|with_reducible refine mv ?_)
        cases hr
        refine ⟨.inr rfl,_,(by simp only [];exact rfl),?_⟩
        exact wr [] rfl .nil
      · try dsimp only at hr
        try dsimp only
        repeat (first|(with_reducible first|refine mv ?_|refine TO.nil ?_)|((with_reducible apply TO.asg);(repeat (focus (show _ = _;first|exact k2 rfl|(simp only [zz]<;>exact rfl))));(with_reducible apply TO.here))|((with_reducible apply TX.region);(focus (simp only []<;>exact rfl));(focus rfl);(try dsimp only)))
        cases hr
        refine ⟨.inr rfl,_,(by simp only [];exact rfl),?_⟩
        exact wr [] rfl .nil
    · try dsimp only
      exact wr [] rfl .nil
  rfl

end Go.Rex

namespace Go.Rex
open Go.Proofs
open Go Go.Rex Go.RowKit
set_option maxRecDepth 100000
set_option maxHeartbeats 200000
def y33:=an @ag3 <| an @cs3 <| an @ok3 <| an @so44 <| @wi64_0a1
theorem energy_spread_9c9e_spec {v1 : (List Int)} {v2 : (List Int)} {v3 : Int} {v4 : (List Int)} (hr : energy_spread_9c9e v1 v2 v3 = some (v4)) : SpecO (lim Tryz.prog) 89 [.lsl 0 0 v1.length,.list 1 (v2.map e_i),.v (.int .i64 v3)] [.rows 1 (v1.map e_i)] (.tuple []) [.rows 1 (v4.map e_i)]:=by
  unfold energy_spread_9c9e at hr
  apply SpecO.of (is:=[0]) Tryz.func89 rfl rfl rfl rfl
  focus (simp [Tryz.f89]<;>exact rfl)
  focus rfl
  focus rfl
  focus rfl
  focus (simp [clTB,cl,e_i])
  focus
    repeat (first|(with_reducible first|refine mv ?_|refine TO.nil ?_)|((with_reducible first|apply TO.mv|apply TO.asg|apply TO.len);(repeat (focus (show _ = _;first|exact k2 rfl|(simp only [zz,y33,tlen]<;>exact rfl))));(with_reducible apply TO.here))|((with_reducible apply TX.region);(focus (simp only []<;>exact rfl));(focus rfl);(try dsimp only)))
    obtain ⟨⟨v16,v17⟩,h9,hr⟩:=Option.bind_eq_some_iff.1 hr
    try dsimp only at hr
    refine TX.loopE (step:=energy_spread_9c9e_l1 v2 v3) (x:=(v1,v3,0)) h9 (fun (v5,v6,v7)=>⟨.lsl 0 0 v5.length :: .list 1 (v2.map e_i) :: .v (.int .i64 v3) :: .junk :: .junk :: .junk :: .v (.int .i64 v6) :: .junk :: .junk :: .junk :: .junk :: .list 1 (v2.map e_i) :: .v (.int .i64 (v2.length : Int)) :: .v (.int .i64 v7) :: .junk :: .junk :: .junk :: .junk :: .junk :: .junk :: .junk :: .junk :: .junk :: .junk :: .junk :: .junk :: .junk :: .junk :: .junk :: .junk :: .junk :: .junk :: .junk :: .junk :: .junk :: .junk :: .junk :: .junk :: .junk :: .junk :: .junk :: .junk :: .junk :: [],[.rows 1 (v5.map e_i)]⟩) (fun (v11,v12)=>(.exit 0,⟨.lsl 0 0 v11.length :: .list 1 (v2.map e_i) :: .junk :: .junk :: .junk :: .junk :: .v (.int .i64 v12) :: .junk :: .junk :: .junk :: .junk :: .junk :: .junk :: .junk :: .junk :: .junk :: .junk :: .junk :: .junk :: .junk :: .junk :: .junk :: .junk :: .junk :: .junk :: .junk :: .junk :: .junk :: .junk :: .junk :: .junk :: .junk :: .junk :: .junk :: .junk :: .junk :: .junk :: .junk :: .junk :: .junk :: .junk :: .junk :: .junk :: [],[.rows 1 (v11.map e_i)]⟩)) ?_ ?_ ?_ ?_
    · rintro ⟨v5,v6,v7⟩ v0 hr
      dsimp only [energy_spread_9c9e_l1] at hr
      try dsimp only
      repeat (first|(with_reducible first|refine mv ?_|refine TO.nil ?_)|((with_reducible apply TO.bin);(repeat (focus (show _ = _;first|exact k2 rfl|(simp only [zz]<;>exact rfl))));(with_reducible apply TO.here))|((with_reducible apply TX.region);(focus (simp only []<;>exact rfl));(focus rfl);(try dsimp only)))
      rcases Bool.eq_false_or_eq_true ((decide (v7 < (v2.length : Int)))) with h5|h5
      · rw [if_pos h5] at hr
        repeat (first|with_reducible refine mv ?_|((with_reducible apply TO.mv);(repeat (focus (show _ = _;first|exact k2 rfl|(simp only [zz,h5]<;>exact rfl))));(with_reducible apply TO.here))|((with_reducible apply TX.region);(focus (simp only []<;>exact rfl));(focus rfl);(try dsimp only))|((with_reducible apply TX.cond_true);(focus rfl);(focus ((simp only [z1,h5];done)))))
        obtain ⟨v13,h6,hr⟩:=Option.bind_eq_some_iff.1 hr
        try dsimp only at hr
        have h6m:=tidx_map (f:=e_i) h6
        have h6l:=getI_lt h6
        try simp only [List.length_set] at h6l
        have h6a:=getI_at h6
        repeat (first|(with_reducible first|refine mv ?_|refine TO.nil ?_)|((with_reducible first|apply TO.ia|apply TO.ld|apply TO.asg|apply TO.mv|apply TO.bin);(repeat (focus (show _ = _;first|exact k2 rfl|(simp only [zz,y33,e_i,tindexAddr,tload,rowOf,partT,h6m]<;>exact rfl)|exact rfl)));(with_reducible apply TO.here))|((with_reducible apply TX.region);(focus (simp only []<;>exact rfl));(focus rfl);(try dsimp only)))
        obtain ⟨v14,h7,hr⟩:=Option.bind_eq_some_iff.1 hr
        try dsimp only at hr
        apply TO.cal (by first|rfl|(simp only [twant,z1,z7,h5,h6m,h6l,h6a]<;>rfl)) rfl goFn70 (energy_down_spec h7) rfl rfl rfl
        (repeat (focus (show _ = _;(simp only [zz,shift]<;>exact rfl))))
        with_reducible apply TO.here
        repeat (first|(with_reducible first|refine mv ?_|refine TO.nil ?_)|((with_reducible first|apply TO.asg|apply TO.mv);(repeat (focus (show _ = _;first|exact k2 rfl|(simp only [zz]<;>exact rfl))));(with_reducible apply TO.here))|((with_reducible apply TX.region);(focus (simp only []<;>exact rfl));(focus rfl);(try dsimp only)))
        obtain ⟨v15,h8,hr⟩:=Option.bind_eq_some_iff.1 hr
        try dsimp only at hr
        have h8m:=tidx_map (f:=e_i) h8
        have h8l:=getI_lt h8
        try simp only [List.length_set] at h8l
        have h8a:=getI_at h8
        repeat (first|((with_reducible first|apply TO.ia|apply TO.ld|apply TO.mv|apply TO.bin);(repeat (focus (show _ = _;first|exact k2 rfl|(simp only [zz,y33,e_i,tindexAddr,Nat.zero_add,tload,rowOf,partT,List.getElem?_map,h6l,h8l,h8a]<;>exact rfl)|exact rfl)));(with_reducible apply TO.here)))
        apply TO.sr e_i v5 v15 (IntKind.i64.wrap (v15 + v14)) h8a (by first|rfl|(simp only [twant,z1,z7,h5,h6m,h6l,h6a,h8m,h8l,h8a]<;>rfl)) rfl rfl rfl rfl rfl ok3 (by rw [cs3];rfl) rfl rfl rfl rfl
        (repeat (focus (show _ = _;(simp only [zz]<;>exact rfl))))
        with_reducible apply TO.here
        repeat (first|(with_reducible first|refine mv ?_|refine TO.nil ?_)|((with_reducible first|apply TO.mv|apply TO.bin|apply TO.asg);(repeat (focus (show _ = _;first|exact k2 rfl|(simp only [zz]<;>exact rfl))));(with_reducible apply TO.here))|((with_reducible apply TX.region);(focus (simp only []<;>exact rfl));(focus rfl);(try dsimp only)))
        cases hr
        refine ⟨rfl,?_⟩
        exact Wk.ren [some 0] rfl (.rows .nil rfl rfl) (by (repeat (first|exact RNs.nil|refine RNs.cons .junk ?_|refine RNs.cons (.keep rfl rfl) ?_|refine RNs.cons (.lsl rfl (by simp only [List.length_set])) ?_)))
      · rw [if_neg (by rw [h5];exact Bool.false_ne_true)] at hr
        repeat (first|with_reducible refine mv ?_|((with_reducible apply TX.cond_false);(focus rfl);(focus ((simp only [z1,h5];done)))))
        cases hr
        refine ⟨rfl,?_⟩
        exact Wk.ren [some 0] rfl (.rows .nil rfl rfl) (by (repeat (first|exact RNs.nil|refine RNs.cons .junk ?_|refine RNs.cons (.keep rfl rfl) ?_|refine RNs.cons (.lsl rfl rfl) ?_)))
    · intro e h;cases h
    · try dsimp only
      repeat (first|with_reducible refine mv ?_|((with_reducible apply TO.mv);(repeat (focus (show _ = _;first|exact k2 rfl|(simp only [zz]<;>exact rfl))));(with_reducible apply TO.here))|((with_reducible apply TX.region);(focus (simp only []<;>exact rfl));(focus rfl);(try dsimp only)))
      obtain ⟨v18,h10,hr⟩:=Option.bind_eq_some_iff.1 hr
      try dsimp only at hr
      apply TO.cal (by first|rfl|(simp only [twant,z1,z7]<;>rfl)) rfl goFn67 (slices_Max_int_int_spec h10) rfl rfl rfl
      (repeat (focus (show _ = _;(simp only [zz,shift]<;>exact rfl))))
      with_reducible apply TO.here
      obtain ⟨v19,h11,hr⟩:=Option.bind_eq_some_iff.1 hr
      try dsimp only at hr
      apply TO.cal (by first|rfl|(simp only [twant,z1,z7]<;>rfl)) rfl goFn105 (slices_Index_int_int_spec h11) rfl rfl rfl
      (repeat (focus (show _ = _;(simp only [zz,shift]<;>exact rfl))))
      with_reducible apply TO.here
      obtain ⟨v20,h12,hr⟩:=Option.bind_eq_some_iff.1 hr
      try dsimp only at hr
      have h12m:=tidx_map (f:=e_i) h12
      have h12l:=getI_lt h12
      try simp only [List.length_set] at h12l
      have h12a:=getI_at h12
      repeat (first|((with_reducible first|apply TO.ia|apply TO.ld|apply TO.mv|apply TO.bin);(repeat (focus (show _ = _;first|exact k2 rfl|(simp only [zz,y33,e_i,tindexAddr,Nat.zero_add,tload,rowOf,partT,List.getElem?_map,h12l,h12a]<;>exact rfl)|exact rfl)));(with_reducible apply TO.here)))
      apply TO.sr e_i v16 v20 (IntKind.i64.wrap (v20 + v17)) h12a (by first|rfl|(simp only [twant,z1,z7,h12m,h12l,h12a]<;>rfl)) rfl rfl rfl rfl rfl ok3 (by rw [cs3];rfl) rfl rfl rfl rfl
      (repeat (focus (show _ = _;(simp only [zz]<;>exact rfl))))
      with_reducible apply TO.here
      repeat (first|with_reducible refine TO.nil ?_)
      cases hr
      refine ⟨.inl rfl,_,(by simp only [];exact rfl),rfl,rfl,⟨⟨_,_,rfl,rfl⟩,trivial⟩⟩
    · try dsimp only
      exact wr [some 0] rfl (.rows .nil rfl rfl)

end Go.Rex

namespace Go.Rex
open Go.Proofs
open Go Go.Rex Go.RowKit
set_option maxRecDepth 100000
set_option maxHeartbeats 200000
def y34:=an @ag3 <| an @ag43 <| an @ag44 <| an @by3 <| an @cs3 <| an @cs44 <| an @fd46_0 <| an @fd46_1 <| an @ok3 <| an @ok44 <| an @so43 <| an @so44 <| an @zc3 <| @wi64_0a1
theorem energy_stepFrom_spec {v1 : (List (List Int))} {v2 : (List Int)} {v3 : (List Int)} {v4 : (List Int)} {v5 : Int} (hr : energy_stepFrom v1 v2 v3 = some (v4,v5)) : Spec (lim Tryz.prog) 63 [.agg [.list 1 (v1.map e_Li_),.list 1 (v2.map e_i)],.list 1 (v3.map e_i)] ⟨[.tuple [.lsl 0 0 v4.length,.v (.int .i64 v5)]],[.rows 1 (v4.map e_i)]⟩:=by
  unfold energy_stepFrom at hr
  apply Spec.fn Tryz.func63 rfl
  focus (simp [Tryz.f63]<;>exact rfl)
  focus
    repeat (first|(with_reducible first|refine mv ?_|refine TO.nil ?_)|((with_reducible first|apply TO.bf|apply TO.asg|apply TO.mv|apply TO.len);(repeat (focus (show _ = _;first|exact k1 rfl|exact k2 rfl|(simp only [zz,y34,tlen]<;>exact rfl)|exact rfl)));(with_reducible apply TO.here))|((with_reducible apply TX.region);(focus (simp only []<;>exact rfl));(focus rfl);(try dsimp only)))
    obtain ⟨v6,h1,hr⟩:=Option.bind_eq_some_iff.1 hr
    try dsimp only at hr
    apply TO.mk e_i h1 (by first|rfl|(simp only [twant,z1,z7]<;>rfl)) rfl rfl so44 zc3 by3 rfl rfl rfl
    (repeat (focus (show _ = _;(simp only [zz,Nat.reduceAdd]<;>exact rfl))))
    with_reducible apply TO.here
    repeat (first|(with_reducible first|refine mv ?_|refine TO.nil ?_)|((with_reducible first|apply TO.asg|apply TO.mv|apply TO.len);(repeat (focus (show _ = _;first|exact k2 rfl|(simp only [zz,y34,tlen]<;>exact rfl))));(with_reducible apply TO.here))|((with_reducible apply TX.region);(focus (simp only []<;>exact rfl));(focus rfl);(try dsimp only)))
    obtain ⟨⟨v22,v23⟩,h14,hr⟩:=Option.bind_eq_some_iff.1 hr
    try dsimp only at hr
    refine TX.loopE (step:=energy_stepFrom_l1 v1 v2 v3) (x:=(v6,0,0)) h14 (fun (v7,v8,v9)=>⟨.junk :: .junk :: .fptr true [.list 1 (v1.map e_Li_),.list 1 (v2.map e_i)] 0 :: .junk :: .junk :: .junk :: .lsl 0 0 v7.length :: .v (.int .i64 v8) :: .junk :: .junk :: .junk :: .junk :: .junk :: .junk :: .list 1 (v3.map e_i) :: .v (.int .i64 (v3.length : Int)) :: .v (.int .i64 v9) :: .junk :: .junk :: .junk :: .junk :: .junk :: .junk :: .junk :: .junk :: .junk :: .junk :: .junk :: .junk :: .junk :: .junk :: .junk :: .junk :: .junk :: .junk :: .junk :: .junk :: .junk :: .junk :: .junk :: .junk :: .junk :: .junk :: .junk :: .junk :: [],[.rows 1 (v7.map e_i)]⟩) (fun (v15,v16)=>(.exit 0,⟨.junk :: .junk :: .junk :: .junk :: .junk :: .junk :: .lsl 0 0 v15.length :: .v (.int .i64 v16) :: .junk :: .junk :: .junk :: .junk :: .junk :: .junk :: .junk :: .junk :: .junk :: .junk :: .junk :: .junk :: .junk :: .junk :: .junk :: .junk :: .junk :: .junk :: .junk :: .junk :: .junk :: .junk :: .junk :: .junk :: .junk :: .junk :: .junk :: .junk :: .junk :: .junk :: .junk :: .junk :: .junk :: .junk :: .junk :: .junk :: .junk :: [],[.rows 1 (v15.map e_i)]⟩)) ?_ ?_ ?_ ?_
    · rintro ⟨v7,v8,v9⟩ v0 hr
      dsimp only [energy_stepFrom_l1] at hr
      try dsimp only
      repeat (first|(with_reducible first|refine mv ?_|refine TO.nil ?_)|((with_reducible apply TO.bin);(repeat (focus (show _ = _;first|exact k2 rfl|(simp only [zz]<;>exact rfl))));(with_reducible apply TO.here))|((with_reducible apply TX.region);(focus (simp only []<;>exact rfl));(focus rfl);(try dsimp only)))
      rcases Bool.eq_false_or_eq_true ((decide (v9 < (v3.length : Int)))) with h8|h8
      · rw [if_pos h8] at hr
        repeat (first|with_reducible refine mv ?_|((with_reducible apply TO.mv);(repeat (focus (show _ = _;first|exact k2 rfl|(simp only [zz,h8]<;>exact rfl))));(with_reducible apply TO.here))|((with_reducible apply TX.region);(focus (simp only []<;>exact rfl));(focus rfl);(try dsimp only))|((with_reducible apply TX.cond_true);(focus rfl);(focus ((simp only [z1,h8];done)))))
        obtain ⟨v17,h9,hr⟩:=Option.bind_eq_some_iff.1 hr
        try dsimp only at hr
        have h9m:=tidx_map (f:=e_i) h9
        have h9l:=getI_lt h9
        try simp only [List.length_set,lenAs_length] at h9l
        have h9a:=getI_at h9
        repeat (first|(with_reducible first|refine mv ?_|refine TO.nil ?_)|((with_reducible first|apply TO.ia|apply TO.ld|apply TO.asg|apply TO.mv|apply TO.fa);(repeat (focus (show _ = _;first|exact k2 rfl|(simp only [zz,y34,e_i,tindexAddr,Nat.zero_add,tload,rowOf,partT,tfieldAddr,h9m]<;>exact rfl)|exact rfl)));(with_reducible apply TO.here))|((with_reducible apply TX.region);(focus (simp only []<;>exact rfl));(focus rfl);(try dsimp only)))
        obtain ⟨v18,h10,hr⟩:=Option.bind_eq_some_iff.1 hr
        try dsimp only at hr
        have h10m:=tidx_map (f:=e_i) h10
        have h10l:=getI_lt h10
        try simp only [List.length_set,lenAs_length] at h10l
        have h10a:=getI_at h10
        repeat (first|((with_reducible first|apply TO.ia|apply TO.ld|apply TO.bin);(repeat (focus (show _ = _;first|exact k2 rfl|(simp only [zz,y34,e_i,tindexAddr,tload,rowOf,partT,h10m]<;>exact rfl)|exact rfl)));(with_reducible apply TO.here)))
        obtain ⟨v19,h11,hr⟩:=Option.bind_eq_some_iff.1 hr
        try dsimp only at hr
        apply TO.cal (by first|rfl|(simp only [twant,z1,z7,h8,h9m,h9l,h9a,h10m,h10l,h10a]<;>rfl)) rfl goFn69 (energy_up_spec h11) rfl rfl rfl
        (repeat (focus (show _ = _;(simp only [zz,shift]<;>exact rfl))))
        with_reducible apply TO.here
        repeat (first|(with_reducible first|refine mv ?_|refine TO.nil ?_)|((with_reducible first|apply TO.asg|apply TO.mv|apply TO.bin|apply TO.fa|apply TO.ld);(repeat (focus (show _ = _;first|exact k2 rfl|(simp only [zz,y34,Nat.reduceAdd,tfieldAddr,tload,rowOf,partT]<;>exact rfl)|exact rfl)));(with_reducible apply TO.here))|((with_reducible apply TX.region);(focus (simp only []<;>exact rfl));(focus rfl);(try dsimp only)))
        obtain ⟨v20,h12,hr⟩:=Option.bind_eq_some_iff.1 hr
        try dsimp only at hr
        have h12m:=tidx_map (f:=e_Li_) h12
        have h12l:=getI_lt h12
        try simp only [List.length_set,lenAs_length] at h12l
        have h12a:=getI_at h12
        repeat (first|((with_reducible first|apply TO.ia|apply TO.ld|apply TO.mv|apply TO.bin);(repeat (focus (show _ = _;first|exact k2 rfl|(simp only [zz,y34,e_Li_,tindexAddr,tload,rowOf,partT,h12m]<;>exact rfl)|exact rfl)));(with_reducible apply TO.here)))
        obtain ⟨v21,h13,hr⟩:=Option.bind_eq_some_iff.1 hr
        try dsimp only at hr
        apply TO.ownl [0] (by first|rfl|(simp only [twant,z1,z7,h8,h9m,h9l,h9a,h10m,h10l,h10a,h12m,h12l,h12a]<;>rfl)) rfl goFn89 (energy_spread_9c9e_spec h13) (.cons .nil) rfl rfl (by decide) (by simp [clTB,cl,e_i])
        (repeat (focus (show _ = _;first|(simp only [zz]<;>exact rfl)|exact rfl)))
        with_reducible apply TO.here
        repeat (first|(with_reducible first|refine mv ?_|refine TO.nil ?_)|((with_reducible first|apply TO.bin|apply TO.mv);(repeat (focus (show _ = _;first|exact k2 rfl|(simp only [zz]<;>exact rfl))));(with_reducible apply TO.here))|((with_reducible apply TX.region);(focus (simp only []<;>exact rfl));(focus rfl);(try dsimp only)))
        cases hr
        refine ⟨rfl,?_⟩
        exact Wk.ren [some 0] rfl (.rows .nil rfl rfl) (by (repeat (first|exact RNs.nil|refine RNs.cons .junk ?_|refine RNs.cons (.keep rfl rfl) ?_|refine RNs.cons (.lsl rfl (by simp only [lenAs_length])) ?_)))
      · rw [if_neg (by rw [h8];exact Bool.false_ne_true)] at hr
        repeat (first|with_reducible refine mv ?_|((with_reducible apply TX.cond_false);(focus rfl);(focus ((simp only [z1,h8];done)))))
        cases hr
        refine ⟨rfl,?_⟩
        exact Wk.ren [some 0] rfl (.rows .nil rfl rfl) (by (repeat (first|exact RNs.nil|refine RNs.cons .junk ?_|refine RNs.cons (.keep rfl rfl) ?_|refine RNs.cons (.lsl rfl rfl) ?_)))
    · intro e h;cases h
    · try dsimp only
      repeat (first|(with_reducible first|refine mv ?_|refine TO.nil ?_)|((with_reducible first|apply TO.mv|apply TO.asg);(repeat (focus (show _ = _;first|exact k2 rfl|(simp only [zz]<;>exact rfl))));(with_reducible apply TO.here))|((with_reducible apply TX.region);(focus (simp only []<;>exact rfl));(focus rfl);(try dsimp only)))
      cases hr
      refine ⟨.inr rfl,_,(by simp only [];exact rfl),?_⟩
      exact wr [some 0] rfl (.rows .nil rfl rfl)
    · try dsimp only
      exact wr [some 0] rfl (.rows .nil rfl rfl)
  rfl

end Go.Rex

namespace Go.Rex
open Go.Proofs
open Go Go.Rex Go.RowKit
set_option maxRecDepth 100000
set_option maxHeartbeats 200000
def y35:=an @ag46 <| an @cs46 <| an @cs95 <| an @ok46 <| an @so136 <| an @zc95 <| @wi64_0a1
theorem energy_Run_spec {v1 : (List (List Int))} {v2 : (List Int)} {v3 : (List Int)} {v4 : Int} {v5 : (List Int)} {v6 : Int} {v7 : Int} (hr : energy_Run v1 v2 v3 v4 = some (v5,v6,v7)) : Spec (lim Tryz.prog) 24 [.agg [.list 1 (v1.map e_Li_),.list 1 (v2.map e_i)],.list 1 (v3.map e_i),.v (.int .i64 v4)] ⟨[.tuple [.lsl 0 0 v5.length,.v (.int .i64 v6),.v (.int .i64 v7)]],[.rows 1 (v5.map e_i)]⟩:=by
  unfold energy_Run at hr
  apply Spec.fn Tryz.func24 rfl
  focus (simp [Tryz.f24]<;>exact rfl)
  focus
    repeat (first|(with_reducible first|refine mv ?_|refine TO.nil ?_)|((with_reducible first|apply TO.bf|apply TO.asg);(repeat (focus (show _ = _;first|exact k1 rfl|exact k2 rfl|(simp only [zz]<;>exact rfl)|exact rfl)));(with_reducible apply TO.here))|((with_reducible apply TX.region);(focus (simp only []<;>exact rfl));(focus rfl);(try dsimp only))|((with_reducible apply TD.ld);(repeat (focus (show _ = _;first|exact k2 rfl|(simp only [zz,y35,Nat.reduceAdd,Nat.reduceLeDiff,tload,rowOf,partT]<;>exact rfl)|exact rfl)));(with_reducible refine TD.here ?_))|((with_reducible apply TX.drawn);(focus decide +kernel);(focus (simp only []<;>exact rfl));(focus exact rfl);(try dsimp only)))
    obtain ⟨v8,h1,hr⟩:=Option.bind_eq_some_iff.1 hr
    try dsimp only at hr
    first|apply TD.cal (by first|rfl|(simp only [twant,z1,z7]<;>rfl)) rfl goFn59 (energy_exchanged_spec h1) rfl rfl rfl|apply TD.calw (by first|rfl|(simp only [twant,z1,z7]<;>rfl)) rfl goFn59 (energy_exchanged_spec h1) rfl rfl rfl rfl
    (repeat (focus (show _ = _;(simp only [zz,shift]<;>exact rfl))))
    with_reducible apply TD.here
    repeat (first|((with_reducible first|apply TD.ld|apply TD.mv);(repeat (focus (show _ = _;first|exact k2 rfl|(simp only [zz,y35,Nat.reduceAdd,Nat.reduceLeDiff,tload,rowOf,partT]<;>exact rfl)|exact rfl)));(with_reducible refine TD.here ?_)))
    obtain ⟨⟨v9,v10,v11,v12,v13⟩,h2,hr⟩:=Option.bind_eq_some_iff.1 hr
    try dsimp only at hr
    first|apply TD.cal (by first|rfl|(simp only [twant,z1,z7]<;>rfl)) rfl goFn60 (energy_energies_spec h2) rfl rfl rfl|apply TD.calw (by first|rfl|(simp only [twant,z1,z7]<;>rfl)) rfl goFn60 (energy_energies_spec h2) rfl rfl rfl rfl
    (repeat (focus (show _ = _;(simp only [zz,shift]<;>exact rfl))))
    with_reducible apply TD.here
    repeat (first|((with_reducible apply TD.mv);(repeat (focus (show _ = _;first|exact k2 rfl|(simp only [zz]<;>exact rfl))));(with_reducible refine TD.here ?_)))
    obtain ⟨⟨v14,v15⟩,h3,hr⟩:=Option.bind_eq_some_iff.1 hr
    try dsimp only at hr
    first|apply TD.cal (by first|rfl|(simp only [twant,z1,z7]<;>rfl)) rfl goFn61 (energy_stepped_spec h3) rfl rfl rfl|apply TD.calw (by first|rfl|(simp only [twant,z1,z7]<;>rfl)) rfl goFn61 (energy_stepped_spec h3) rfl rfl rfl rfl
    (repeat (focus (show _ = _;(simp only [zz,shift]<;>exact rfl))))
    with_reducible apply TD.here
    repeat (first|((with_reducible apply TD.bs);(repeat (focus (show _ = _;first|exact k2 rfl|(simp only [zz,y35,Nat.reduceAdd,Nat.reduceMul,tslice,tparts]<;>exact rfl)|exact rfl)));(with_reducible refine TD.here ?_)))
    obtain ⟨v16,h4,hr⟩:=Option.bind_eq_some_iff.1 hr
    try dsimp only at hr
    first|apply TD.cal (by first|rfl|(simp only [twant,z1,z7]<;>rfl)) rfl goFn48 (energy_firstError_7416_spec h4) rfl rfl rfl|apply TD.calw (by first|rfl|(simp only [twant,z1,z7]<;>rfl)) rfl goFn48 (energy_firstError_7416_spec h4) rfl rfl rfl rfl
    (repeat (focus (show _ = _;(simp only [zz,shift]<;>exact rfl))))
    with_reducible apply TD.here
    repeat (first|(with_reducible first|refine mv ?_|refine TO.nil ?_)|((with_reducible first|apply TO.mv|apply TO.bin);(repeat (focus (show _ = _;first|exact k2 rfl|(simp only [zz]<;>exact rfl))));(with_reducible apply TO.here))|((with_reducible apply TX.region);(focus (simp only []<;>exact rfl));(focus rfl);(try dsimp only))|with_reducible refine TD.nil ?_|((with_reducible apply TD.asg);(repeat (focus (show _ = _;first|exact k2 rfl|(simp only [zz]<;>exact rfl))));(with_reducible refine TD.here ?_)))
    rcases Bool.eq_false_or_eq_true ((decide (v16 ≠ 0))) with h5|h5
    · rw [if_pos h5] at hr
      repeat (first|(with_reducible first|refine mv ?_|refine TO.nil ?_)|((with_reducible first|apply TO.mv|apply TO.asg);(repeat (focus (show _ = _;first|exact k2 rfl|(simp only [zz,h5]<;>exact rfl))));(with_reducible apply TO.here))|((with_reducible apply TX.region);(focus (simp only []<;>exact rfl));(focus rfl);(try dsimp only))|((with_reducible apply TX.cond_true);(focus rfl);(focus ((simp only [z1,h5];done)))))
      cases hr
      refine ⟨.inr rfl,_,(by simp only [];exact rfl),?_⟩
      exact Wk.ren [none] rfl (.virt .nil) (by (repeat (first|exact RNs.nil|refine RNs.cons (.keep rfl rfl) ?_|refine RNs.cons (.nil rfl) ?_|refine RNs.cons (.tuple' ?_) ?_)))
    · rw [if_neg (by rw [h5];exact Bool.false_ne_true)] at hr
      repeat (first|with_reducible refine mv ?_|((with_reducible apply TO.mv);(repeat (focus (show _ = _;first|exact k2 rfl|(simp only [zz,h5]<;>exact rfl))));(with_reducible apply TO.here))|((with_reducible apply TX.region);(focus (simp only []<;>exact rfl));(focus rfl);(try dsimp only))|((with_reducible apply TX.cond_false);(focus rfl);(focus ((simp only [z1,h5];done)))))
      obtain ⟨v17,h6,hr⟩:=Option.bind_eq_some_iff.1 hr
      try dsimp only at hr
      apply TO.cal (by first|rfl|(simp only [twant,z1,z7,h5]<;>rfl)) rfl goFn62 (slices_Clone_int_int_spec h6) rfl rfl rfl
      (repeat (focus (show _ = _;(simp only [zz,Nat.reduceAdd,shift]<;>exact rfl))))
      with_reducible apply TO.here
      repeat (first|(with_reducible first|refine mv ?_|refine TO.nil ?_)|((with_reducible first|apply TO.asg|apply TO.mv);(repeat (focus (show _ = _;first|exact k2 rfl|(simp only [zz]<;>exact rfl))));(with_reducible apply TO.here))|((with_reducible apply TX.region);(focus (simp only []<;>exact rfl));(focus rfl);(try dsimp only)))
      obtain ⟨⟨v27,v28⟩,h11,hr⟩:=Option.bind_eq_some_iff.1 hr
      try dsimp only at hr
      refine TX.loopE (step:=energy_Run_l1 v1 v2 v4) (x:=(v17,0,0)) h11 (fun (v18,v19,v20)=>⟨.junk :: .junk :: .junk :: .fptr true [.list 1 (v1.map e_Li_),.list 1 (v2.map e_i)] 0 :: .junk :: .junk :: .junk :: .junk :: .junk :: .junk :: .lsl 0 0 v18.length :: .v (.int .i64 v19) :: .junk :: .junk :: .junk :: .junk :: .junk :: .junk :: .junk :: .junk :: .junk :: .junk :: .junk :: .junk :: .junk :: .junk :: .junk :: .junk :: .v (.int .i64 v4) :: .v (.int .i64 v20) :: .junk :: .junk :: .junk :: .junk :: .junk :: .junk :: .junk :: .junk :: .junk :: .junk :: .junk :: .junk :: .junk :: .junk :: [],[.rows 1 (v18.map e_i)]⟩) (fun (v23,v24)=>(.exit 0,⟨.junk :: .junk :: .junk :: .junk :: .junk :: .junk :: .junk :: .junk :: .junk :: .junk :: .lsl 0 0 v23.length :: .v (.int .i64 v24) :: .junk :: .junk :: .junk :: .junk :: .junk :: .junk :: .junk :: .junk :: .junk :: .junk :: .junk :: .junk :: .junk :: .junk :: .junk :: .junk :: .junk :: .junk :: .junk :: .junk :: .junk :: .junk :: .junk :: .junk :: .junk :: .junk :: .junk :: .junk :: .junk :: .junk :: .junk :: .junk :: [],[.rows 1 (v23.map e_i)]⟩)) ?_ ?_ ?_ ?_
      · rintro ⟨v18,v19,v20⟩ v0 hr
        dsimp only [energy_Run_l1] at hr
        try dsimp only
        repeat (first|(with_reducible first|refine mv ?_|refine TO.nil ?_)|((with_reducible apply TO.bin);(repeat (focus (show _ = _;first|exact k2 rfl|(simp only [zz]<;>exact rfl))));(with_reducible apply TO.here))|((with_reducible apply TX.region);(focus (simp only []<;>exact rfl));(focus rfl);(try dsimp only)))
        rcases Bool.eq_false_or_eq_true ((decide (v20 < v4))) with h9|h9
        · rw [if_pos h9] at hr
          repeat (first|with_reducible refine mv ?_|((with_reducible first|apply TO.ld|apply TO.mv);(repeat (focus (show _ = _;first|exact k2 rfl|(simp only [zz,y35,Nat.reduceAdd,Nat.reduceLeDiff,tload,rowOf,partT,h9]<;>exact rfl)|exact rfl)));(with_reducible apply TO.here))|((with_reducible apply TX.region);(focus (simp only []<;>exact rfl));(focus rfl);(try dsimp only))|((with_reducible apply TX.cond_true);(focus rfl);(focus ((simp only [z1,h9];done)))))
          obtain ⟨⟨v25,v26⟩,h10,hr⟩:=Option.bind_eq_some_iff.1 hr
          try dsimp only at hr
          apply TO.lok (by first|rfl|(simp only [twant,z1,z7,h5,h9]<;>rfl)) rfl goFn63 (energy_stepFrom_spec h10) (by simp only [view,z1,z3,tmlc]<;>rfl) rfl rfl (by simp [clTB,cl,e_i])
          (repeat (focus (show _ = _;(simp only [zz,Nat.reduceAdd,shift]<;>exact rfl))))
          with_reducible apply TO.here
          repeat (first|(with_reducible first|refine mv ?_|refine TO.nil ?_)|((with_reducible first|apply TO.mv|apply TO.ext|apply TO.asg|apply TO.bin);(repeat (focus (show _ = _;first|exact k2 rfl|(simp only [zz]<;>exact rfl))));(with_reducible apply TO.here))|((with_reducible apply TX.region);(focus (simp only []<;>exact rfl));(focus rfl);(try dsimp only)))
          cases hr
          refine ⟨rfl,?_⟩
          exact Wk.ren [some 1] rfl (.rows .nil rfl rfl) (by (repeat (first|exact RNs.nil|refine RNs.cons .junk ?_|refine RNs.cons (.keep rfl rfl) ?_|refine RNs.cons (.lsl rfl rfl) ?_)))
        · rw [if_neg (by rw [h9];exact Bool.false_ne_true)] at hr
          repeat (first|with_reducible refine mv ?_|((with_reducible apply TX.cond_false);(focus rfl);(focus ((simp only [z1,h9];done)))))
          cases hr
          refine ⟨rfl,?_⟩
          exact Wk.ren [some 0] rfl (.rows .nil rfl rfl) (by (repeat (first|exact RNs.nil|refine RNs.cons .junk ?_|refine RNs.cons (.keep rfl rfl) ?_|refine RNs.cons (.lsl rfl rfl) ?_)))
      · intro e h;cases h
      · try dsimp only
        repeat (first|(with_reducible first|refine mv ?_|refine TO.nil ?_)|((with_reducible first|apply TO.mv|apply TO.asg);(repeat (focus (show _ = _;first|exact k2 rfl|(simp only [zz]<;>exact rfl))));(with_reducible apply TO.here))|((with_reducible apply TX.region);(focus (simp only []<;>exact rfl));(focus rfl);(try dsimp only)))
        cases hr
        refine ⟨.inr rfl,_,(by simp only [];exact rfl),?_⟩
        exact Wk.ren [some 0] rfl (.rows .nil rfl rfl) (by (repeat (first|exact RNs.nil|refine RNs.cons (.keep rfl rfl) ?_|refine RNs.cons (.lsl rfl rfl) ?_|refine RNs.cons (.tuple' ?_) ?_)))
      · try dsimp only
        exact Wk.ren [some 0] rfl (.rows .nil rfl rfl) (by (repeat (first|exact RNs.nil|refine RNs.cons .junk ?_|refine RNs.cons (.keep rfl rfl) ?_|refine RNs.cons (.lsl rfl rfl) ?_)))
  rfl

end Go.Rex

namespace Go.Rex
open Go.Proofs
open Go Go.Rex Go.RowKit
set_option maxRecDepth 100000

end Go.Rex
