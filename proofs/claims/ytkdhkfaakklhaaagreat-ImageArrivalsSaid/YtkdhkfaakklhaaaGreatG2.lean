/- Proofs that the program's functions do what these plain functions say. -/
import Derived.Test.YtkdhkfaakklhaaaGreatGB
import Derived.Test.YtkdhkfaakklhaaaGreatS
import Derived.Test.YtkdhkfaakklhaaaGreatG1
set_option linter.unusedSimpArgs false
set_option linter.unusedVariables false
set_option linter.defProp false
namespace Go.Rex
open Go.Proofs
open Go Go.Rex Go.RowKit
set_option maxRecDepth 100000
set_option maxHeartbeats 40000000
def y25:=an @ag26 <| an @ag27 <| an @ag3 <| an @ag31 <| an @ag36 <| an @ar36 <| an @cs29 <| an @cs3 <| an @cs31 <| an @cs36 <| an @eqg31 <| an @eqg36 <| an @eqs31 <| an @eqs36 <| an @fd24_0 <| an @fd24_2 <| an @fd29_0 <| an @fd29_1 <| an @ok29 <| an @ok3 <| an @ok31 <| an @ok36 <| an @so22 <| an @so26 <| an @so27 <| an @so36 <| an @st31 <| an @st36 <| an @zc31 <| an @zc36 <| @wi64_0a1
theorem law02_ImageArrivals_law {v1 : (List ((List Int) × (List (Int × Int × Int × Int)) × Int))} {v2 : Int} {v3 : Int} {v4 : Int} (hr : law02_ImageArrivals v1 v2 v3 v4 = some true) {Fz : Nat → Prop} {h : List Blk} {vs : List Value} (hfz : ∀ n, Fz n → n < h.length) (hargs : VLs Fz h noL [.list 3 (v1.map e_Li_Liiii_i), .agg [.v (.int .i64 v2), .v (.int .i64 v3), .v (.int .i64 v4)]] vs)
    {B lo : Nat} {D : Nat → Prop} {m : NMap} {w : World} {args' : List Value} (hrel : Rel B lo D m h w) (hlo : lo ≤ h.length) (hargs' : VRs D m vs args') : Calls Tryz.prog 3 ⟨args'⟩ w (fun e w'=>e = .returned (.bool true) ∧ Below w.heap.size w w'):=by
  unfold law02_ImageArrivals at hr
  have T:=an y25 <| an @e_Li_Liiii_i.eq_1 <| an @e_i.eq_1 <| @e_iiii.eq_1
  refine law_tex follows awake_true Tryz.func3 rfl (tm0:=.list 3 (v1.map e_Li_Liiii_i) :: .agg [.v (.int .i64 v2),.v (.int .i64 v3),.v (.int .i64 v4)] :: .junk :: .junk :: .junk :: .junk :: .junk :: .junk :: .junk :: .junk :: .junk :: .junk :: .junk :: .junk :: .junk :: .junk :: .junk :: .junk :: .junk :: .junk :: .junk :: .junk :: .junk :: .junk :: .junk :: .junk :: .junk :: .junk :: .junk :: .junk :: .junk :: .junk :: .junk :: .junk :: .junk :: .junk :: .junk :: .junk :: .junk :: .junk :: .junk :: .junk :: .junk :: .junk :: .junk :: .junk :: .junk :: .junk :: .junk :: .junk :: .junk :: .junk :: .junk :: .junk :: .junk :: .junk :: .junk :: .junk :: .junk :: .junk :: .junk :: .junk :: .junk :: .junk :: .junk :: .junk :: .junk :: .junk :: .junk :: .junk :: .junk :: .junk :: .junk :: .junk :: .junk :: .junk :: .junk :: .junk :: .junk :: .junk :: .junk :: .junk :: .junk :: .junk :: .junk :: .junk :: .junk :: .junk :: .junk :: .junk :: .junk :: .junk :: .junk :: .junk :: .junk :: .junk :: .junk :: .junk :: .junk :: .junk :: .junk :: .junk :: .junk :: .junk :: .junk :: .junk :: .junk :: .junk :: .junk :: .junk :: .junk :: .junk :: .junk :: .junk :: .junk :: .junk :: .junk :: .junk :: .junk :: .junk :: .junk :: .junk :: .junk :: .junk :: .junk :: .junk :: .junk :: .junk :: .junk :: .junk :: .junk :: .junk :: .junk :: .junk :: .junk :: .junk :: .junk :: .junk :: .junk :: .junk :: .junk :: .junk :: .junk :: .junk :: .junk :: .junk :: .junk :: .junk :: .junk :: .junk :: .junk :: .junk :: []) (by simp [Tryz.f3]<;>exact rfl) ?_ hfz hargs hrel hlo hargs'
  refine wb_ T (g:=?_)
  apply TO.cal (wn T) rfl goFn4 Spec.awake rfl rfl rfl
  repeat exact sd T
  refine wa_ T (g:=?_)
  apply TO.pop1 (wn T) (pop_not rfl)
  repeat exact sd T
  refine wc_ T (g:=?_)
  rcases ifs hr with ⟨h1,hr⟩|⟨h1,hr⟩
  · have T:=an h1 T
    refine wc_ T (g:=?_)
    rcases ifs hr with ⟨h2,hr⟩|⟨h2,hr⟩
    · have T:=an h2 T
      refine wa_ T (g:=?_)
      exact lv T hr
    · have T:=an h2 T
      refine wc_ T (g:=?_)
      rcases ifs hr with ⟨h3,hr⟩|⟨h3,hr⟩
      · have T:=an h3 T
        refine wa_ T (g:=?_)
        exact lv T hr
      · have T:=an h3 T
        refine wa_ T (g:=?_)
        obtain ⟨v13,h12,hr⟩:=bs hr
        refine TX.loopE (step:=law02_ImageArrivals_l1 v1) (x:=0) h12 (fun v6=>⟨.list 3 (v1.map e_Li_Liiii_i) :: .junk :: .junk :: .fptr true [.v (.int .i64 v2),.v (.int .i64 v3),.v (.int .i64 v4)] 0 :: .junk :: .v (.int .i64 v6) :: .junk :: .junk :: .junk :: .junk :: .junk :: .junk :: .junk :: .junk :: .junk :: .junk :: .junk :: .junk :: .junk :: .junk :: .junk :: .junk :: .junk :: .junk :: .junk :: .junk :: .junk :: .junk :: .junk :: .junk :: .junk :: .junk :: .junk :: .junk :: .junk :: .junk :: .junk :: .junk :: .junk :: .junk :: .junk :: .junk :: .junk :: .junk :: .junk :: .junk :: .junk :: .junk :: .junk :: .junk :: .junk :: .junk :: .junk :: .junk :: .junk :: .junk :: .junk :: .junk :: .junk :: .junk :: .junk :: .junk :: .junk :: .junk :: .junk :: .junk :: .junk :: .junk :: .junk :: .junk :: .junk :: .junk :: .junk :: .junk :: .junk :: .junk :: .junk :: .junk :: .junk :: .junk :: .junk :: .junk :: .junk :: .junk :: .junk :: .junk :: .junk :: .junk :: .junk :: .junk :: .junk :: .junk :: .junk :: .junk :: .junk :: .junk :: .junk :: .junk :: .junk :: .junk :: .junk :: .junk :: .junk :: .junk :: .junk :: .junk :: .junk :: .junk :: .junk :: .junk :: .junk :: .junk :: .junk :: .junk :: .junk :: .junk :: .junk :: .junk :: .junk :: .junk :: .junk :: .junk :: .junk :: .junk :: .junk :: .junk :: .junk :: .junk :: .junk :: .junk :: .junk :: .junk :: .junk :: .junk :: .junk :: .junk :: .junk :: .junk :: .junk :: .junk :: .junk :: .junk :: .junk :: .junk :: .junk :: .junk :: .junk :: .junk :: .junk :: .junk :: .junk :: .junk :: [],[]⟩) (fun e=>match e with|(.inl _)=>(.ret,⟨.junk :: .junk :: .junk :: .junk :: .v (.bool true) :: .junk :: .junk :: .junk :: .junk :: .junk :: .junk :: .junk :: .junk :: .junk :: .junk :: .junk :: .junk :: .junk :: .junk :: .junk :: .junk :: .junk :: .junk :: .junk :: .junk :: .junk :: .junk :: .junk :: .junk :: .junk :: .junk :: .junk :: .junk :: .junk :: .junk :: .junk :: .junk :: .junk :: .junk :: .junk :: .junk :: .junk :: .junk :: .junk :: .junk :: .junk :: .junk :: .junk :: .junk :: .junk :: .junk :: .junk :: .junk :: .junk :: .junk :: .junk :: .junk :: .junk :: .junk :: .junk :: .junk :: .junk :: .junk :: .junk :: .junk :: .junk :: .junk :: .junk :: .junk :: .junk :: .junk :: .junk :: .junk :: .junk :: .junk :: .junk :: .junk :: .junk :: .junk :: .junk :: .junk :: .junk :: .junk :: .junk :: .junk :: .junk :: .junk :: .junk :: .junk :: .junk :: .junk :: .junk :: .junk :: .junk :: .junk :: .junk :: .junk :: .junk :: .junk :: .junk :: .junk :: .junk :: .junk :: .junk :: .junk :: .junk :: .junk :: .junk :: .junk :: .junk :: .junk :: .junk :: .junk :: .junk :: .junk :: .junk :: .junk :: .junk :: .junk :: .junk :: .junk :: .junk :: .junk :: .junk :: .junk :: .junk :: .junk :: .junk :: .junk :: .junk :: .junk :: .junk :: .junk :: .junk :: .junk :: .junk :: .junk :: .junk :: .junk :: .junk :: .junk :: .junk :: .junk :: .junk :: .junk :: .junk :: .junk :: .junk :: .junk :: .junk :: .junk :: .junk :: [],[]⟩)|(.inr _)=>(.exit 0,⟨.list 3 (v1.map e_Li_Liiii_i) :: .junk :: .junk :: .fptr true [.v (.int .i64 v2),.v (.int .i64 v3),.v (.int .i64 v4)] 0 :: .junk :: .junk :: .junk :: .junk :: .junk :: .junk :: .junk :: .junk :: .junk :: .junk :: .junk :: .junk :: .junk :: .junk :: .junk :: .junk :: .junk :: .junk :: .junk :: .junk :: .junk :: .junk :: .junk :: .junk :: .junk :: .junk :: .junk :: .junk :: .junk :: .junk :: .junk :: .junk :: .junk :: .junk :: .junk :: .junk :: .junk :: .junk :: .junk :: .junk :: .junk :: .junk :: .junk :: .junk :: .junk :: .junk :: .junk :: .junk :: .junk :: .junk :: .junk :: .junk :: .junk :: .junk :: .junk :: .junk :: .junk :: .junk :: .junk :: .junk :: .junk :: .junk :: .junk :: .junk :: .junk :: .junk :: .junk :: .junk :: .junk :: .junk :: .junk :: .junk :: .junk :: .junk :: .junk :: .junk :: .junk :: .junk :: .junk :: .junk :: .junk :: .junk :: .junk :: .junk :: .junk :: .junk :: .junk :: .junk :: .junk :: .junk :: .junk :: .junk :: .junk :: .junk :: .junk :: .junk :: .junk :: .junk :: .junk :: .junk :: .junk :: .junk :: .junk :: .junk :: .junk :: .junk :: .junk :: .junk :: .junk :: .junk :: .junk :: .junk :: .junk :: .junk :: .junk :: .junk :: .junk :: .junk :: .junk :: .junk :: .junk :: .junk :: .junk :: .junk :: .junk :: .junk :: .junk :: .junk :: .junk :: .junk :: .junk :: .junk :: .junk :: .junk :: .junk :: .junk :: .junk :: .junk :: .junk :: .junk :: .junk :: .junk :: .junk :: .junk :: .junk :: .junk :: .junk :: .junk :: [],[]⟩)) ?_ ?_ ?_ ?_
        · rintro v6 v0 hr
          dsimp only [law02_ImageArrivals_l1] at hr
          try dsimp only
          refine wc_ T (g:=?_)
          rcases ifs hr with ⟨h8,hr⟩|⟨h8,hr⟩
          · have T:=an h8 T
            refine wa_ T (g:=?_)
            obtain ⟨⟨v10,v11,v12⟩,h9,hr⟩:=bs hr
            try dsimp only at hr
            have T:=an (gx e_Li_Liiii_i h9) T
            refine wC T (g:=?_)
            rcases ifs hr with ⟨h10,hr⟩|⟨h10,hr⟩
            · have T:=an h10 T
              refine wa_ T (g:=?_)
              cases hr
              refine ⟨rfl,?_⟩
              exact wk_ T [] rfl .nil
            · have T:=an h10 T
              refine wC T (g:=?_)
              rcases ifs hr with ⟨h11,hr⟩|⟨h11,hr⟩
              · have T:=an h11 T
                refine wa_ T (g:=?_)
                cases hr
                refine ⟨rfl,?_⟩
                exact wk_ T [] rfl .nil
              · have T:=an h11 T
                refine wa_ T (g:=?_)
                cases hr
                refine ⟨rfl,?_⟩
                exact wk_ T [] rfl .nil
          · have T:=an h8 T
            refine wa_ T (g:=?_)
            cases hr
            refine ⟨rfl,?_⟩
            exact wk_ T [] rfl .nil
        · intro e h;rcases e with _|e<;>cases h
        · try dsimp only
          rcases v13 with _|_
          · try dsimp only at hr
            try dsimp only
            refine wa_ T (g:=?_)
            exact lv T hr
          · try dsimp only at hr
            try dsimp only
            refine wa_ T (g:=?_)
            obtain ⟨v14,h13,hr⟩:=bs hr
            apply TD.cal (wn T) rfl goFn6 (Spec.ov (ref02_CopyPaths_spec h13) (by decide)) rfl rfl rfl
            repeat exact sd T
            refine wA T (g:=?_)
            obtain ⟨⟨v15,v16,v17⟩,h14,hr⟩:=bs hr
            try dsimp only at hr
            apply TD.lok (wn T) rfl goFn5 (Spec.ov (image_GapOf_spec h14) (by decide)) (vw T) rfl rfl (by simp [clTB,cl,e_i,e_iiii,e_Li_Liiii_i])
            repeat exact sd T
            refine wa_ T (g:=?_)
            obtain ⟨v18,h15,hr⟩:=bs hr
            apply TD.cal (wn T) rfl goFn6 (Spec.ov (ref02_CopyPaths_spec h15) (by decide)) rfl rfl rfl
            repeat exact sd T
            refine wA T (g:=?_)
            obtain ⟨⟨v19,v20,v21⟩,h16,hr⟩:=bs hr
            try dsimp only at hr
            apply TD.lok (wn T) rfl goFn7 (Spec.ov (image_Arrived_spec h16) (by decide)) (vw T) rfl rfl (by simp [clTB,cl,e_i,e_iiii,e_Li_Liiii_i])
            repeat exact sd T
            refine wa_ T (g:=?_)
            obtain ⟨v22,h17,hr⟩:=bs hr
            apply TO.cal (wn T) rfl goFn8 (Spec.ov (ref02_ListErr_spec h17) (by decide)) rfl rfl rfl
            repeat exact sd T
            refine wa_ T (g:=?_)
            rcases ifs hr with ⟨h18,hr⟩|⟨h18,hr⟩
            · have T:=an h18 T
              refine wA T (g:=?_)
              obtain ⟨v23,h19,hr⟩:=bs hr
              apply TO.cal (wn T) rfl goFn9 (Spec.ov (ref02_SpeedErr_spec h19) (by decide)) rfl rfl rfl
              repeat exact sd T
              refine wa_ T (g:=?_)
              rcases ifs hr with ⟨h20,hr⟩|⟨h20,hr⟩
              · have T:=an h20 T
                refine wa_ T (g:=?_)
                rcases ifs hr with ⟨h21,hr⟩|⟨h21,hr⟩
                · have T:=an h21 T
                  refine wa_ T (g:=?_)
                  rcases ifs hr with ⟨h22,hr⟩|⟨h22,hr⟩
                  · have T:=an h22 T
                    refine wA T (g:=?_)
                    apply TO.pop1 (wn T) (pop_eqs1 (X:=⟨[.int .i64 (v15),.int .i64 (v16)]⟩) (Y:=⟨[.int .i64 (0),.int .i64 (0)]⟩) rfl rfl rfl rfl rfl rfl rfl eqg31 eqs31 rfl)
                    repeat exact sd T
                    refine wa_ T (g:=?_)
                    rcases ifs hr with ⟨h23,hr⟩|⟨h23,hr⟩
                    · have T:=an h23 T
                      refine wA T (g:=?_)
                      apply TO.pop1 (wn T) (pop_eqs1 (X:=⟨[.int .i64 (v19),.int .i64 (v20)]⟩) (Y:=⟨[.int .i64 (0),.int .i64 (0)]⟩) rfl rfl rfl rfl rfl rfl rfl eqg36 eqs36 rfl)
                      repeat exact sd T
                      refine wa_ T (g:=?_)
                      exact lv T hr
                    · have T:=an h23 T
                      refine wa_ T (g:=?_)
                      exact lv T hr
                  · have T:=an h22 T
                    refine wa_ T (g:=?_)
                    exact lv T hr
                · have T:=an h21 T
                  refine wa_ T (g:=?_)
                  exact lv T hr
              · have T:=an h20 T
                refine wc_ T (g:=?_)
                rcases ifs hr with ⟨h24,hr⟩|⟨h24,hr⟩
                · as_aux_lemma =>
                    have T:=an h24 T
                    refine wa_ T (g:=?_)
                    rcases ifs hr with ⟨h25,hr⟩|⟨h25,hr⟩
                    · have T:=an h25 T
                      refine wa_ T (g:=?_)
                      exact lv T hr
                    · have T:=an h25 T
                      refine wA T (g:=?_)
                      apply TD.pop1 (wn T) (pop_eqs2 (X:=⟨[.int .i64 (v15),.int .i64 (v16)]⟩) (Y:=⟨[.int .i64 (0),.int .i64 (0)]⟩) rfl rfl rfl rfl rfl rfl rfl eqg31 eqs31 rfl)
                      repeat exact sd T
                      refine wa_ T (g:=?_)
                      rcases ifs hr with ⟨h26,hr⟩|⟨h26,hr⟩
                      · have T:=an h26 T
                        refine wc_ T (g:=?_)
                        rcases ifs hr with ⟨h27,hr⟩|⟨h27,hr⟩
                        · have T:=an h27 T
                          refine wa_ T (g:=?_)
                          rcases ifs hr with ⟨h28,hr⟩|⟨h28,hr⟩
                          · have T:=an h28 T
                            refine wa_ T (g:=?_)
                            exact lv T hr
                          · have T:=an h28 T
                            refine wA T (g:=?_)
                            obtain ⟨⟨v24,v25⟩,h29,hr⟩:=bs hr
                            try dsimp only at hr
                            apply TD.cal (wn T) rfl goFn10 (Spec.ov (ref02_GapOf_spec h29) (by decide)) rfl rfl rfl
                            repeat exact sd T
                            refine wa_ T (g:=?_)
                            apply TD.pop1 (wn T) (pop_eqs2 (X:=⟨[.int .i64 (v15),.int .i64 (v16)]⟩) (Y:=⟨[.int .i64 (v24),.int .i64 (v25)]⟩) rfl rfl rfl rfl rfl rfl rfl eqg31 eqs31 rfl)
                            repeat exact sd T
                            refine wa_ T (g:=?_)
                            rcases ifs hr with ⟨h30,hr⟩|⟨h30,hr⟩
                            · have T:=an h30 T
                              refine wA T (g:=?_)
                              obtain ⟨v26,h31,hr⟩:=bs hr
                              apply TO.cal (wn T) rfl goFn11 (Spec.ov (base_Within_spec h31) (by decide)) rfl rfl rfl
                              repeat exact sd T
                              refine wa_ T (g:=?_)
                              apply TO.pop1 (wn T) (pop_not rfl)
                              repeat exact sd T
                              refine wa_ T (g:=?_)
                              rcases ifs hr with ⟨h32,hr⟩|⟨h32,hr⟩
                              · have T:=an h32 T
                                refine wa_ T (g:=?_)
                                rcases ifs hr with ⟨h33,hr⟩|⟨h33,hr⟩
                                · have T:=an h33 T
                                  refine wA T (g:=?_)
                                  obtain ⟨⟨v27,v28⟩,h34,hr⟩:=bs hr
                                  try dsimp only at hr
                                  apply TD.cal (wn T) rfl goFn12 (Spec.ov (ref02_Arrived_spec h34) (by decide)) rfl rfl rfl
                                  repeat exact sd T
                                  refine wa_ T (g:=?_)
                                  apply TD.pop1 (wn T) (pop_eqs1 (X:=⟨[.int .i64 (v19),.int .i64 (v20)]⟩) (Y:=⟨[.int .i64 (v27),.int .i64 (v28)]⟩) rfl rfl rfl rfl rfl rfl rfl eqg36 eqs36 rfl)
                                  repeat exact sd T
                                  refine wa_ T (g:=?_)
                                  rcases ifs hr with ⟨h35,hr⟩|⟨h35,hr⟩
                                  · repeat (first|(with_reducible first|refine mv ?_|refine TD.nil ?_)|((with_reducible first|apply TD.ia|apply TD.ld|apply TD.bin|apply TD.pk|apply TD.asg);(repeat (focus (show _ = _;first|exact k1 rfl|exact k2 rfl|(simp only [zz,y25,e_Li_Liiii_i,e_i,e_iiii,Nat.reduceAdd,Nat.reduceMul,Nat.reduceLeDiff,Nat.reduceEqDiff,tindexAddr,z5,Int.reduceToNat,Int.reduceLE,Int.reduceLT,Int.cast_ofNat_Int,tload,rowOf,partT,List.getElem?_map,h1,h2,h3,h18,h20,h24,h25,h26,h27,h28,h30,h32,h33,h35]<;>exact rfl)|exact rfl)));(with_reducible refine TD.here ?_))|((with_reducible apply TX.drawn);(focus decide +kernel);(focus (simp only [zl]<;>exact rfl));(focus exact rfl);(try dsimp only))|fail)
                                    have T:=an h35 T
                                    exact lv T hr
                                  · have T:=an h35 T
                                    refine wa_ T (g:=?_)
                                    exact lv T hr
                                · have T:=an h33 T
                                  refine wa_ T (g:=?_)
                                  exact lv T hr
                              · have T:=an h32 T
                                refine wa_ T (g:=?_)
                                rcases ifs hr with ⟨h36,hr⟩|⟨h36,hr⟩
                                · have T:=an h36 T
                                  refine wA T (g:=?_)
                                  apply TO.pop1 (wn T) (pop_eqs1 (X:=⟨[.int .i64 (v19),.int .i64 (v20)]⟩) (Y:=⟨[.int .i64 (0),.int .i64 (0)]⟩) rfl rfl rfl rfl rfl rfl rfl eqg36 eqs36 rfl)
                                  repeat exact sd T
                                  refine wa_ T (g:=?_)
                                  exact lv T hr
                                · have T:=an h36 T
                                  refine wa_ T (g:=?_)
                                  exact lv T hr
                            · have T:=an h30 T
                              refine wa_ T (g:=?_)
                              exact lv T hr
                        · have T:=an h27 T
                          refine wA T (g:=?_)
                          obtain ⟨v29,h37,hr⟩:=bs hr
                          apply TO.cal (wn T) rfl goFn11 (Spec.ov (base_Within_spec h37) (by decide)) rfl rfl rfl
                          repeat exact sd T
                          refine wa_ T (g:=?_)
                          apply TO.pop1 (wn T) (pop_not rfl)
                          repeat exact sd T
                          refine wa_ T (g:=?_)
                          rcases ifs hr with ⟨h38,hr⟩|⟨h38,hr⟩
                          · have T:=an h38 T
                            refine wa_ T (g:=?_)
                            rcases ifs hr with ⟨h39,hr⟩|⟨h39,hr⟩
                            · have T:=an h39 T
                              refine wA T (g:=?_)
                              obtain ⟨⟨v30,v31⟩,h40,hr⟩:=bs hr
                              try dsimp only at hr
                              apply TD.cal (wn T) rfl goFn12 (Spec.ov (ref02_Arrived_spec h40) (by decide)) rfl rfl rfl
                              repeat exact sd T
                              refine wa_ T (g:=?_)
                              apply TD.pop1 (wn T) (pop_eqs1 (X:=⟨[.int .i64 (v19),.int .i64 (v20)]⟩) (Y:=⟨[.int .i64 (v30),.int .i64 (v31)]⟩) rfl rfl rfl rfl rfl rfl rfl eqg36 eqs36 rfl)
                              repeat exact sd T
                              refine wa_ T (g:=?_)
                              rcases ifs hr with ⟨h41,hr⟩|⟨h41,hr⟩
                              · repeat (first|(with_reducible first|refine mv ?_|refine TD.nil ?_)|((with_reducible first|apply TD.ia|apply TD.ld|apply TD.bin|apply TD.pk|apply TD.asg);(repeat (focus (show _ = _;first|exact k1 rfl|exact k2 rfl|(simp only [zz,y25,e_Li_Liiii_i,e_i,e_iiii,Nat.reduceAdd,Nat.reduceMul,Nat.reduceLeDiff,Nat.reduceEqDiff,tindexAddr,z5,Int.reduceToNat,Int.reduceLE,Int.reduceLT,Int.cast_ofNat_Int,tload,rowOf,partT,List.getElem?_map,h1,h2,h3,h18,h20,h24,h25,h26,h27,h38,h39,h41]<;>exact rfl)|exact rfl)));(with_reducible refine TD.here ?_))|((with_reducible apply TX.drawn);(focus decide +kernel);(focus (simp only [zl]<;>exact rfl));(focus exact rfl);(try dsimp only))|fail)
                                have T:=an h41 T
                                exact lv T hr
                              · have T:=an h41 T
                                refine wa_ T (g:=?_)
                                exact lv T hr
                            · have T:=an h39 T
                              refine wa_ T (g:=?_)
                              exact lv T hr
                          · have T:=an h38 T
                            refine wa_ T (g:=?_)
                            rcases ifs hr with ⟨h42,hr⟩|⟨h42,hr⟩
                            · have T:=an h42 T
                              refine wA T (g:=?_)
                              apply TO.pop1 (wn T) (pop_eqs1 (X:=⟨[.int .i64 (v19),.int .i64 (v20)]⟩) (Y:=⟨[.int .i64 (0),.int .i64 (0)]⟩) rfl rfl rfl rfl rfl rfl rfl eqg36 eqs36 rfl)
                              repeat exact sd T
                              refine wa_ T (g:=?_)
                              exact lv T hr
                            · have T:=an h42 T
                              refine wa_ T (g:=?_)
                              exact lv T hr
                      · have T:=an h26 T
                        refine wa_ T (g:=?_)
                        exact lv T hr
                · as_aux_lemma =>
                    have T:=an h24 T
                    refine wc_ T (g:=?_)
                    rcases ifs hr with ⟨h43,hr⟩|⟨h43,hr⟩
                    · have T:=an h43 T
                      refine wa_ T (g:=?_)
                      rcases ifs hr with ⟨h44,hr⟩|⟨h44,hr⟩
                      · have T:=an h44 T
                        refine wa_ T (g:=?_)
                        exact lv T hr
                      · have T:=an h44 T
                        refine wA T (g:=?_)
                        obtain ⟨⟨v32,v33⟩,h45,hr⟩:=bs hr
                        try dsimp only at hr
                        apply TD.cal (wn T) rfl goFn10 (Spec.ov (ref02_GapOf_spec h45) (by decide)) rfl rfl rfl
                        repeat exact sd T
                        refine wa_ T (g:=?_)
                        apply TD.pop1 (wn T) (pop_eqs2 (X:=⟨[.int .i64 (v15),.int .i64 (v16)]⟩) (Y:=⟨[.int .i64 (v32),.int .i64 (v33)]⟩) rfl rfl rfl rfl rfl rfl rfl eqg31 eqs31 rfl)
                        repeat exact sd T
                        refine wa_ T (g:=?_)
                        rcases ifs hr with ⟨h46,hr⟩|⟨h46,hr⟩
                        · have T:=an h46 T
                          refine wA T (g:=?_)
                          obtain ⟨v34,h47,hr⟩:=bs hr
                          apply TO.cal (wn T) rfl goFn11 (Spec.ov (base_Within_spec h47) (by decide)) rfl rfl rfl
                          repeat exact sd T
                          refine wa_ T (g:=?_)
                          apply TO.pop1 (wn T) (pop_not rfl)
                          repeat exact sd T
                          refine wa_ T (g:=?_)
                          rcases ifs hr with ⟨h48,hr⟩|⟨h48,hr⟩
                          · have T:=an h48 T
                            refine wa_ T (g:=?_)
                            rcases ifs hr with ⟨h49,hr⟩|⟨h49,hr⟩
                            · have T:=an h49 T
                              refine wA T (g:=?_)
                              obtain ⟨⟨v35,v36⟩,h50,hr⟩:=bs hr
                              try dsimp only at hr
                              apply TD.cal (wn T) rfl goFn12 (Spec.ov (ref02_Arrived_spec h50) (by decide)) rfl rfl rfl
                              repeat exact sd T
                              refine wa_ T (g:=?_)
                              apply TD.pop1 (wn T) (pop_eqs1 (X:=⟨[.int .i64 (v19),.int .i64 (v20)]⟩) (Y:=⟨[.int .i64 (v35),.int .i64 (v36)]⟩) rfl rfl rfl rfl rfl rfl rfl eqg36 eqs36 rfl)
                              repeat exact sd T
                              refine wa_ T (g:=?_)
                              rcases ifs hr with ⟨h51,hr⟩|⟨h51,hr⟩
                              · repeat (first|(with_reducible first|refine mv ?_|refine TD.nil ?_)|((with_reducible first|apply TD.ia|apply TD.ld|apply TD.bin|apply TD.pk|apply TD.asg);(repeat (focus (show _ = _;first|exact k1 rfl|exact k2 rfl|(simp only [zz,y25,e_Li_Liiii_i,e_i,e_iiii,Nat.reduceAdd,Nat.reduceMul,Nat.reduceLeDiff,Nat.reduceEqDiff,tindexAddr,z5,Int.reduceToNat,Int.reduceLE,Int.reduceLT,Int.cast_ofNat_Int,tload,rowOf,partT,List.getElem?_map,h1,h2,h3,h18,h20,h24,h43,h44,h46,h48,h49,h51]<;>exact rfl)|exact rfl)));(with_reducible refine TD.here ?_))|((with_reducible apply TX.drawn);(focus decide +kernel);(focus (simp only [zl]<;>exact rfl));(focus exact rfl);(try dsimp only))|fail)
                                have T:=an h51 T
                                exact lv T hr
                              · have T:=an h51 T
                                refine wa_ T (g:=?_)
                                exact lv T hr
                            · have T:=an h49 T
                              refine wa_ T (g:=?_)
                              exact lv T hr
                          · have T:=an h48 T
                            refine wa_ T (g:=?_)
                            rcases ifs hr with ⟨h52,hr⟩|⟨h52,hr⟩
                            · have T:=an h52 T
                              refine wA T (g:=?_)
                              apply TO.pop1 (wn T) (pop_eqs1 (X:=⟨[.int .i64 (v19),.int .i64 (v20)]⟩) (Y:=⟨[.int .i64 (0),.int .i64 (0)]⟩) rfl rfl rfl rfl rfl rfl rfl eqg36 eqs36 rfl)
                              repeat exact sd T
                              refine wa_ T (g:=?_)
                              exact lv T hr
                            · have T:=an h52 T
                              refine wa_ T (g:=?_)
                              exact lv T hr
                        · have T:=an h46 T
                          refine wa_ T (g:=?_)
                          exact lv T hr
                    · have T:=an h43 T
                      refine wA T (g:=?_)
                      obtain ⟨v37,h53,hr⟩:=bs hr
                      apply TO.cal (wn T) rfl goFn11 (Spec.ov (base_Within_spec h53) (by decide)) rfl rfl rfl
                      repeat exact sd T
                      refine wa_ T (g:=?_)
                      apply TO.pop1 (wn T) (pop_not rfl)
                      repeat exact sd T
                      refine wa_ T (g:=?_)
                      rcases ifs hr with ⟨h54,hr⟩|⟨h54,hr⟩
                      · have T:=an h54 T
                        refine wa_ T (g:=?_)
                        rcases ifs hr with ⟨h55,hr⟩|⟨h55,hr⟩
                        · have T:=an h55 T
                          refine wA T (g:=?_)
                          obtain ⟨⟨v38,v39⟩,h56,hr⟩:=bs hr
                          try dsimp only at hr
                          apply TD.cal (wn T) rfl goFn12 (Spec.ov (ref02_Arrived_spec h56) (by decide)) rfl rfl rfl
                          repeat exact sd T
                          refine wa_ T (g:=?_)
                          apply TD.pop1 (wn T) (pop_eqs1 (X:=⟨[.int .i64 (v19),.int .i64 (v20)]⟩) (Y:=⟨[.int .i64 (v38),.int .i64 (v39)]⟩) rfl rfl rfl rfl rfl rfl rfl eqg36 eqs36 rfl)
                          repeat exact sd T
                          refine wa_ T (g:=?_)
                          rcases ifs hr with ⟨h57,hr⟩|⟨h57,hr⟩
                          · repeat (first|(with_reducible first|refine mv ?_|refine TD.nil ?_)|((with_reducible first|apply TD.ia|apply TD.ld|apply TD.bin|apply TD.pk|apply TD.asg);(repeat (focus (show _ = _;first|exact k1 rfl|exact k2 rfl|(simp only [zz,y25,e_Li_Liiii_i,e_i,e_iiii,Nat.reduceAdd,Nat.reduceMul,Nat.reduceLeDiff,Nat.reduceEqDiff,tindexAddr,z5,Int.reduceToNat,Int.reduceLE,Int.reduceLT,Int.cast_ofNat_Int,tload,rowOf,partT,List.getElem?_map,h1,h2,h3,h18,h20,h24,h43,h54,h55,h57]<;>exact rfl)|exact rfl)));(with_reducible refine TD.here ?_))|((with_reducible apply TX.drawn);(focus decide +kernel);(focus (simp only [zl]<;>exact rfl));(focus exact rfl);(try dsimp only))|fail)
                            have T:=an h57 T
                            exact lv T hr
                          · have T:=an h57 T
                            refine wa_ T (g:=?_)
                            exact lv T hr
                        · have T:=an h55 T
                          refine wa_ T (g:=?_)
                          exact lv T hr
                      · have T:=an h54 T
                        refine wa_ T (g:=?_)
                        rcases ifs hr with ⟨h58,hr⟩|⟨h58,hr⟩
                        · have T:=an h58 T
                          refine wA T (g:=?_)
                          apply TO.pop1 (wn T) (pop_eqs1 (X:=⟨[.int .i64 (v19),.int .i64 (v20)]⟩) (Y:=⟨[.int .i64 (0),.int .i64 (0)]⟩) rfl rfl rfl rfl rfl rfl rfl eqg36 eqs36 rfl)
                          repeat exact sd T
                          refine wa_ T (g:=?_)
                          exact lv T hr
                        · have T:=an h58 T
                          refine wa_ T (g:=?_)
                          exact lv T hr
            · have T:=an h18 T
              refine wa_ T (g:=?_)
              rcases ifs hr with ⟨h59,hr⟩|⟨h59,hr⟩
              · have T:=an h59 T
                refine wa_ T (g:=?_)
                rcases ifs hr with ⟨h60,hr⟩|⟨h60,hr⟩
                · have T:=an h60 T
                  refine wa_ T (g:=?_)
                  rcases ifs hr with ⟨h61,hr⟩|⟨h61,hr⟩
                  · have T:=an h61 T
                    refine wA T (g:=?_)
                    apply TO.pop1 (wn T) (pop_eqs1 (X:=⟨[.int .i64 (v15),.int .i64 (v16)]⟩) (Y:=⟨[.int .i64 (0),.int .i64 (0)]⟩) rfl rfl rfl rfl rfl rfl rfl eqg31 eqs31 rfl)
                    repeat exact sd T
                    refine wa_ T (g:=?_)
                    rcases ifs hr with ⟨h62,hr⟩|⟨h62,hr⟩
                    · have T:=an h62 T
                      refine wA T (g:=?_)
                      apply TO.pop1 (wn T) (pop_eqs1 (X:=⟨[.int .i64 (v19),.int .i64 (v20)]⟩) (Y:=⟨[.int .i64 (0),.int .i64 (0)]⟩) rfl rfl rfl rfl rfl rfl rfl eqg36 eqs36 rfl)
                      repeat exact sd T
                      refine wa_ T (g:=?_)
                      exact lv T hr
                    · have T:=an h62 T
                      refine wa_ T (g:=?_)
                      exact lv T hr
                  · have T:=an h61 T
                    refine wa_ T (g:=?_)
                    exact lv T hr
                · have T:=an h60 T
                  refine wa_ T (g:=?_)
                  exact lv T hr
              · have T:=an h59 T
                refine wc_ T (g:=?_)
                rcases ifs hr with ⟨h63,hr⟩|⟨h63,hr⟩
                · as_aux_lemma =>
                    have T:=an h63 T
                    refine wa_ T (g:=?_)
                    rcases ifs hr with ⟨h64,hr⟩|⟨h64,hr⟩
                    · have T:=an h64 T
                      refine wa_ T (g:=?_)
                      exact lv T hr
                    · have T:=an h64 T
                      refine wA T (g:=?_)
                      apply TD.pop1 (wn T) (pop_eqs2 (X:=⟨[.int .i64 (v15),.int .i64 (v16)]⟩) (Y:=⟨[.int .i64 (0),.int .i64 (0)]⟩) rfl rfl rfl rfl rfl rfl rfl eqg31 eqs31 rfl)
                      repeat exact sd T
                      refine wa_ T (g:=?_)
                      rcases ifs hr with ⟨h65,hr⟩|⟨h65,hr⟩
                      · have T:=an h65 T
                        refine wc_ T (g:=?_)
                        rcases ifs hr with ⟨h66,hr⟩|⟨h66,hr⟩
                        · have T:=an h66 T
                          refine wa_ T (g:=?_)
                          rcases ifs hr with ⟨h67,hr⟩|⟨h67,hr⟩
                          · have T:=an h67 T
                            refine wa_ T (g:=?_)
                            exact lv T hr
                          · have T:=an h67 T
                            refine wA T (g:=?_)
                            obtain ⟨⟨v40,v41⟩,h68,hr⟩:=bs hr
                            try dsimp only at hr
                            apply TD.cal (wn T) rfl goFn10 (Spec.ov (ref02_GapOf_spec h68) (by decide)) rfl rfl rfl
                            repeat exact sd T
                            refine wa_ T (g:=?_)
                            apply TD.pop1 (wn T) (pop_eqs2 (X:=⟨[.int .i64 (v15),.int .i64 (v16)]⟩) (Y:=⟨[.int .i64 (v40),.int .i64 (v41)]⟩) rfl rfl rfl rfl rfl rfl rfl eqg31 eqs31 rfl)
                            repeat exact sd T
                            refine wa_ T (g:=?_)
                            rcases ifs hr with ⟨h69,hr⟩|⟨h69,hr⟩
                            · have T:=an h69 T
                              refine wA T (g:=?_)
                              obtain ⟨v42,h70,hr⟩:=bs hr
                              apply TO.cal (wn T) rfl goFn11 (Spec.ov (base_Within_spec h70) (by decide)) rfl rfl rfl
                              repeat exact sd T
                              refine wa_ T (g:=?_)
                              apply TO.pop1 (wn T) (pop_not rfl)
                              repeat exact sd T
                              refine wa_ T (g:=?_)
                              rcases ifs hr with ⟨h71,hr⟩|⟨h71,hr⟩
                              · have T:=an h71 T
                                refine wa_ T (g:=?_)
                                rcases ifs hr with ⟨h72,hr⟩|⟨h72,hr⟩
                                · have T:=an h72 T
                                  refine wA T (g:=?_)
                                  obtain ⟨⟨v43,v44⟩,h73,hr⟩:=bs hr
                                  try dsimp only at hr
                                  apply TD.cal (wn T) rfl goFn12 (Spec.ov (ref02_Arrived_spec h73) (by decide)) rfl rfl rfl
                                  repeat exact sd T
                                  refine wa_ T (g:=?_)
                                  apply TD.pop1 (wn T) (pop_eqs1 (X:=⟨[.int .i64 (v19),.int .i64 (v20)]⟩) (Y:=⟨[.int .i64 (v43),.int .i64 (v44)]⟩) rfl rfl rfl rfl rfl rfl rfl eqg36 eqs36 rfl)
                                  repeat exact sd T
                                  refine wa_ T (g:=?_)
                                  rcases ifs hr with ⟨h74,hr⟩|⟨h74,hr⟩
                                  · repeat (first|(with_reducible first|refine mv ?_|refine TD.nil ?_)|((with_reducible first|apply TD.ia|apply TD.ld|apply TD.bin|apply TD.pk|apply TD.asg);(repeat (focus (show _ = _;first|exact k1 rfl|exact k2 rfl|(simp only [zz,y25,e_Li_Liiii_i,e_i,e_iiii,Nat.reduceAdd,Nat.reduceMul,Nat.reduceLeDiff,Nat.reduceEqDiff,tindexAddr,z5,Int.reduceToNat,Int.reduceLE,Int.reduceLT,Int.cast_ofNat_Int,tload,rowOf,partT,List.getElem?_map,h1,h2,h3,h18,h59,h63,h64,h65,h66,h67,h69,h71,h72,h74]<;>exact rfl)|exact rfl)));(with_reducible refine TD.here ?_))|((with_reducible apply TX.drawn);(focus decide +kernel);(focus (simp only [zl]<;>exact rfl));(focus exact rfl);(try dsimp only))|fail)
                                    have T:=an h74 T
                                    exact lv T hr
                                  · have T:=an h74 T
                                    refine wa_ T (g:=?_)
                                    exact lv T hr
                                · have T:=an h72 T
                                  refine wa_ T (g:=?_)
                                  exact lv T hr
                              · have T:=an h71 T
                                refine wa_ T (g:=?_)
                                rcases ifs hr with ⟨h75,hr⟩|⟨h75,hr⟩
                                · have T:=an h75 T
                                  refine wA T (g:=?_)
                                  apply TO.pop1 (wn T) (pop_eqs1 (X:=⟨[.int .i64 (v19),.int .i64 (v20)]⟩) (Y:=⟨[.int .i64 (0),.int .i64 (0)]⟩) rfl rfl rfl rfl rfl rfl rfl eqg36 eqs36 rfl)
                                  repeat exact sd T
                                  refine wa_ T (g:=?_)
                                  exact lv T hr
                                · have T:=an h75 T
                                  refine wa_ T (g:=?_)
                                  exact lv T hr
                            · have T:=an h69 T
                              refine wa_ T (g:=?_)
                              exact lv T hr
                        · have T:=an h66 T
                          refine wA T (g:=?_)
                          obtain ⟨v45,h76,hr⟩:=bs hr
                          apply TO.cal (wn T) rfl goFn11 (Spec.ov (base_Within_spec h76) (by decide)) rfl rfl rfl
                          repeat exact sd T
                          refine wa_ T (g:=?_)
                          apply TO.pop1 (wn T) (pop_not rfl)
                          repeat exact sd T
                          refine wa_ T (g:=?_)
                          rcases ifs hr with ⟨h77,hr⟩|⟨h77,hr⟩
                          · have T:=an h77 T
                            refine wa_ T (g:=?_)
                            rcases ifs hr with ⟨h78,hr⟩|⟨h78,hr⟩
                            · have T:=an h78 T
                              refine wA T (g:=?_)
                              obtain ⟨⟨v46,v47⟩,h79,hr⟩:=bs hr
                              try dsimp only at hr
                              apply TD.cal (wn T) rfl goFn12 (Spec.ov (ref02_Arrived_spec h79) (by decide)) rfl rfl rfl
                              repeat exact sd T
                              refine wa_ T (g:=?_)
                              apply TD.pop1 (wn T) (pop_eqs1 (X:=⟨[.int .i64 (v19),.int .i64 (v20)]⟩) (Y:=⟨[.int .i64 (v46),.int .i64 (v47)]⟩) rfl rfl rfl rfl rfl rfl rfl eqg36 eqs36 rfl)
                              repeat exact sd T
                              refine wa_ T (g:=?_)
                              rcases ifs hr with ⟨h80,hr⟩|⟨h80,hr⟩
                              · repeat (first|(with_reducible first|refine mv ?_|refine TD.nil ?_)|((with_reducible first|apply TD.ia|apply TD.ld|apply TD.bin|apply TD.pk|apply TD.asg);(repeat (focus (show _ = _;first|exact k1 rfl|exact k2 rfl|(simp only [zz,y25,e_Li_Liiii_i,e_i,e_iiii,Nat.reduceAdd,Nat.reduceMul,Nat.reduceLeDiff,Nat.reduceEqDiff,tindexAddr,z5,Int.reduceToNat,Int.reduceLE,Int.reduceLT,Int.cast_ofNat_Int,tload,rowOf,partT,List.getElem?_map,h1,h2,h3,h18,h59,h63,h64,h65,h66,h77,h78,h80]<;>exact rfl)|exact rfl)));(with_reducible refine TD.here ?_))|((with_reducible apply TX.drawn);(focus decide +kernel);(focus (simp only [zl]<;>exact rfl));(focus exact rfl);(try dsimp only))|fail)
                                have T:=an h80 T
                                exact lv T hr
                              · have T:=an h80 T
                                refine wa_ T (g:=?_)
                                exact lv T hr
                            · have T:=an h78 T
                              refine wa_ T (g:=?_)
                              exact lv T hr
                          · have T:=an h77 T
                            refine wa_ T (g:=?_)
                            rcases ifs hr with ⟨h81,hr⟩|⟨h81,hr⟩
                            · have T:=an h81 T
                              refine wA T (g:=?_)
                              apply TO.pop1 (wn T) (pop_eqs1 (X:=⟨[.int .i64 (v19),.int .i64 (v20)]⟩) (Y:=⟨[.int .i64 (0),.int .i64 (0)]⟩) rfl rfl rfl rfl rfl rfl rfl eqg36 eqs36 rfl)
                              repeat exact sd T
                              refine wa_ T (g:=?_)
                              exact lv T hr
                            · have T:=an h81 T
                              refine wa_ T (g:=?_)
                              exact lv T hr
                      · have T:=an h65 T
                        refine wa_ T (g:=?_)
                        exact lv T hr
                · as_aux_lemma =>
                    have T:=an h63 T
                    refine wc_ T (g:=?_)
                    rcases ifs hr with ⟨h82,hr⟩|⟨h82,hr⟩
                    · have T:=an h82 T
                      refine wa_ T (g:=?_)
                      rcases ifs hr with ⟨h83,hr⟩|⟨h83,hr⟩
                      · have T:=an h83 T
                        refine wa_ T (g:=?_)
                        exact lv T hr
                      · have T:=an h83 T
                        refine wA T (g:=?_)
                        obtain ⟨⟨v48,v49⟩,h84,hr⟩:=bs hr
                        try dsimp only at hr
                        apply TD.cal (wn T) rfl goFn10 (Spec.ov (ref02_GapOf_spec h84) (by decide)) rfl rfl rfl
                        repeat exact sd T
                        refine wa_ T (g:=?_)
                        apply TD.pop1 (wn T) (pop_eqs2 (X:=⟨[.int .i64 (v15),.int .i64 (v16)]⟩) (Y:=⟨[.int .i64 (v48),.int .i64 (v49)]⟩) rfl rfl rfl rfl rfl rfl rfl eqg31 eqs31 rfl)
                        repeat exact sd T
                        refine wa_ T (g:=?_)
                        rcases ifs hr with ⟨h85,hr⟩|⟨h85,hr⟩
                        · have T:=an h85 T
                          refine wA T (g:=?_)
                          obtain ⟨v50,h86,hr⟩:=bs hr
                          apply TO.cal (wn T) rfl goFn11 (Spec.ov (base_Within_spec h86) (by decide)) rfl rfl rfl
                          repeat exact sd T
                          refine wa_ T (g:=?_)
                          apply TO.pop1 (wn T) (pop_not rfl)
                          repeat exact sd T
                          refine wa_ T (g:=?_)
                          rcases ifs hr with ⟨h87,hr⟩|⟨h87,hr⟩
                          · have T:=an h87 T
                            refine wa_ T (g:=?_)
                            rcases ifs hr with ⟨h88,hr⟩|⟨h88,hr⟩
                            · have T:=an h88 T
                              refine wA T (g:=?_)
                              obtain ⟨⟨v51,v52⟩,h89,hr⟩:=bs hr
                              try dsimp only at hr
                              apply TD.cal (wn T) rfl goFn12 (Spec.ov (ref02_Arrived_spec h89) (by decide)) rfl rfl rfl
                              repeat exact sd T
                              refine wa_ T (g:=?_)
                              apply TD.pop1 (wn T) (pop_eqs1 (X:=⟨[.int .i64 (v19),.int .i64 (v20)]⟩) (Y:=⟨[.int .i64 (v51),.int .i64 (v52)]⟩) rfl rfl rfl rfl rfl rfl rfl eqg36 eqs36 rfl)
                              repeat exact sd T
                              refine wa_ T (g:=?_)
                              rcases ifs hr with ⟨h90,hr⟩|⟨h90,hr⟩
                              · repeat (first|(with_reducible first|refine mv ?_|refine TD.nil ?_)|((with_reducible first|apply TD.ia|apply TD.ld|apply TD.bin|apply TD.pk|apply TD.asg);(repeat (focus (show _ = _;first|exact k1 rfl|exact k2 rfl|(simp only [zz,y25,e_Li_Liiii_i,e_i,e_iiii,Nat.reduceAdd,Nat.reduceMul,Nat.reduceLeDiff,Nat.reduceEqDiff,tindexAddr,z5,Int.reduceToNat,Int.reduceLE,Int.reduceLT,Int.cast_ofNat_Int,tload,rowOf,partT,List.getElem?_map,h1,h2,h3,h18,h59,h63,h82,h83,h85,h87,h88,h90]<;>exact rfl)|exact rfl)));(with_reducible refine TD.here ?_))|((with_reducible apply TX.drawn);(focus decide +kernel);(focus (simp only [zl]<;>exact rfl));(focus exact rfl);(try dsimp only))|fail)
                                have T:=an h90 T
                                exact lv T hr
                              · have T:=an h90 T
                                refine wa_ T (g:=?_)
                                exact lv T hr
                            · have T:=an h88 T
                              refine wa_ T (g:=?_)
                              exact lv T hr
                          · have T:=an h87 T
                            refine wa_ T (g:=?_)
                            rcases ifs hr with ⟨h91,hr⟩|⟨h91,hr⟩
                            · have T:=an h91 T
                              refine wA T (g:=?_)
                              apply TO.pop1 (wn T) (pop_eqs1 (X:=⟨[.int .i64 (v19),.int .i64 (v20)]⟩) (Y:=⟨[.int .i64 (0),.int .i64 (0)]⟩) rfl rfl rfl rfl rfl rfl rfl eqg36 eqs36 rfl)
                              repeat exact sd T
                              refine wa_ T (g:=?_)
                              exact lv T hr
                            · have T:=an h91 T
                              refine wa_ T (g:=?_)
                              exact lv T hr
                        · have T:=an h85 T
                          refine wa_ T (g:=?_)
                          exact lv T hr
                    · have T:=an h82 T
                      refine wA T (g:=?_)
                      obtain ⟨v53,h92,hr⟩:=bs hr
                      apply TO.cal (wn T) rfl goFn11 (Spec.ov (base_Within_spec h92) (by decide)) rfl rfl rfl
                      repeat exact sd T
                      refine wa_ T (g:=?_)
                      apply TO.pop1 (wn T) (pop_not rfl)
                      repeat exact sd T
                      refine wa_ T (g:=?_)
                      rcases ifs hr with ⟨h93,hr⟩|⟨h93,hr⟩
                      · have T:=an h93 T
                        refine wa_ T (g:=?_)
                        rcases ifs hr with ⟨h94,hr⟩|⟨h94,hr⟩
                        · have T:=an h94 T
                          refine wA T (g:=?_)
                          obtain ⟨⟨v54,v55⟩,h95,hr⟩:=bs hr
                          try dsimp only at hr
                          apply TD.cal (wn T) rfl goFn12 (Spec.ov (ref02_Arrived_spec h95) (by decide)) rfl rfl rfl
                          repeat exact sd T
                          refine wa_ T (g:=?_)
                          apply TD.pop1 (wn T) (pop_eqs1 (X:=⟨[.int .i64 (v19),.int .i64 (v20)]⟩) (Y:=⟨[.int .i64 (v54),.int .i64 (v55)]⟩) rfl rfl rfl rfl rfl rfl rfl eqg36 eqs36 rfl)
                          repeat exact sd T
                          refine wa_ T (g:=?_)
                          rcases ifs hr with ⟨h96,hr⟩|⟨h96,hr⟩
                          · repeat (first|(with_reducible first|refine mv ?_|refine TD.nil ?_)|((with_reducible first|apply TD.ia|apply TD.ld|apply TD.bin|apply TD.pk|apply TD.asg);(repeat (focus (show _ = _;first|exact k1 rfl|exact k2 rfl|(simp only [zz,y25,e_Li_Liiii_i,e_i,e_iiii,Nat.reduceAdd,Nat.reduceMul,Nat.reduceLeDiff,Nat.reduceEqDiff,tindexAddr,z5,Int.reduceToNat,Int.reduceLE,Int.reduceLT,Int.cast_ofNat_Int,tload,rowOf,partT,List.getElem?_map,h1,h2,h3,h18,h59,h63,h82,h93,h94,h96]<;>exact rfl)|exact rfl)));(with_reducible refine TD.here ?_))|((with_reducible apply TX.drawn);(focus decide +kernel);(focus (simp only [zl]<;>exact rfl));(focus exact rfl);(try dsimp only))|fail)
                            have T:=an h96 T
                            exact lv T hr
                          · have T:=an h96 T
                            refine wa_ T (g:=?_)
                            exact lv T hr
                        · have T:=an h94 T
                          refine wa_ T (g:=?_)
                          exact lv T hr
                      · have T:=an h93 T
                        refine wa_ T (g:=?_)
                        rcases ifs hr with ⟨h97,hr⟩|⟨h97,hr⟩
                        · have T:=an h97 T
                          refine wA T (g:=?_)
                          apply TO.pop1 (wn T) (pop_eqs1 (X:=⟨[.int .i64 (v19),.int .i64 (v20)]⟩) (Y:=⟨[.int .i64 (0),.int .i64 (0)]⟩) rfl rfl rfl rfl rfl rfl rfl eqg36 eqs36 rfl)
                          repeat exact sd T
                          refine wa_ T (g:=?_)
                          exact lv T hr
                        · have T:=an h97 T
                          refine wa_ T (g:=?_)
                          exact lv T hr
        · try dsimp only
          exact wk_ T [] rfl .nil
  · have T:=an h1 T
    refine wc_ T (g:=?_)
    rcases ifs hr with ⟨h98,hr⟩|⟨h98,hr⟩
    · have T:=an h98 T
      refine wa_ T (g:=?_)
      exact lv T hr
    · have T:=an h98 T
      refine wa_ T (g:=?_)
      obtain ⟨v63,h107,hr⟩:=bs hr
      refine TX.loopE (step:=law02_ImageArrivals_l2 v1) (x:=0) h107 (fun v56=>⟨.list 3 (v1.map e_Li_Liiii_i) :: .junk :: .junk :: .fptr true [.v (.int .i64 v2),.v (.int .i64 v3),.v (.int .i64 v4)] 0 :: .junk :: .v (.int .i64 v56) :: .junk :: .junk :: .junk :: .junk :: .junk :: .junk :: .junk :: .junk :: .junk :: .junk :: .junk :: .junk :: .junk :: .junk :: .junk :: .junk :: .junk :: .junk :: .junk :: .junk :: .junk :: .junk :: .junk :: .junk :: .junk :: .junk :: .junk :: .junk :: .junk :: .junk :: .junk :: .junk :: .junk :: .junk :: .junk :: .junk :: .junk :: .junk :: .junk :: .junk :: .junk :: .junk :: .junk :: .junk :: .junk :: .junk :: .junk :: .junk :: .junk :: .junk :: .junk :: .junk :: .junk :: .junk :: .junk :: .junk :: .junk :: .junk :: .junk :: .junk :: .junk :: .junk :: .junk :: .junk :: .junk :: .junk :: .junk :: .junk :: .junk :: .junk :: .junk :: .junk :: .junk :: .junk :: .junk :: .junk :: .junk :: .junk :: .junk :: .junk :: .junk :: .junk :: .junk :: .junk :: .junk :: .junk :: .junk :: .junk :: .junk :: .junk :: .junk :: .junk :: .junk :: .junk :: .junk :: .junk :: .junk :: .junk :: .junk :: .junk :: .junk :: .junk :: .junk :: .junk :: .junk :: .junk :: .junk :: .junk :: .junk :: .junk :: .junk :: .junk :: .junk :: .junk :: .junk :: .junk :: .junk :: .junk :: .junk :: .junk :: .junk :: .junk :: .junk :: .junk :: .junk :: .junk :: .junk :: .junk :: .junk :: .junk :: .junk :: .junk :: .junk :: .junk :: .junk :: .junk :: .junk :: .junk :: .junk :: .junk :: .junk :: .junk :: .junk :: .junk :: .junk :: .junk :: [],[]⟩) (fun e=>match e with|(.inl _)=>(.ret,⟨.junk :: .junk :: .junk :: .junk :: .v (.bool true) :: .junk :: .junk :: .junk :: .junk :: .junk :: .junk :: .junk :: .junk :: .junk :: .junk :: .junk :: .junk :: .junk :: .junk :: .junk :: .junk :: .junk :: .junk :: .junk :: .junk :: .junk :: .junk :: .junk :: .junk :: .junk :: .junk :: .junk :: .junk :: .junk :: .junk :: .junk :: .junk :: .junk :: .junk :: .junk :: .junk :: .junk :: .junk :: .junk :: .junk :: .junk :: .junk :: .junk :: .junk :: .junk :: .junk :: .junk :: .junk :: .junk :: .junk :: .junk :: .junk :: .junk :: .junk :: .junk :: .junk :: .junk :: .junk :: .junk :: .junk :: .junk :: .junk :: .junk :: .junk :: .junk :: .junk :: .junk :: .junk :: .junk :: .junk :: .junk :: .junk :: .junk :: .junk :: .junk :: .junk :: .junk :: .junk :: .junk :: .junk :: .junk :: .junk :: .junk :: .junk :: .junk :: .junk :: .junk :: .junk :: .junk :: .junk :: .junk :: .junk :: .junk :: .junk :: .junk :: .junk :: .junk :: .junk :: .junk :: .junk :: .junk :: .junk :: .junk :: .junk :: .junk :: .junk :: .junk :: .junk :: .junk :: .junk :: .junk :: .junk :: .junk :: .junk :: .junk :: .junk :: .junk :: .junk :: .junk :: .junk :: .junk :: .junk :: .junk :: .junk :: .junk :: .junk :: .junk :: .junk :: .junk :: .junk :: .junk :: .junk :: .junk :: .junk :: .junk :: .junk :: .junk :: .junk :: .junk :: .junk :: .junk :: .junk :: .junk :: .junk :: .junk :: .junk :: .junk :: [],[]⟩)|(.inr _)=>(.exit 0,⟨.list 3 (v1.map e_Li_Liiii_i) :: .junk :: .junk :: .fptr true [.v (.int .i64 v2),.v (.int .i64 v3),.v (.int .i64 v4)] 0 :: .junk :: .junk :: .junk :: .junk :: .junk :: .junk :: .junk :: .junk :: .junk :: .junk :: .junk :: .junk :: .junk :: .junk :: .junk :: .junk :: .junk :: .junk :: .junk :: .junk :: .junk :: .junk :: .junk :: .junk :: .junk :: .junk :: .junk :: .junk :: .junk :: .junk :: .junk :: .junk :: .junk :: .junk :: .junk :: .junk :: .junk :: .junk :: .junk :: .junk :: .junk :: .junk :: .junk :: .junk :: .junk :: .junk :: .junk :: .junk :: .junk :: .junk :: .junk :: .junk :: .junk :: .junk :: .junk :: .junk :: .junk :: .junk :: .junk :: .junk :: .junk :: .junk :: .junk :: .junk :: .junk :: .junk :: .junk :: .junk :: .junk :: .junk :: .junk :: .junk :: .junk :: .junk :: .junk :: .junk :: .junk :: .junk :: .junk :: .junk :: .junk :: .junk :: .junk :: .junk :: .junk :: .junk :: .junk :: .junk :: .junk :: .junk :: .junk :: .junk :: .junk :: .junk :: .junk :: .junk :: .junk :: .junk :: .junk :: .junk :: .junk :: .junk :: .junk :: .junk :: .junk :: .junk :: .junk :: .junk :: .junk :: .junk :: .junk :: .junk :: .junk :: .junk :: .junk :: .junk :: .junk :: .junk :: .junk :: .junk :: .junk :: .junk :: .junk :: .junk :: .junk :: .junk :: .junk :: .junk :: .junk :: .junk :: .junk :: .junk :: .junk :: .junk :: .junk :: .junk :: .junk :: .junk :: .junk :: .junk :: .junk :: .junk :: .junk :: .junk :: .junk :: .junk :: .junk :: .junk :: [],[]⟩)) ?_ ?_ ?_ ?_
      · rintro v56 v0 hr
        dsimp only [law02_ImageArrivals_l2] at hr
        try dsimp only
        refine wc_ T (g:=?_)
        rcases ifs hr with ⟨h103,hr⟩|⟨h103,hr⟩
        · have T:=an h103 T
          refine wa_ T (g:=?_)
          obtain ⟨⟨v60,v61,v62⟩,h104,hr⟩:=bs hr
          try dsimp only at hr
          have T:=an (gx e_Li_Liiii_i h104) T
          refine wC T (g:=?_)
          rcases ifs hr with ⟨h105,hr⟩|⟨h105,hr⟩
          · have T:=an h105 T
            refine wa_ T (g:=?_)
            cases hr
            refine ⟨rfl,?_⟩
            exact wk_ T [] rfl .nil
          · have T:=an h105 T
            refine wC T (g:=?_)
            rcases ifs hr with ⟨h106,hr⟩|⟨h106,hr⟩
            · have T:=an h106 T
              refine wa_ T (g:=?_)
              cases hr
              refine ⟨rfl,?_⟩
              exact wk_ T [] rfl .nil
            · have T:=an h106 T
              refine wa_ T (g:=?_)
              cases hr
              refine ⟨rfl,?_⟩
              exact wk_ T [] rfl .nil
        · have T:=an h103 T
          refine wa_ T (g:=?_)
          cases hr
          refine ⟨rfl,?_⟩
          exact wk_ T [] rfl .nil
      · intro e h;rcases e with _|e<;>cases h
      · try dsimp only
        rcases v63 with _|_
        · try dsimp only at hr
          try dsimp only
          refine wa_ T (g:=?_)
          exact lv T hr
        · try dsimp only at hr
          try dsimp only
          refine wa_ T (g:=?_)
          obtain ⟨v64,h108,hr⟩:=bs hr
          apply TD.cal (wn T) rfl goFn6 (Spec.ov (ref02_CopyPaths_spec h108) (by decide)) rfl rfl rfl
          repeat exact sd T
          refine wA T (g:=?_)
          obtain ⟨⟨v65,v66,v67⟩,h109,hr⟩:=bs hr
          try dsimp only at hr
          apply TD.lok (wn T) rfl goFn5 (Spec.ov (image_GapOf_spec h109) (by decide)) (vw T) rfl rfl (by simp [clTB,cl,e_i,e_iiii,e_Li_Liiii_i])
          repeat exact sd T
          refine wa_ T (g:=?_)
          obtain ⟨v68,h110,hr⟩:=bs hr
          apply TD.cal (wn T) rfl goFn6 (Spec.ov (ref02_CopyPaths_spec h110) (by decide)) rfl rfl rfl
          repeat exact sd T
          refine wA T (g:=?_)
          obtain ⟨⟨v69,v70,v71⟩,h111,hr⟩:=bs hr
          try dsimp only at hr
          apply TD.lok (wn T) rfl goFn7 (Spec.ov (image_Arrived_spec h111) (by decide)) (vw T) rfl rfl (by simp [clTB,cl,e_i,e_iiii,e_Li_Liiii_i])
          repeat exact sd T
          refine wa_ T (g:=?_)
          obtain ⟨v72,h112,hr⟩:=bs hr
          apply TO.cal (wn T) rfl goFn8 (Spec.ov (ref02_ListErr_spec h112) (by decide)) rfl rfl rfl
          repeat exact sd T
          refine wa_ T (g:=?_)
          rcases ifs hr with ⟨h113,hr⟩|⟨h113,hr⟩
          · have T:=an h113 T
            refine wA T (g:=?_)
            obtain ⟨v73,h114,hr⟩:=bs hr
            apply TO.cal (wn T) rfl goFn9 (Spec.ov (ref02_SpeedErr_spec h114) (by decide)) rfl rfl rfl
            repeat exact sd T
            refine wa_ T (g:=?_)
            rcases ifs hr with ⟨h115,hr⟩|⟨h115,hr⟩
            · have T:=an h115 T
              refine wa_ T (g:=?_)
              rcases ifs hr with ⟨h116,hr⟩|⟨h116,hr⟩
              · have T:=an h116 T
                refine wa_ T (g:=?_)
                rcases ifs hr with ⟨h117,hr⟩|⟨h117,hr⟩
                · have T:=an h117 T
                  refine wA T (g:=?_)
                  apply TO.pop1 (wn T) (pop_eqs1 (X:=⟨[.int .i64 (v65),.int .i64 (v66)]⟩) (Y:=⟨[.int .i64 (0),.int .i64 (0)]⟩) rfl rfl rfl rfl rfl rfl rfl eqg31 eqs31 rfl)
                  repeat exact sd T
                  refine wa_ T (g:=?_)
                  rcases ifs hr with ⟨h118,hr⟩|⟨h118,hr⟩
                  · have T:=an h118 T
                    refine wA T (g:=?_)
                    apply TO.pop1 (wn T) (pop_eqs1 (X:=⟨[.int .i64 (v69),.int .i64 (v70)]⟩) (Y:=⟨[.int .i64 (0),.int .i64 (0)]⟩) rfl rfl rfl rfl rfl rfl rfl eqg36 eqs36 rfl)
                    repeat exact sd T
                    refine wa_ T (g:=?_)
                    exact lv T hr
                  · have T:=an h118 T
                    refine wa_ T (g:=?_)
                    exact lv T hr
                · have T:=an h117 T
                  refine wa_ T (g:=?_)
                  exact lv T hr
              · have T:=an h116 T
                refine wa_ T (g:=?_)
                exact lv T hr
            · have T:=an h115 T
              refine wc_ T (g:=?_)
              rcases ifs hr with ⟨h119,hr⟩|⟨h119,hr⟩
              · as_aux_lemma =>
                  have T:=an h119 T
                  refine wa_ T (g:=?_)
                  rcases ifs hr with ⟨h120,hr⟩|⟨h120,hr⟩
                  · have T:=an h120 T
                    refine wa_ T (g:=?_)
                    exact lv T hr
                  · have T:=an h120 T
                    refine wA T (g:=?_)
                    apply TD.pop1 (wn T) (pop_eqs2 (X:=⟨[.int .i64 (v65),.int .i64 (v66)]⟩) (Y:=⟨[.int .i64 (0),.int .i64 (0)]⟩) rfl rfl rfl rfl rfl rfl rfl eqg31 eqs31 rfl)
                    repeat exact sd T
                    refine wa_ T (g:=?_)
                    rcases ifs hr with ⟨h121,hr⟩|⟨h121,hr⟩
                    · have T:=an h121 T
                      refine wc_ T (g:=?_)
                      rcases ifs hr with ⟨h122,hr⟩|⟨h122,hr⟩
                      · have T:=an h122 T
                        refine wa_ T (g:=?_)
                        rcases ifs hr with ⟨h123,hr⟩|⟨h123,hr⟩
                        · have T:=an h123 T
                          refine wa_ T (g:=?_)
                          exact lv T hr
                        · have T:=an h123 T
                          refine wA T (g:=?_)
                          obtain ⟨⟨v74,v75⟩,h124,hr⟩:=bs hr
                          try dsimp only at hr
                          apply TD.cal (wn T) rfl goFn10 (Spec.ov (ref02_GapOf_spec h124) (by decide)) rfl rfl rfl
                          repeat exact sd T
                          refine wa_ T (g:=?_)
                          apply TD.pop1 (wn T) (pop_eqs2 (X:=⟨[.int .i64 (v65),.int .i64 (v66)]⟩) (Y:=⟨[.int .i64 (v74),.int .i64 (v75)]⟩) rfl rfl rfl rfl rfl rfl rfl eqg31 eqs31 rfl)
                          repeat exact sd T
                          refine wa_ T (g:=?_)
                          rcases ifs hr with ⟨h125,hr⟩|⟨h125,hr⟩
                          · have T:=an h125 T
                            refine wA T (g:=?_)
                            obtain ⟨v76,h126,hr⟩:=bs hr
                            apply TO.cal (wn T) rfl goFn11 (Spec.ov (base_Within_spec h126) (by decide)) rfl rfl rfl
                            repeat exact sd T
                            refine wa_ T (g:=?_)
                            apply TO.pop1 (wn T) (pop_not rfl)
                            repeat exact sd T
                            refine wa_ T (g:=?_)
                            rcases ifs hr with ⟨h127,hr⟩|⟨h127,hr⟩
                            · have T:=an h127 T
                              refine wa_ T (g:=?_)
                              rcases ifs hr with ⟨h128,hr⟩|⟨h128,hr⟩
                              · have T:=an h128 T
                                refine wA T (g:=?_)
                                obtain ⟨⟨v77,v78⟩,h129,hr⟩:=bs hr
                                try dsimp only at hr
                                apply TD.cal (wn T) rfl goFn12 (Spec.ov (ref02_Arrived_spec h129) (by decide)) rfl rfl rfl
                                repeat exact sd T
                                refine wa_ T (g:=?_)
                                apply TD.pop1 (wn T) (pop_eqs1 (X:=⟨[.int .i64 (v69),.int .i64 (v70)]⟩) (Y:=⟨[.int .i64 (v77),.int .i64 (v78)]⟩) rfl rfl rfl rfl rfl rfl rfl eqg36 eqs36 rfl)
                                repeat exact sd T
                                refine wa_ T (g:=?_)
                                rcases ifs hr with ⟨h130,hr⟩|⟨h130,hr⟩
                                · repeat (first|(with_reducible first|refine mv ?_|refine TD.nil ?_)|((with_reducible first|apply TD.ia|apply TD.ld|apply TD.bin|apply TD.pk|apply TD.asg);(repeat (focus (show _ = _;first|exact k1 rfl|exact k2 rfl|(simp only [zz,y25,e_Li_Liiii_i,e_i,e_iiii,Nat.reduceAdd,Nat.reduceMul,Nat.reduceLeDiff,Nat.reduceEqDiff,tindexAddr,z5,Int.reduceToNat,Int.reduceLE,Int.reduceLT,Int.cast_ofNat_Int,tload,rowOf,partT,List.getElem?_map,h1,h98,h113,h115,h119,h120,h121,h122,h123,h125,h127,h128,h130]<;>exact rfl)|exact rfl)));(with_reducible refine TD.here ?_))|((with_reducible apply TX.drawn);(focus decide +kernel);(focus (simp only [zl]<;>exact rfl));(focus exact rfl);(try dsimp only))|fail)
                                  have T:=an h130 T
                                  exact lv T hr
                                · have T:=an h130 T
                                  refine wa_ T (g:=?_)
                                  exact lv T hr
                              · have T:=an h128 T
                                refine wa_ T (g:=?_)
                                exact lv T hr
                            · have T:=an h127 T
                              refine wa_ T (g:=?_)
                              rcases ifs hr with ⟨h131,hr⟩|⟨h131,hr⟩
                              · have T:=an h131 T
                                refine wA T (g:=?_)
                                apply TO.pop1 (wn T) (pop_eqs1 (X:=⟨[.int .i64 (v69),.int .i64 (v70)]⟩) (Y:=⟨[.int .i64 (0),.int .i64 (0)]⟩) rfl rfl rfl rfl rfl rfl rfl eqg36 eqs36 rfl)
                                repeat exact sd T
                                refine wa_ T (g:=?_)
                                exact lv T hr
                              · have T:=an h131 T
                                refine wa_ T (g:=?_)
                                exact lv T hr
                          · have T:=an h125 T
                            refine wa_ T (g:=?_)
                            exact lv T hr
                      · have T:=an h122 T
                        refine wA T (g:=?_)
                        obtain ⟨v79,h132,hr⟩:=bs hr
                        apply TO.cal (wn T) rfl goFn11 (Spec.ov (base_Within_spec h132) (by decide)) rfl rfl rfl
                        repeat exact sd T
                        refine wa_ T (g:=?_)
                        apply TO.pop1 (wn T) (pop_not rfl)
                        repeat exact sd T
                        refine wa_ T (g:=?_)
                        rcases ifs hr with ⟨h133,hr⟩|⟨h133,hr⟩
                        · have T:=an h133 T
                          refine wa_ T (g:=?_)
                          rcases ifs hr with ⟨h134,hr⟩|⟨h134,hr⟩
                          · have T:=an h134 T
                            refine wA T (g:=?_)
                            obtain ⟨⟨v80,v81⟩,h135,hr⟩:=bs hr
                            try dsimp only at hr
                            apply TD.cal (wn T) rfl goFn12 (Spec.ov (ref02_Arrived_spec h135) (by decide)) rfl rfl rfl
                            repeat exact sd T
                            refine wa_ T (g:=?_)
                            apply TD.pop1 (wn T) (pop_eqs1 (X:=⟨[.int .i64 (v69),.int .i64 (v70)]⟩) (Y:=⟨[.int .i64 (v80),.int .i64 (v81)]⟩) rfl rfl rfl rfl rfl rfl rfl eqg36 eqs36 rfl)
                            repeat exact sd T
                            refine wa_ T (g:=?_)
                            rcases ifs hr with ⟨h136,hr⟩|⟨h136,hr⟩
                            · repeat (first|(with_reducible first|refine mv ?_|refine TD.nil ?_)|((with_reducible first|apply TD.ia|apply TD.ld|apply TD.bin|apply TD.pk|apply TD.asg);(repeat (focus (show _ = _;first|exact k1 rfl|exact k2 rfl|(simp only [zz,y25,e_Li_Liiii_i,e_i,e_iiii,Nat.reduceAdd,Nat.reduceMul,Nat.reduceLeDiff,Nat.reduceEqDiff,tindexAddr,z5,Int.reduceToNat,Int.reduceLE,Int.reduceLT,Int.cast_ofNat_Int,tload,rowOf,partT,List.getElem?_map,h1,h98,h113,h115,h119,h120,h121,h122,h133,h134,h136]<;>exact rfl)|exact rfl)));(with_reducible refine TD.here ?_))|((with_reducible apply TX.drawn);(focus decide +kernel);(focus (simp only [zl]<;>exact rfl));(focus exact rfl);(try dsimp only))|fail)
                              have T:=an h136 T
                              exact lv T hr
                            · have T:=an h136 T
                              refine wa_ T (g:=?_)
                              exact lv T hr
                          · have T:=an h134 T
                            refine wa_ T (g:=?_)
                            exact lv T hr
                        · have T:=an h133 T
                          refine wa_ T (g:=?_)
                          rcases ifs hr with ⟨h137,hr⟩|⟨h137,hr⟩
                          · have T:=an h137 T
                            refine wA T (g:=?_)
                            apply TO.pop1 (wn T) (pop_eqs1 (X:=⟨[.int .i64 (v69),.int .i64 (v70)]⟩) (Y:=⟨[.int .i64 (0),.int .i64 (0)]⟩) rfl rfl rfl rfl rfl rfl rfl eqg36 eqs36 rfl)
                            repeat exact sd T
                            refine wa_ T (g:=?_)
                            exact lv T hr
                          · have T:=an h137 T
                            refine wa_ T (g:=?_)
                            exact lv T hr
                    · have T:=an h121 T
                      refine wa_ T (g:=?_)
                      exact lv T hr
              · as_aux_lemma =>
                  have T:=an h119 T
                  refine wc_ T (g:=?_)
                  rcases ifs hr with ⟨h138,hr⟩|⟨h138,hr⟩
                  · have T:=an h138 T
                    refine wa_ T (g:=?_)
                    rcases ifs hr with ⟨h139,hr⟩|⟨h139,hr⟩
                    · have T:=an h139 T
                      refine wa_ T (g:=?_)
                      exact lv T hr
                    · have T:=an h139 T
                      refine wA T (g:=?_)
                      obtain ⟨⟨v82,v83⟩,h140,hr⟩:=bs hr
                      try dsimp only at hr
                      apply TD.cal (wn T) rfl goFn10 (Spec.ov (ref02_GapOf_spec h140) (by decide)) rfl rfl rfl
                      repeat exact sd T
                      refine wa_ T (g:=?_)
                      apply TD.pop1 (wn T) (pop_eqs2 (X:=⟨[.int .i64 (v65),.int .i64 (v66)]⟩) (Y:=⟨[.int .i64 (v82),.int .i64 (v83)]⟩) rfl rfl rfl rfl rfl rfl rfl eqg31 eqs31 rfl)
                      repeat exact sd T
                      refine wa_ T (g:=?_)
                      rcases ifs hr with ⟨h141,hr⟩|⟨h141,hr⟩
                      · have T:=an h141 T
                        refine wA T (g:=?_)
                        obtain ⟨v84,h142,hr⟩:=bs hr
                        apply TO.cal (wn T) rfl goFn11 (Spec.ov (base_Within_spec h142) (by decide)) rfl rfl rfl
                        repeat exact sd T
                        refine wa_ T (g:=?_)
                        apply TO.pop1 (wn T) (pop_not rfl)
                        repeat exact sd T
                        refine wa_ T (g:=?_)
                        rcases ifs hr with ⟨h143,hr⟩|⟨h143,hr⟩
                        · have T:=an h143 T
                          refine wa_ T (g:=?_)
                          rcases ifs hr with ⟨h144,hr⟩|⟨h144,hr⟩
                          · have T:=an h144 T
                            refine wA T (g:=?_)
                            obtain ⟨⟨v85,v86⟩,h145,hr⟩:=bs hr
                            try dsimp only at hr
                            apply TD.cal (wn T) rfl goFn12 (Spec.ov (ref02_Arrived_spec h145) (by decide)) rfl rfl rfl
                            repeat exact sd T
                            refine wa_ T (g:=?_)
                            apply TD.pop1 (wn T) (pop_eqs1 (X:=⟨[.int .i64 (v69),.int .i64 (v70)]⟩) (Y:=⟨[.int .i64 (v85),.int .i64 (v86)]⟩) rfl rfl rfl rfl rfl rfl rfl eqg36 eqs36 rfl)
                            repeat exact sd T
                            refine wa_ T (g:=?_)
                            rcases ifs hr with ⟨h146,hr⟩|⟨h146,hr⟩
                            · repeat (first|(with_reducible first|refine mv ?_|refine TD.nil ?_)|((with_reducible first|apply TD.ia|apply TD.ld|apply TD.bin|apply TD.pk|apply TD.asg);(repeat (focus (show _ = _;first|exact k1 rfl|exact k2 rfl|(simp only [zz,y25,e_Li_Liiii_i,e_i,e_iiii,Nat.reduceAdd,Nat.reduceMul,Nat.reduceLeDiff,Nat.reduceEqDiff,tindexAddr,z5,Int.reduceToNat,Int.reduceLE,Int.reduceLT,Int.cast_ofNat_Int,tload,rowOf,partT,List.getElem?_map,h1,h98,h113,h115,h119,h138,h139,h141,h143,h144,h146]<;>exact rfl)|exact rfl)));(with_reducible refine TD.here ?_))|((with_reducible apply TX.drawn);(focus decide +kernel);(focus (simp only [zl]<;>exact rfl));(focus exact rfl);(try dsimp only))|fail)
                              have T:=an h146 T
                              exact lv T hr
                            · have T:=an h146 T
                              refine wa_ T (g:=?_)
                              exact lv T hr
                          · have T:=an h144 T
                            refine wa_ T (g:=?_)
                            exact lv T hr
                        · have T:=an h143 T
                          refine wa_ T (g:=?_)
                          rcases ifs hr with ⟨h147,hr⟩|⟨h147,hr⟩
                          · have T:=an h147 T
                            refine wA T (g:=?_)
                            apply TO.pop1 (wn T) (pop_eqs1 (X:=⟨[.int .i64 (v69),.int .i64 (v70)]⟩) (Y:=⟨[.int .i64 (0),.int .i64 (0)]⟩) rfl rfl rfl rfl rfl rfl rfl eqg36 eqs36 rfl)
                            repeat exact sd T
                            refine wa_ T (g:=?_)
                            exact lv T hr
                          · have T:=an h147 T
                            refine wa_ T (g:=?_)
                            exact lv T hr
                      · have T:=an h141 T
                        refine wa_ T (g:=?_)
                        exact lv T hr
                  · have T:=an h138 T
                    refine wA T (g:=?_)
                    obtain ⟨v87,h148,hr⟩:=bs hr
                    apply TO.cal (wn T) rfl goFn11 (Spec.ov (base_Within_spec h148) (by decide)) rfl rfl rfl
                    repeat exact sd T
                    refine wa_ T (g:=?_)
                    apply TO.pop1 (wn T) (pop_not rfl)
                    repeat exact sd T
                    refine wa_ T (g:=?_)
                    rcases ifs hr with ⟨h149,hr⟩|⟨h149,hr⟩
                    · have T:=an h149 T
                      refine wa_ T (g:=?_)
                      rcases ifs hr with ⟨h150,hr⟩|⟨h150,hr⟩
                      · have T:=an h150 T
                        refine wA T (g:=?_)
                        obtain ⟨⟨v88,v89⟩,h151,hr⟩:=bs hr
                        try dsimp only at hr
                        apply TD.cal (wn T) rfl goFn12 (Spec.ov (ref02_Arrived_spec h151) (by decide)) rfl rfl rfl
                        repeat exact sd T
                        refine wa_ T (g:=?_)
                        apply TD.pop1 (wn T) (pop_eqs1 (X:=⟨[.int .i64 (v69),.int .i64 (v70)]⟩) (Y:=⟨[.int .i64 (v88),.int .i64 (v89)]⟩) rfl rfl rfl rfl rfl rfl rfl eqg36 eqs36 rfl)
                        repeat exact sd T
                        refine wa_ T (g:=?_)
                        rcases ifs hr with ⟨h152,hr⟩|⟨h152,hr⟩
                        · repeat (first|(with_reducible first|refine mv ?_|refine TD.nil ?_)|((with_reducible first|apply TD.ia|apply TD.ld|apply TD.bin|apply TD.pk|apply TD.asg);(repeat (focus (show _ = _;first|exact k1 rfl|exact k2 rfl|(simp only [zz,y25,e_Li_Liiii_i,e_i,e_iiii,Nat.reduceAdd,Nat.reduceMul,Nat.reduceLeDiff,Nat.reduceEqDiff,tindexAddr,z5,Int.reduceToNat,Int.reduceLE,Int.reduceLT,Int.cast_ofNat_Int,tload,rowOf,partT,List.getElem?_map,h1,h98,h113,h115,h119,h138,h149,h150,h152]<;>exact rfl)|exact rfl)));(with_reducible refine TD.here ?_))|((with_reducible apply TX.drawn);(focus decide +kernel);(focus (simp only [zl]<;>exact rfl));(focus exact rfl);(try dsimp only))|fail)
                          have T:=an h152 T
                          exact lv T hr
                        · have T:=an h152 T
                          refine wa_ T (g:=?_)
                          exact lv T hr
                      · have T:=an h150 T
                        refine wa_ T (g:=?_)
                        exact lv T hr
                    · have T:=an h149 T
                      refine wa_ T (g:=?_)
                      rcases ifs hr with ⟨h153,hr⟩|⟨h153,hr⟩
                      · have T:=an h153 T
                        refine wA T (g:=?_)
                        apply TO.pop1 (wn T) (pop_eqs1 (X:=⟨[.int .i64 (v69),.int .i64 (v70)]⟩) (Y:=⟨[.int .i64 (0),.int .i64 (0)]⟩) rfl rfl rfl rfl rfl rfl rfl eqg36 eqs36 rfl)
                        repeat exact sd T
                        refine wa_ T (g:=?_)
                        exact lv T hr
                      · have T:=an h153 T
                        refine wa_ T (g:=?_)
                        exact lv T hr
          · have T:=an h113 T
            refine wa_ T (g:=?_)
            rcases ifs hr with ⟨h154,hr⟩|⟨h154,hr⟩
            · have T:=an h154 T
              refine wa_ T (g:=?_)
              rcases ifs hr with ⟨h155,hr⟩|⟨h155,hr⟩
              · have T:=an h155 T
                refine wa_ T (g:=?_)
                rcases ifs hr with ⟨h156,hr⟩|⟨h156,hr⟩
                · have T:=an h156 T
                  refine wA T (g:=?_)
                  apply TO.pop1 (wn T) (pop_eqs1 (X:=⟨[.int .i64 (v65),.int .i64 (v66)]⟩) (Y:=⟨[.int .i64 (0),.int .i64 (0)]⟩) rfl rfl rfl rfl rfl rfl rfl eqg31 eqs31 rfl)
                  repeat exact sd T
                  refine wa_ T (g:=?_)
                  rcases ifs hr with ⟨h157,hr⟩|⟨h157,hr⟩
                  · have T:=an h157 T
                    refine wA T (g:=?_)
                    apply TO.pop1 (wn T) (pop_eqs1 (X:=⟨[.int .i64 (v69),.int .i64 (v70)]⟩) (Y:=⟨[.int .i64 (0),.int .i64 (0)]⟩) rfl rfl rfl rfl rfl rfl rfl eqg36 eqs36 rfl)
                    repeat exact sd T
                    refine wa_ T (g:=?_)
                    exact lv T hr
                  · have T:=an h157 T
                    refine wa_ T (g:=?_)
                    exact lv T hr
                · have T:=an h156 T
                  refine wa_ T (g:=?_)
                  exact lv T hr
              · have T:=an h155 T
                refine wa_ T (g:=?_)
                exact lv T hr
            · have T:=an h154 T
              refine wc_ T (g:=?_)
              rcases ifs hr with ⟨h158,hr⟩|⟨h158,hr⟩
              · as_aux_lemma =>
                  have T:=an h158 T
                  refine wa_ T (g:=?_)
                  rcases ifs hr with ⟨h159,hr⟩|⟨h159,hr⟩
                  · have T:=an h159 T
                    refine wa_ T (g:=?_)
                    exact lv T hr
                  · have T:=an h159 T
                    refine wA T (g:=?_)
                    apply TD.pop1 (wn T) (pop_eqs2 (X:=⟨[.int .i64 (v65),.int .i64 (v66)]⟩) (Y:=⟨[.int .i64 (0),.int .i64 (0)]⟩) rfl rfl rfl rfl rfl rfl rfl eqg31 eqs31 rfl)
                    repeat exact sd T
                    refine wa_ T (g:=?_)
                    rcases ifs hr with ⟨h160,hr⟩|⟨h160,hr⟩
                    · have T:=an h160 T
                      refine wc_ T (g:=?_)
                      rcases ifs hr with ⟨h161,hr⟩|⟨h161,hr⟩
                      · have T:=an h161 T
                        refine wa_ T (g:=?_)
                        rcases ifs hr with ⟨h162,hr⟩|⟨h162,hr⟩
                        · have T:=an h162 T
                          refine wa_ T (g:=?_)
                          exact lv T hr
                        · have T:=an h162 T
                          refine wA T (g:=?_)
                          obtain ⟨⟨v90,v91⟩,h163,hr⟩:=bs hr
                          try dsimp only at hr
                          apply TD.cal (wn T) rfl goFn10 (Spec.ov (ref02_GapOf_spec h163) (by decide)) rfl rfl rfl
                          repeat exact sd T
                          refine wa_ T (g:=?_)
                          apply TD.pop1 (wn T) (pop_eqs2 (X:=⟨[.int .i64 (v65),.int .i64 (v66)]⟩) (Y:=⟨[.int .i64 (v90),.int .i64 (v91)]⟩) rfl rfl rfl rfl rfl rfl rfl eqg31 eqs31 rfl)
                          repeat exact sd T
                          refine wa_ T (g:=?_)
                          rcases ifs hr with ⟨h164,hr⟩|⟨h164,hr⟩
                          · have T:=an h164 T
                            refine wA T (g:=?_)
                            obtain ⟨v92,h165,hr⟩:=bs hr
                            apply TO.cal (wn T) rfl goFn11 (Spec.ov (base_Within_spec h165) (by decide)) rfl rfl rfl
                            repeat exact sd T
                            refine wa_ T (g:=?_)
                            apply TO.pop1 (wn T) (pop_not rfl)
                            repeat exact sd T
                            refine wa_ T (g:=?_)
                            rcases ifs hr with ⟨h166,hr⟩|⟨h166,hr⟩
                            · have T:=an h166 T
                              refine wa_ T (g:=?_)
                              rcases ifs hr with ⟨h167,hr⟩|⟨h167,hr⟩
                              · have T:=an h167 T
                                refine wA T (g:=?_)
                                obtain ⟨⟨v93,v94⟩,h168,hr⟩:=bs hr
                                try dsimp only at hr
                                apply TD.cal (wn T) rfl goFn12 (Spec.ov (ref02_Arrived_spec h168) (by decide)) rfl rfl rfl
                                repeat exact sd T
                                refine wa_ T (g:=?_)
                                apply TD.pop1 (wn T) (pop_eqs1 (X:=⟨[.int .i64 (v69),.int .i64 (v70)]⟩) (Y:=⟨[.int .i64 (v93),.int .i64 (v94)]⟩) rfl rfl rfl rfl rfl rfl rfl eqg36 eqs36 rfl)
                                repeat exact sd T
                                refine wa_ T (g:=?_)
                                rcases ifs hr with ⟨h169,hr⟩|⟨h169,hr⟩
                                · repeat (first|(with_reducible first|refine mv ?_|refine TD.nil ?_)|((with_reducible first|apply TD.ia|apply TD.ld|apply TD.bin|apply TD.pk|apply TD.asg);(repeat (focus (show _ = _;first|exact k1 rfl|exact k2 rfl|(simp only [zz,y25,e_Li_Liiii_i,e_i,e_iiii,Nat.reduceAdd,Nat.reduceMul,Nat.reduceLeDiff,Nat.reduceEqDiff,tindexAddr,z5,Int.reduceToNat,Int.reduceLE,Int.reduceLT,Int.cast_ofNat_Int,tload,rowOf,partT,List.getElem?_map,h1,h98,h113,h154,h158,h159,h160,h161,h162,h164,h166,h167,h169]<;>exact rfl)|exact rfl)));(with_reducible refine TD.here ?_))|((with_reducible apply TX.drawn);(focus decide +kernel);(focus (simp only [zl]<;>exact rfl));(focus exact rfl);(try dsimp only))|fail)
                                  have T:=an h169 T
                                  exact lv T hr
                                · have T:=an h169 T
                                  refine wa_ T (g:=?_)
                                  exact lv T hr
                              · have T:=an h167 T
                                refine wa_ T (g:=?_)
                                exact lv T hr
                            · have T:=an h166 T
                              refine wa_ T (g:=?_)
                              rcases ifs hr with ⟨h170,hr⟩|⟨h170,hr⟩
                              · have T:=an h170 T
                                refine wA T (g:=?_)
                                apply TO.pop1 (wn T) (pop_eqs1 (X:=⟨[.int .i64 (v69),.int .i64 (v70)]⟩) (Y:=⟨[.int .i64 (0),.int .i64 (0)]⟩) rfl rfl rfl rfl rfl rfl rfl eqg36 eqs36 rfl)
                                repeat exact sd T
                                refine wa_ T (g:=?_)
                                exact lv T hr
                              · have T:=an h170 T
                                refine wa_ T (g:=?_)
                                exact lv T hr
                          · have T:=an h164 T
                            refine wa_ T (g:=?_)
                            exact lv T hr
                      · have T:=an h161 T
                        refine wA T (g:=?_)
                        obtain ⟨v95,h171,hr⟩:=bs hr
                        apply TO.cal (wn T) rfl goFn11 (Spec.ov (base_Within_spec h171) (by decide)) rfl rfl rfl
                        repeat exact sd T
                        refine wa_ T (g:=?_)
                        apply TO.pop1 (wn T) (pop_not rfl)
                        repeat exact sd T
                        refine wa_ T (g:=?_)
                        rcases ifs hr with ⟨h172,hr⟩|⟨h172,hr⟩
                        · have T:=an h172 T
                          refine wa_ T (g:=?_)
                          rcases ifs hr with ⟨h173,hr⟩|⟨h173,hr⟩
                          · have T:=an h173 T
                            refine wA T (g:=?_)
                            obtain ⟨⟨v96,v97⟩,h174,hr⟩:=bs hr
                            try dsimp only at hr
                            apply TD.cal (wn T) rfl goFn12 (Spec.ov (ref02_Arrived_spec h174) (by decide)) rfl rfl rfl
                            repeat exact sd T
                            refine wa_ T (g:=?_)
                            apply TD.pop1 (wn T) (pop_eqs1 (X:=⟨[.int .i64 (v69),.int .i64 (v70)]⟩) (Y:=⟨[.int .i64 (v96),.int .i64 (v97)]⟩) rfl rfl rfl rfl rfl rfl rfl eqg36 eqs36 rfl)
                            repeat exact sd T
                            refine wa_ T (g:=?_)
                            rcases ifs hr with ⟨h175,hr⟩|⟨h175,hr⟩
                            · repeat (first|(with_reducible first|refine mv ?_|refine TD.nil ?_)|((with_reducible first|apply TD.ia|apply TD.ld|apply TD.bin|apply TD.pk|apply TD.asg);(repeat (focus (show _ = _;first|exact k1 rfl|exact k2 rfl|(simp only [zz,y25,e_Li_Liiii_i,e_i,e_iiii,Nat.reduceAdd,Nat.reduceMul,Nat.reduceLeDiff,Nat.reduceEqDiff,tindexAddr,z5,Int.reduceToNat,Int.reduceLE,Int.reduceLT,Int.cast_ofNat_Int,tload,rowOf,partT,List.getElem?_map,h1,h98,h113,h154,h158,h159,h160,h161,h172,h173,h175]<;>exact rfl)|exact rfl)));(with_reducible refine TD.here ?_))|((with_reducible apply TX.drawn);(focus decide +kernel);(focus (simp only [zl]<;>exact rfl));(focus exact rfl);(try dsimp only))|fail)
                              have T:=an h175 T
                              exact lv T hr
                            · have T:=an h175 T
                              refine wa_ T (g:=?_)
                              exact lv T hr
                          · have T:=an h173 T
                            refine wa_ T (g:=?_)
                            exact lv T hr
                        · have T:=an h172 T
                          refine wa_ T (g:=?_)
                          rcases ifs hr with ⟨h176,hr⟩|⟨h176,hr⟩
                          · have T:=an h176 T
                            refine wA T (g:=?_)
                            apply TO.pop1 (wn T) (pop_eqs1 (X:=⟨[.int .i64 (v69),.int .i64 (v70)]⟩) (Y:=⟨[.int .i64 (0),.int .i64 (0)]⟩) rfl rfl rfl rfl rfl rfl rfl eqg36 eqs36 rfl)
                            repeat exact sd T
                            refine wa_ T (g:=?_)
                            exact lv T hr
                          · have T:=an h176 T
                            refine wa_ T (g:=?_)
                            exact lv T hr
                    · have T:=an h160 T
                      refine wa_ T (g:=?_)
                      exact lv T hr
              · as_aux_lemma =>
                  have T:=an h158 T
                  refine wc_ T (g:=?_)
                  rcases ifs hr with ⟨h177,hr⟩|⟨h177,hr⟩
                  · have T:=an h177 T
                    refine wa_ T (g:=?_)
                    rcases ifs hr with ⟨h178,hr⟩|⟨h178,hr⟩
                    · have T:=an h178 T
                      refine wa_ T (g:=?_)
                      exact lv T hr
                    · have T:=an h178 T
                      refine wA T (g:=?_)
                      obtain ⟨⟨v98,v99⟩,h179,hr⟩:=bs hr
                      try dsimp only at hr
                      apply TD.cal (wn T) rfl goFn10 (Spec.ov (ref02_GapOf_spec h179) (by decide)) rfl rfl rfl
                      repeat exact sd T
                      refine wa_ T (g:=?_)
                      apply TD.pop1 (wn T) (pop_eqs2 (X:=⟨[.int .i64 (v65),.int .i64 (v66)]⟩) (Y:=⟨[.int .i64 (v98),.int .i64 (v99)]⟩) rfl rfl rfl rfl rfl rfl rfl eqg31 eqs31 rfl)
                      repeat exact sd T
                      refine wa_ T (g:=?_)
                      rcases ifs hr with ⟨h180,hr⟩|⟨h180,hr⟩
                      · have T:=an h180 T
                        refine wA T (g:=?_)
                        obtain ⟨v100,h181,hr⟩:=bs hr
                        apply TO.cal (wn T) rfl goFn11 (Spec.ov (base_Within_spec h181) (by decide)) rfl rfl rfl
                        repeat exact sd T
                        refine wa_ T (g:=?_)
                        apply TO.pop1 (wn T) (pop_not rfl)
                        repeat exact sd T
                        refine wa_ T (g:=?_)
                        rcases ifs hr with ⟨h182,hr⟩|⟨h182,hr⟩
                        · have T:=an h182 T
                          refine wa_ T (g:=?_)
                          rcases ifs hr with ⟨h183,hr⟩|⟨h183,hr⟩
                          · have T:=an h183 T
                            refine wA T (g:=?_)
                            obtain ⟨⟨v101,v102⟩,h184,hr⟩:=bs hr
                            try dsimp only at hr
                            apply TD.cal (wn T) rfl goFn12 (Spec.ov (ref02_Arrived_spec h184) (by decide)) rfl rfl rfl
                            repeat exact sd T
                            refine wa_ T (g:=?_)
                            apply TD.pop1 (wn T) (pop_eqs1 (X:=⟨[.int .i64 (v69),.int .i64 (v70)]⟩) (Y:=⟨[.int .i64 (v101),.int .i64 (v102)]⟩) rfl rfl rfl rfl rfl rfl rfl eqg36 eqs36 rfl)
                            repeat exact sd T
                            refine wa_ T (g:=?_)
                            rcases ifs hr with ⟨h185,hr⟩|⟨h185,hr⟩
                            · repeat (first|(with_reducible first|refine mv ?_|refine TD.nil ?_)|((with_reducible first|apply TD.ia|apply TD.ld|apply TD.bin|apply TD.pk|apply TD.asg);(repeat (focus (show _ = _;first|exact k1 rfl|exact k2 rfl|(simp only [zz,y25,e_Li_Liiii_i,e_i,e_iiii,Nat.reduceAdd,Nat.reduceMul,Nat.reduceLeDiff,Nat.reduceEqDiff,tindexAddr,z5,Int.reduceToNat,Int.reduceLE,Int.reduceLT,Int.cast_ofNat_Int,tload,rowOf,partT,List.getElem?_map,h1,h98,h113,h154,h158,h177,h178,h180,h182,h183,h185]<;>exact rfl)|exact rfl)));(with_reducible refine TD.here ?_))|((with_reducible apply TX.drawn);(focus decide +kernel);(focus (simp only [zl]<;>exact rfl));(focus exact rfl);(try dsimp only))|fail)
                              have T:=an h185 T
                              exact lv T hr
                            · have T:=an h185 T
                              refine wa_ T (g:=?_)
                              exact lv T hr
                          · have T:=an h183 T
                            refine wa_ T (g:=?_)
                            exact lv T hr
                        · have T:=an h182 T
                          refine wa_ T (g:=?_)
                          rcases ifs hr with ⟨h186,hr⟩|⟨h186,hr⟩
                          · have T:=an h186 T
                            refine wA T (g:=?_)
                            apply TO.pop1 (wn T) (pop_eqs1 (X:=⟨[.int .i64 (v69),.int .i64 (v70)]⟩) (Y:=⟨[.int .i64 (0),.int .i64 (0)]⟩) rfl rfl rfl rfl rfl rfl rfl eqg36 eqs36 rfl)
                            repeat exact sd T
                            refine wa_ T (g:=?_)
                            exact lv T hr
                          · have T:=an h186 T
                            refine wa_ T (g:=?_)
                            exact lv T hr
                      · have T:=an h180 T
                        refine wa_ T (g:=?_)
                        exact lv T hr
                  · have T:=an h177 T
                    refine wA T (g:=?_)
                    obtain ⟨v103,h187,hr⟩:=bs hr
                    apply TO.cal (wn T) rfl goFn11 (Spec.ov (base_Within_spec h187) (by decide)) rfl rfl rfl
                    repeat exact sd T
                    refine wa_ T (g:=?_)
                    apply TO.pop1 (wn T) (pop_not rfl)
                    repeat exact sd T
                    refine wa_ T (g:=?_)
                    rcases ifs hr with ⟨h188,hr⟩|⟨h188,hr⟩
                    · have T:=an h188 T
                      refine wa_ T (g:=?_)
                      rcases ifs hr with ⟨h189,hr⟩|⟨h189,hr⟩
                      · have T:=an h189 T
                        refine wA T (g:=?_)
                        obtain ⟨⟨v104,v105⟩,h190,hr⟩:=bs hr
                        try dsimp only at hr
                        apply TD.cal (wn T) rfl goFn12 (Spec.ov (ref02_Arrived_spec h190) (by decide)) rfl rfl rfl
                        repeat exact sd T
                        refine wa_ T (g:=?_)
                        apply TD.pop1 (wn T) (pop_eqs1 (X:=⟨[.int .i64 (v69),.int .i64 (v70)]⟩) (Y:=⟨[.int .i64 (v104),.int .i64 (v105)]⟩) rfl rfl rfl rfl rfl rfl rfl eqg36 eqs36 rfl)
                        repeat exact sd T
                        refine wa_ T (g:=?_)
                        rcases ifs hr with ⟨h191,hr⟩|⟨h191,hr⟩
                        · repeat (first|(with_reducible first|refine mv ?_|refine TD.nil ?_)|((with_reducible first|apply TD.ia|apply TD.ld|apply TD.bin|apply TD.pk|apply TD.asg);(repeat (focus (show _ = _;first|exact k1 rfl|exact k2 rfl|(simp only [zz,y25,e_Li_Liiii_i,e_i,e_iiii,Nat.reduceAdd,Nat.reduceMul,Nat.reduceLeDiff,Nat.reduceEqDiff,tindexAddr,z5,Int.reduceToNat,Int.reduceLE,Int.reduceLT,Int.cast_ofNat_Int,tload,rowOf,partT,List.getElem?_map,h1,h98,h113,h154,h158,h177,h188,h189,h191]<;>exact rfl)|exact rfl)));(with_reducible refine TD.here ?_))|((with_reducible apply TX.drawn);(focus decide +kernel);(focus (simp only [zl]<;>exact rfl));(focus exact rfl);(try dsimp only))|fail)
                          have T:=an h191 T
                          exact lv T hr
                        · have T:=an h191 T
                          refine wa_ T (g:=?_)
                          exact lv T hr
                      · have T:=an h189 T
                        refine wa_ T (g:=?_)
                        exact lv T hr
                    · have T:=an h188 T
                      refine wa_ T (g:=?_)
                      rcases ifs hr with ⟨h192,hr⟩|⟨h192,hr⟩
                      · have T:=an h192 T
                        refine wA T (g:=?_)
                        apply TO.pop1 (wn T) (pop_eqs1 (X:=⟨[.int .i64 (v69),.int .i64 (v70)]⟩) (Y:=⟨[.int .i64 (0),.int .i64 (0)]⟩) rfl rfl rfl rfl rfl rfl rfl eqg36 eqs36 rfl)
                        repeat exact sd T
                        refine wa_ T (g:=?_)
                        exact lv T hr
                      · have T:=an h192 T
                        refine wa_ T (g:=?_)
                        exact lv T hr
      · try dsimp only
        exact wk_ T [] rfl .nil

end Go.Rex
