/- Proofs that the program's functions do what these plain functions say. -/
import Derived.Test.YtbodidihhbejmaaGB
import Derived.Test.YtbodidihhbejmaaS
import Derived.Test.YtbodidihhbejmaaG1
set_option linter.unusedSimpArgs false
set_option linter.unusedVariables false
set_option linter.defProp false
namespace Go.Rex
open Go.Proofs
open Go Go.Rex Go.RowKit
set_option maxRecDepth 100000
set_option maxHeartbeats 200000
def y38:=an @ag49 <| an @cs49 <| an @ok49 <| an @so31 <| an @un105 <| an @un49 <| @wi64_0a1
theorem base_SameSamples_spec {v1 : (List (Nat × Nat))} {v2 : (List (Nat × Nat))} {v3 : Bool} (hr : base_SameSamples v1 v2 = some (v3)) : Spec (lim Try.prog) 15 [.list 1 (v1.map e_c),.list 1 (v2.map e_c)] ⟨[.v (.bool v3)],[]⟩:=by
  unfold base_SameSamples at hr
  have T:=an y38 <| @e_c.eq_1
  apply Spec.fn Try.func15 rfl
  focus (simp [Try.f15]<;>exact rfl)
  focus
    refine wc_ T (g:=?_)
    rcases ifs hr with ⟨h1,hr⟩|⟨h1,hr⟩
    · have T:=an h1 T
      refine wa_ T (g:=?_)
      cases hr
      refine ⟨.inr rfl,_,(ry T),?_⟩
      exact wk_ T [] rfl .nil
    · have T:=an h1 T
      refine wa_ T (g:=?_)
      obtain ⟨v23,h20,hr⟩:=bs hr
      refine TX.loopE (step:=base_SameSamples_l1 v1 v2) (x:=0) h20 (fun v4=>⟨.list 1 (v1.map e_c) :: .list 1 (v2.map e_c) :: .junk :: .junk :: .junk :: .v (.int .i64 v4) :: .junk :: .junk :: .junk :: .junk :: .junk :: .junk :: .junk :: .junk :: .junk :: .junk :: .junk :: .junk :: .junk :: .junk :: .junk :: .junk :: .junk :: .junk :: .junk :: .junk :: .junk :: .junk :: .junk :: [],[]⟩) (fun e=>match e with|(.inl _)=>(.ret,⟨.junk :: .junk :: .junk :: .junk :: .v (.bool false) :: .junk :: .junk :: .junk :: .junk :: .junk :: .junk :: .junk :: .junk :: .junk :: .junk :: .junk :: .junk :: .junk :: .junk :: .junk :: .junk :: .junk :: .junk :: .junk :: .junk :: .junk :: .junk :: .junk :: .junk :: [],[]⟩)|(.inr _)=>(.exit 0,⟨.junk :: .junk :: .junk :: .junk :: .junk :: .junk :: .junk :: .junk :: .junk :: .junk :: .junk :: .junk :: .junk :: .junk :: .junk :: .junk :: .junk :: .junk :: .junk :: .junk :: .junk :: .junk :: .junk :: .junk :: .junk :: .junk :: .junk :: .junk :: .junk :: [],[]⟩)) ?_ ?_ ?_ ?_
      · rintro v4 v0 hr
        dsimp only [base_SameSamples_l1] at hr
        try dsimp only
        refine wc_ T (g:=?_)
        rcases ifs hr with ⟨h11,hr⟩|⟨h11,hr⟩
        · have T:=an h11 T
          refine wa_ T (g:=?_)
          obtain ⟨⟨v14,v15⟩,h12,hr⟩:=bs hr
          try dsimp only at hr
          have T:=an (gx e_c h12) T
          refine wA T (g:=?_)
          obtain ⟨v16,h13,hr⟩:=bs hr
          obtain ⟨v17,h14,hr⟩:=bs hr
          apply TD.pop1 (wn T) (cvt_complex un49 un105 rfl h13 h14)
          repeat exact sd T
          refine wa_ T (g:=?_)
          obtain ⟨⟨v18,v19⟩,h15,hr⟩:=bs hr
          try dsimp only at hr
          have T:=an (gx e_c h15) T
          refine wA T (g:=?_)
          obtain ⟨v20,h16,hr⟩:=bs hr
          obtain ⟨v21,h17,hr⟩:=bs hr
          apply TD.pop1 (wn T) (cvt_complex un49 un105 rfl h16 h17)
          repeat exact sd T
          refine wa_ T (g:=?_)
          obtain ⟨v22,h18,hr⟩:=bs hr
          apply TD.cal (wn T) rfl goFn54 (base_SameBits_spec h18) rfl rfl rfl
          repeat exact sd T
          refine wa_ T (g:=?_)
          apply TD.pop1 (wn T) (pop_not rfl)
          repeat exact sd T
          refine wa_ T (g:=?_)
          rcases ifs hr with ⟨h19,hr⟩|⟨h19,hr⟩
          · have T:=an h19 T
            refine wa_ T (g:=?_)
            cases hr
            refine ⟨rfl,?_⟩
            exact wk_ T [] rfl .nil
          · have T:=an h19 T
            refine wa_ T (g:=?_)
            cases hr
            refine ⟨rfl,?_⟩
            exact wk_ T [] rfl .nil
        · have T:=an h11 T
          refine wa_ T (g:=?_)
          cases hr
          refine ⟨rfl,?_⟩
          exact wk_ T [] rfl .nil
      · intro e h;rcases e with _|e<;>cases h
      · try dsimp only
        rcases v23 with _|_
        · try dsimp only at hr
          try dsimp only
          refine wa_ T (g:=?_)
          cases hr
          refine ⟨.inr rfl,_,(ry T),?_⟩
          exact wk_ T [] rfl .nil
        · try dsimp only at hr
          try dsimp only
          refine wa_ T (g:=?_)
          cases hr
          refine ⟨.inr rfl,_,(ry T),?_⟩
          exact wk_ T [] rfl .nil
      · try dsimp only
        exact wk_ T [] rfl .nil
  rfl

end Go.Rex

namespace Go.Rex
open Go.Proofs
open Go Go.Rex Go.RowKit
set_option maxRecDepth 100000
theorem follows : Try.prog.follows .mixedOrders = true:=by decide +kernel
theorem awake_true : AwT Try.prog 7:=awT_of_ecall follows (k:=1000) (d:=50) (by decide +kernel)

end Go.Rex

namespace Go.Rex
open Go.Proofs
open Go Go.Rex Go.RowKit
set_option maxRecDepth 100000
set_option maxHeartbeats 4000000
theorem law04_PulseSweeps_law {v1 : (List (Nat × Nat))} {v2 : (List (Nat × Nat))} (hr : law04_PulseSweeps v1 v2 = some true) {Fz : Nat → Prop} {h : List Blk} {vs : List Value} (hfz : FZ Fz h) (hargs : VLs Fz h noL [.list 2 (v1.map e_ff), .list 2 (v2.map e_ff)] vs)
    {B lo : Nat} {D : Nat → Prop} {m : NMap} {w : World} {args' : List Value} (hrel : Rel B lo D m h w) (hlo : lo ≤ h.length) (hargs' : VRs D m vs args') : Calls Try.prog 4 ⟨args'⟩ w (fun e w'=>e = .returned (.bool true) ∧ Below w.heap.size w w'):=by
  unfold law04_PulseSweeps at hr
  have T:=@e_ff.eq_1
  refine law_tex follows awake_true Try.func4 rfl (tm0:=.list 2 (v1.map e_ff) :: .list 2 (v2.map e_ff) :: .junk :: .junk :: .junk :: .junk :: .junk :: .junk :: .junk :: .junk :: .junk :: .junk :: .junk :: .junk :: .junk :: .junk :: .junk :: .junk :: .junk :: .junk :: .junk :: .junk :: .junk :: .junk :: .junk :: .junk :: .junk :: .junk :: .junk :: .junk :: .junk :: .junk :: .junk :: .junk :: .junk :: .junk :: .junk :: .junk :: .junk :: .junk :: .junk :: .junk :: .junk :: .junk :: .junk :: .junk :: .junk :: .junk :: .junk :: .junk :: .junk :: .junk :: .junk :: .junk :: .junk :: .junk :: .junk :: .junk :: .junk :: .junk :: .junk :: .junk :: .junk :: .junk :: .junk :: .junk :: .junk :: .junk :: .junk :: .junk :: .junk :: .junk :: .junk :: []) (by simp [Try.f4]<;>exact rfl) ?_ hfz hargs hrel hlo hargs'
  refine wa_ T (g:=?_)
  apply TO.cal (wn T) rfl goFn7 Spec.awake rfl rfl rfl
  repeat exact sd T
  refine wa_ T (g:=?_)
  apply TO.pop1 (wn T) (pop_not rfl)
  repeat exact sd T
  refine wa_ T (g:=?_)
  obtain ⟨v4,h1,hr⟩:=bs hr
  apply TO.cal (wn T) rfl goFn8 (Spec.ov (law04_Few_spec h1) (by decide)) rfl rfl rfl
  repeat exact sd T
  refine wa_ T (g:=?_)
  apply TO.pop1 (wn T) (pop_not rfl)
  repeat exact sd T
  refine wa_ T (g:=?_)
  rcases ifs hr with ⟨h2,hr⟩|⟨h2,hr⟩
  · have T:=an h2 T
    refine wa_ T (g:=?_)
    obtain ⟨v5,h3,hr⟩:=bs hr
    apply TO.cal (wn T) rfl goFn8 (Spec.ov (law04_Few_spec h3) (by decide)) rfl rfl rfl
    repeat exact sd T
    refine wa_ T (g:=?_)
    apply TO.pop1 (wn T) (pop_not rfl)
    repeat exact sd T
    refine wa_ T (g:=?_)
    rcases ifs hr with ⟨h4,hr⟩|⟨h4,hr⟩
    · have T:=an h4 T
      refine wa_ T (g:=?_)
      obtain ⟨v6,h5,hr⟩:=bs hr
      apply TO.cal (wn T) rfl goFn10 (Spec.ov (law04_List_spec h5) (by decide)) rfl rfl rfl
      repeat exact sd T
      refine wa_ T (g:=?_)
      obtain ⟨v7,h6,hr⟩:=bs hr
      apply TO.cal (wn T) rfl goFn10 (Spec.ov (law04_List_spec h6) (by decide)) rfl rfl rfl
      repeat exact sd T
      refine wa_ T (g:=?_)
      obtain ⟨⟨v8,v9⟩,h7,hr⟩:=bs hr
      try dsimp only at hr
      apply TO.lok (wn T) rfl goFn16 (Spec.ov (pulse_Swept_spec h7) (by decide)) (vw T) rfl rfl (by simp [clTB,cl,e_ff,e_c,e_ii,e_i])
      repeat exact sd T
      refine wa_ T (g:=?_)
      obtain ⟨v10,h8,hr⟩:=bs hr
      apply TO.cal (wn T) rfl goFn10 (Spec.ov (law04_List_spec h8) (by decide)) rfl rfl rfl
      repeat exact sd T
      refine wa_ T (g:=?_)
      obtain ⟨v11,h9,hr⟩:=bs hr
      apply TO.cal (wn T) rfl goFn10 (Spec.ov (law04_List_spec h9) (by decide)) rfl rfl rfl
      repeat exact sd T
      refine wa_ T (g:=?_)
      obtain ⟨⟨v12,v13⟩,h10,hr⟩:=bs hr
      try dsimp only at hr
      apply TO.lok (wn T) rfl goFn17 (Spec.ov (pulse_Divided_spec h10) (by decide)) (vw T) rfl rfl (by simp [clTB,cl,e_ff,e_c,e_ii,e_i])
      repeat exact sd T
      refine wa_ T (g:=?_)
      obtain ⟨v14,h11,hr⟩:=bs hr
      apply TO.cal (wn T) rfl goFn10 (Spec.ov (law04_List_spec h11) (by decide)) rfl rfl rfl
      repeat exact sd T
      refine wa_ T (g:=?_)
      obtain ⟨v15,h12,hr⟩:=bs hr
      apply TO.cal (wn T) rfl goFn10 (Spec.ov (law04_List_spec h12) (by decide)) rfl rfl rfl
      repeat exact sd T
      refine wa_ T (g:=?_)
      obtain ⟨⟨v16,v17⟩,h13,hr⟩:=bs hr
      try dsimp only at hr
      apply TO.lok (wn T) rfl goFn18 (Spec.ov (ref04_Swept_spec h13) (by decide)) (vw T) rfl rfl (by simp [clTB,cl,e_ff,e_c,e_ii,e_i])
      repeat exact sd T
      refine wa_ T (g:=?_)
      obtain ⟨v18,h14,hr⟩:=bs hr
      apply TO.cal (wn T) rfl goFn10 (Spec.ov (law04_List_spec h14) (by decide)) rfl rfl rfl
      repeat exact sd T
      refine wa_ T (g:=?_)
      obtain ⟨v19,h15,hr⟩:=bs hr
      apply TO.cal (wn T) rfl goFn10 (Spec.ov (law04_List_spec h15) (by decide)) rfl rfl rfl
      repeat exact sd T
      refine wa_ T (g:=?_)
      obtain ⟨⟨v20,v21⟩,h16,hr⟩:=bs hr
      try dsimp only at hr
      apply TO.lok (wn T) rfl goFn19 (Spec.ov (ref04_Divided_spec h16) (by decide)) (vw T) rfl rfl (by simp [clTB,cl,e_ff,e_c,e_ii,e_i])
      repeat exact sd T
      refine wa_ T (g:=?_)
      rcases ifs hr with ⟨h17,hr⟩|⟨h17,hr⟩
      · have T:=an h17 T
        refine wa_ T (g:=?_)
        obtain ⟨v22,h18,hr⟩:=bs hr
        apply TO.lok (wn T) rfl goFn15 (Spec.ov (base_SameSamples_spec h18) (by decide)) (vw T) rfl rfl (by simp [clTB,cl,e_ff,e_c,e_ii,e_i])
        repeat exact sd T
        refine wa_ T (g:=?_)
        rcases ifs hr with ⟨h19,hr⟩|⟨h19,hr⟩
        · have T:=an h19 T
          refine wa_ T (g:=?_)
          rcases ifs hr with ⟨h20,hr⟩|⟨h20,hr⟩
          · have T:=an h20 T
            refine wa_ T (g:=?_)
            obtain ⟨v23,h21,hr⟩:=bs hr
            apply TO.lok (wn T) rfl goFn15 (Spec.ov (base_SameSamples_spec h21) (by decide)) (vw T) rfl rfl (by simp [clTB,cl,e_ff,e_c,e_ii,e_i])
            repeat exact sd T
            refine wa_ T (g:=?_)
            exact lv T hr
          · have T:=an h20 T
            refine wa_ T (g:=?_)
            exact lv T hr
        · have T:=an h19 T
          refine wa_ T (g:=?_)
          exact lv T hr
      · have T:=an h17 T
        refine wa_ T (g:=?_)
        exact lv T hr
    · have T:=an h4 T
      refine wa_ T (g:=?_)
      exact lv T hr
  · have T:=an h2 T
    refine wa_ T (g:=?_)
    exact lv T hr

end Go.Rex
