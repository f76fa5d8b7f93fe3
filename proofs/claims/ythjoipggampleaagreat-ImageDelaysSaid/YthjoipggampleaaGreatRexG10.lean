/- An executor of the program's functions on trees of values, proved sound. -/
import Derived.Test.YthjoipggampleaaGreatRexG9
import Derived.Test.YthjoipggampleaaGreatRexG5
set_option linter.unusedSimpArgs false
set_option linter.unusedVariables false
set_option linter.defProp false
namespace Go.Rex
open Go.RowKit
/-! ### what an execution does not say to have written is as it was -/
def Olds (h h' : List Blk) (w : Option Nat) : Prop:=h.length ≤ h'.length ∧ ∀ m : Nat,m < h.length → wge w (m + 1) = true → h'[m]? = h[m]?
theorem Olds.refl (h : List Blk) (w : Option Nat) : Olds h h w:=⟨Nat.le_refl _,fun _ _ _=>rfl⟩
theorem Olds.trans {a b c : List Blk} {w w' : Option Nat} (x : Olds a b w) (y : Olds b c w') : Olds a c (wmin w w') :=
  ⟨Nat.le_trans x.1 y.1,fun m h hw=>(y.2 m (Nat.lt_of_lt_of_le h x.1) (wge_both hw).2).trans (x.2 m h (wge_both hw).1)⟩
theorem Olds.app (h t : List Blk) (w : Option Nat) : Olds h (h ++ t) w:=⟨by simp,fun m hm _=>List.getElem?_append_left hm⟩
theorem Olds.set {h : List Blk} {n : Nat} {b : Blk} : Olds h (h.set n b) (some n) :=
  ⟨by simp,fun m _ hw=>by rw [wge_s] at hw;have:=of_decide_eq_true hw;exact List.getElem?_set_ne (by omega)⟩
theorem Olds.less {a b : List Blk} {w w' : Option Nat} (x : Olds a b w) (hw : ∀ m,wge w' (m + 1) = true → wge w (m + 1) = true) : Olds a b w':=⟨x.1,fun m h h2=>x.2 m h (hw m h2)⟩
theorem Olds.none {a b : List Blk} {w : Option Nat} (x : Olds a b none) : Olds a b w:=x.less fun _ _=>rfl
theorem writeBlk_olds {h h' : List Blk} {n o : Nat} {vs : List Value} (hw : writeBlk h n o vs = some h') : Olds h h' (some n):=by
  unfold writeBlk at hw
  split at hw
  · rename_i es c hn
    split at hw
    · obtain rfl:=Option.some.inj hw
      exact Olds.set
    · cases hw
  · cases hw
section
variable {P : Program} {C : Ctx}
theorem storeV_olds {t : TypeId} {h h' : List Blk} {n o : Nat} {v : Value} (hw : storeV P t h n o v = some h') : Olds h h' (some n):=by
  unfold storeV at hw
  split at hw
  · split at hw
    · exact writeBlk_olds hw
    · cases hw
  · cases hw
theorem appendZ_olds {i : TypeInfo} {t1 : Option TypeId} {s x v : Value} {h h' : List Blk} {w : Option Nat} (hw : appendZ P i t1 s x h = some (v,h',w)) : Olds h h' w:=by
  unfold appendZ at hw
  repeat' split at hw
  all_goals first
    | cases hw;done
    | (simp only [Option.some.injEq,Prod.mk.injEq] at hw;obtain ⟨-,rfl,-⟩:=hw;exact Olds.app _ _ _)
theorem appendV_olds {tys : Array TypeId} {s x v : Value} {h h' : List Blk} {w : Option Nat} (hw : appendV P tys s x h = some (v,h',w)) : Olds h h' w:=by
  unfold appendV at hw
  repeat' split at hw
  all_goals first
    | cases hw;done
    | exact appendZ_olds hw
    | (simp only [Option.some.injEq,Prod.mk.injEq] at hw;obtain ⟨-,rfl,rfl⟩:=hw;first|exact Olds.refl _ _|exact Olds.app _ _ _|skip)
    | (rw [Option.map_eq_some_iff] at hw;obtain ⟨a,ha,e⟩:=hw;simp only [Prod.mk.injEq] at e;obtain ⟨-,rfl,rfl⟩:=e;exact writeBlk_olds ha)
  all_goals exact Olds.set.trans (Olds.app _ _ .none)
theorem copyV_olds {tys : Array TypeId} {s x v : Value} {h h' : List Blk} {w : Option Nat} (hw : copyV P tys s x h = some (v,h',w)) : Olds h h' w:=by
  unfold copyV at hw
  repeat' split at hw
  all_goals first
    | cases hw;done
    | (simp only [Option.some.injEq,Prod.mk.injEq] at hw;obtain ⟨-,rfl,-⟩:=hw;exact Olds.refl _ _)
    | (rw [Option.map_eq_some_iff] at hw;obtain ⟨a,ha,e⟩:=hw;simp only [Prod.mk.injEq] at e;obtain ⟨-,rfl,rfl⟩:=e;first|exact writeBlk_olds ha|exact Olds.refl _ _)
theorem newH_olds {r : Option (Value × List Blk)} {v : Value} {h h' : List Blk} {w : Option Nat} (hr : ∀ v h',r = some (v,h') → Olds h h' .none) (hw : newH r = some (v,h',w)) : Olds h h' w:=by
  unfold newH at hw
  rw [Option.map_eq_some_iff] at hw
  obtain ⟨⟨v1,h1⟩,ha,e⟩:=hw
  simp only [Prod.mk.injEq] at e
  obtain ⟨-,rfl,rfl⟩:=e
  exact hr _ _ ha
theorem buildSliceV_olds {t : TypeId} {len : Nat} {ps : Array (Nat × Value)} {h h' : List Blk} {v : Value} (hw : buildSliceV P t len ps h = some (v,h')) : Olds h h' .none:=by
  unfold buildSliceV at hw
  repeat' split at hw
  all_goals first
    | cases hw;done
    | skip
  rw [Option.bind_eq_some_iff] at hw
  obtain ⟨c,-,hw⟩:=hw
  split at hw
  · simp only [Option.some.injEq,Prod.mk.injEq] at hw
    obtain ⟨-,rfl⟩:=hw
    exact Olds.app _ _ _
  · cases hw
theorem makeSliceV_olds {t : TypeId} {l c v : Value} {h h' : List Blk} (hw : makeSliceV P t l c h = some (v,h')) : Olds h h' .none:=by
  unfold makeSliceV at hw
  repeat' split at hw
  all_goals first
    | cases hw;done
    | (simp only [Option.some.injEq,Prod.mk.injEq] at hw;obtain ⟨-,rfl⟩:=hw;exact Olds.app _ _ _)
theorem mapSetV_olds {t : TypeId} {x k u : Value} {h h' : List Blk} {n : Nat} (hw : mapSetV P t x k u h = some (h',n)) : Olds h h' (some n):=by
  unfold mapSetV at hw
  split at hw
  · split at hw
    · split at hw
      · split at hw
        · rename_i hn
          skip
          repeat' split at hw
          all_goals first
            | cases hw;done
            | (simp only [Option.some.injEq,Prod.mk.injEq] at hw;obtain ⟨rfl,rfl⟩:=hw;exact Olds.set)
        · cases hw
      · cases hw
    · cases hw
  · cases hw
theorem strBytesV_olds {src dst : TypeId} {x : Value} {h h' : List Blk} {v : Value} (hw : strBytesV P src dst x h = some (v,h')) : Olds h h' .none:=by
  unfold strBytesV at hw
  repeat' split at hw
  all_goals first
    | cases hw;done
    | (simp only [Option.some.injEq,Prod.mk.injEq] at hw;obtain ⟨-,rfl⟩:=hw;exact Olds.app _ _ _)
theorem convV_olds {src dst : TypeId} {x : Value} {h h' : List Blk} {v : Value} (hw : convV P src dst x h = some (v,h')) : Olds h h' .none:=by
  unfold convV at hw
  split at hw
  · rename_i r h1
    obtain rfl:=Option.some.inj hw
    exact strBytesV_olds h1
  · rw [Option.map_eq_some_iff] at hw
    obtain ⟨a,ha,e⟩:=hw
    simp only [Prod.mk.injEq] at e
    obtain ⟨-,rfl⟩:=e
    exact Olds.refl _ _
theorem hop_olds {ρ : Operand → Value} {o : Oper} {h h' : List Blk} {v : Value} {w : Option Nat} (hw : hop P ρ o h = some (v,h',w)) : Olds h h' w:=by
  unfold hop at hw
  split at hw
  · repeat' split at hw
    all_goals first
      | cases hw;done
      | (simp only [Option.some.injEq,Prod.mk.injEq] at hw;obtain ⟨-,rfl,-⟩:=hw;exact Olds.app _ _ _)
  · simp only [Option.some.injEq,Prod.mk.injEq] at hw;obtain ⟨-,rfl,-⟩:=hw;exact Olds.app _ _ _
  · exact newH_olds (fun _ _=>buildSliceV_olds) hw
  · exact newH_olds (fun _ _=>makeSliceV_olds) hw
  · split at hw
    · rw [Option.map_eq_some_iff] at hw;obtain ⟨a,ha,e⟩:=hw;simp only [Prod.mk.injEq] at e;obtain ⟨-,rfl,rfl⟩:=e;exact Olds.refl _ _
    · cases hw
  · split at hw
    · rw [Option.map_eq_some_iff] at hw;obtain ⟨a,ha,e⟩:=hw;simp only [Prod.mk.injEq] at e;obtain ⟨-,rfl,rfl⟩:=e;exact storeV_olds ha
    · cases hw
  · unfold bhop at hw
    repeat' split at hw
    all_goals first
      | cases hw;done
      | exact appendV_olds hw
      | exact copyV_olds hw
  · repeat' split at hw
    all_goals first
      | cases hw;done
      | (rw [Option.map_eq_some_iff] at hw;obtain ⟨a,ha,e⟩:=hw;simp only [Prod.mk.injEq] at e;obtain ⟨-,rfl,rfl⟩:=e;exact Olds.refl _ _)
  · rw [Option.map_eq_some_iff] at hw;obtain ⟨a,ha,e⟩:=hw;simp only [Prod.mk.injEq] at e;obtain ⟨-,rfl,rfl⟩:=e;exact Olds.refl _ _
  · split at hw
    · simp only [Option.some.injEq,Prod.mk.injEq] at hw;obtain ⟨-,rfl,-⟩:=hw;exact Olds.app _ _ _
    · cases hw
  · rw [Option.map_eq_some_iff] at hw;obtain ⟨a,ha,e⟩:=hw;simp only [Prod.mk.injEq] at e;obtain ⟨-,rfl,rfl⟩:=e;exact Olds.refl _ _
  · rw [Option.map_eq_some_iff] at hw;obtain ⟨⟨a,b⟩,ha,e⟩:=hw;simp only [Prod.mk.injEq] at e;obtain ⟨-,rfl,rfl⟩:=e;exact mapSetV_olds ha
  · rw [Option.map_eq_some_iff] at hw;obtain ⟨⟨a,b⟩,ha,e⟩:=hw;simp only [Prod.mk.injEq] at e;obtain ⟨-,rfl,rfl⟩:=e;exact mapSetV_olds ha
  · exact newH_olds (fun _ _=>convV_olds) hw
  · cases hw
structure COlds (C : Ctx) : Prop where
  call : ∀ {f args h v h' w},C.call f args h = some (v,h',w) → Olds h h' w
  round : ∀ {l args h v h' w},C.round l args h = some (v,h',w) → Olds h h' w
theorem xop_olds (hC : COlds C) {ρ : Operand → Value} {o : Oper} {h h' : List Blk} {v : Value} {w : Option Nat} (hw : xop C P ρ o h = some (v,h',w)) : Olds h h' w:=by
  unfold xop at hw
  split at hw
  · rename_i r hr
    obtain rfl:=Option.some.inj hw
    exact hop_olds hr
  · split at hw
    · unfold xcall at hw
      repeat' split at hw
      all_goals first
        | cases hw;done
        | exact hC.call hw
        | exact hC.round hw
        | (rw [Option.map_eq_some_iff] at hw;obtain ⟨a,ha,e⟩:=hw;simp only [Prod.mk.injEq] at e;obtain ⟨-,rfl,rfl⟩:=e;exact Olds.refl _ _)
    · cases hw
theorem runOps_olds (hC : COlds C) {ops : Array Oper} : ∀ (l : List Oper) {tm tm' : List Value} {h h' : List Blk} {w : Option Nat},runOps C P ops l tm h = some (tm',h',w) → Olds h h' w
  | [],tm,tm',h,h',w,hw=>by
    simp only [runOps,Option.some.injEq,Prod.mk.injEq] at hw
    obtain ⟨-,rfl,-⟩:=hw
    exact Olds.refl _ _
  | o :: l,tm,tm',h,h',w,hw=>by
    simp only [runOps] at hw
    split at hw
    · split at hw
      · exact runOps_olds hC l hw
      · split at hw
        · rename_i hx
          rw [Option.map_eq_some_iff] at hw;obtain ⟨⟨a,b,c⟩,ha,e⟩:=hw;simp only [Prod.mk.injEq] at e;obtain ⟨-,rfl,rfl⟩:=e
          exact (xop_olds hC hx).trans (runOps_olds hC l ha)
        · cases hw
    · exact runOps_olds hC l hw
theorem drawStep_olds (hC : COlds C) {ops : Array Oper} {m i : Nat} {o : Oper} {s s' : Dr} (hw : drawStep C P ops m i o s = some s') {h : List Blk} (h0 : Olds h s.h s.wr) : Olds h s'.h s'.wr:=by
  unfold drawStep at hw
  split at hw
  · split at hw
    · obtain rfl:=Option.some.inj hw;exact h0
    · unfold drawHeap at hw
      split at hw
      · rename_i hx
        split at hw
        · split at hw
          · obtain rfl:=Option.some.inj hw;exact h0
          · obtain rfl:=Option.some.inj hw
            exact ⟨by simp;have:=h0.1;omega,fun m hm hw=>by simp only;rw [List.getElem?_append_left (Nat.lt_of_lt_of_le hm h0.1)];exact h0.2 m hm hw⟩
        · split at hw
          · obtain rfl:=Option.some.inj hw;exact h0.trans (xop_olds hC hx)
          · cases hw
      · cases hw
  · obtain rfl:=Option.some.inj hw;exact h0
theorem drawAll_olds (hC : COlds C) {ops : Array Oper} {ms : List Nat} {h : List Blk} : ∀ (l : List Oper) {i : Nat} {s s' : Dr},drawAll C P ops ms l i s = some s' → Olds h s.h s.wr → Olds h s'.h s'.wr
  | [],i,s,s',hw,h0=>by
    simp only [drawAll,Option.some.injEq] at hw
    subst hw
    exact h0
  | o :: l,i,s,s',hw,h0=>by
    simp only [drawAll] at hw
    split at hw
    · rename_i h1
      exact drawAll_olds hC l hw (drawStep_olds hC h1 h0)
    · cases hw
theorem freeStep_olds (hC : COlds C) {ops : Array Oper} {ms : List Nat} {m i : Nat} {o : Oper} {s s' : Fr} (hw : freeStep C P ops ms m i o s = some s') {h : List Blk} (h0 : Olds h s.h s.wr) : Olds h s'.h s'.wr:=by
  unfold freeStep at hw
  split at hw
  · split at hw
    · obtain rfl:=Option.some.inj hw;exact h0
    · unfold freeHeap at hw
      split at hw
      · rename_i hx
        split at hw
        · split at hw
          · rename_i ht
            obtain rfl:=Option.some.inj hw
            obtain ⟨e1,t,e2,-⟩:=hop_mk ht (Free.xop_hop ht hx)
            subst e2
            exact ⟨by simp;have:=h0.1;omega,fun m hm hw=>by simp only;rw [List.getElem?_append_left (Nat.lt_of_lt_of_le hm h0.1)];exact h0.2 m hm hw⟩
          · rename_i n ht
            split at hw
            · obtain rfl:=Option.some.inj hw
              obtain ⟨nb,e2,-⟩:=hop_rd ht (Free.xop_hop ht hx)
              subst e2
              exact ⟨by simp;have:=h0.1;omega,fun m hm hw=>by simp only;rw [List.getElem?_append_left (Nat.lt_of_lt_of_le hm h0.1)];exact h0.2 m hm hw⟩
            · cases hw
          · split at hw
            · obtain rfl:=Option.some.inj hw;exact h0.trans (xop_olds hC hx)
            · cases hw
          · split at hw
            · obtain rfl:=Option.some.inj hw;exact h0.trans (xop_olds hC hx)
            · cases hw
          · split at hw
            · obtain rfl:=Option.some.inj hw
              exact ⟨by simp;have:=h0.1;omega,fun m hm hw=>by simp only;rw [List.getElem?_append_left (Nat.lt_of_lt_of_le hm h0.1)];exact h0.2 m hm hw⟩
            · split at hw
              · obtain rfl:=Option.some.inj hw;exact h0.trans (xop_olds hC hx)
              · cases hw
        · cases hw
      · cases hw
  · obtain rfl:=Option.some.inj hw;exact h0
theorem freeAll_olds (hC : COlds C) {ops : Array Oper} {ms : List Nat} {h : List Blk} : ∀ (l : List Oper) {i : Nat} {s s' : Fr},freeAll C P ops ms l i s = some s' → Olds h s.h s.wr → Olds h s'.h s'.wr
  | [],i,s,s',hw,h0=>by
    simp only [freeAll,Option.some.injEq] at hw
    subst hw
    exact h0
  | o :: l,i,s,s',hw,h0=>by
    simp only [freeAll] at hw
    split at hw
    · rename_i h1
      exact freeAll_olds hC l hw (freeStep_olds hC h1 h0)
    · cases hw
theorem runDraw_olds (hC : COlds C) {ops : Array Oper} {tm tm' : List Value} {h h' : List Blk} {w : Option Nat} (hw : runDraw C P ops tm h = some (tm',h',w)) : Olds h h' w:=by
  unfold runDraw at hw
  split at hw
  · unfold runFree at hw
    split at hw
    · rw [Option.map_eq_some_iff] at hw;obtain ⟨a,ha,e⟩:=hw;simp only [Prod.mk.injEq] at e;obtain ⟨-,rfl,rfl⟩:=e
      exact freeAll_olds hC _ ha (Olds.refl _ _)
    · cases hw
  · unfold runDraw1 at hw
    split at hw
    · rw [Option.map_eq_some_iff] at hw;obtain ⟨a,ha,e⟩:=hw;simp only [Prod.mk.injEq] at e;obtain ⟨-,rfl,rfl⟩:=e
      exact drawAll_olds hC _ ha (Olds.refl _ _)
    · cases hw
theorem runRange_olds (hC : COlds C) {ro : Option Nat} {g : Operand} {ps : Array Tmp} {as body : Code} {a a' : AS} {h h' : List Blk} {e : Exit} {w : Option Nat} (hw : runRange C P ro g ps as body a h = some (e,a',h',w)) : Olds h h' w:=by
  unfold runRange at hw
  repeat' split at hw
  all_goals first
    | cases hw;done
    | skip
  rename_i h1 d mark hs _ v h2 w2 hc
  have h01 : Olds h h1 .none:=by
    unfold rangeStart at hs
    split at hs
    · simp only [Option.some.injEq,Prod.mk.injEq] at hs
      obtain ⟨rfl,-,-⟩:=hs
      exact Olds.app _ _ _
    · split at hs
      · simp only [Option.some.injEq,Prod.mk.injEq] at hs
        obtain ⟨rfl,-,-⟩:=hs
        exact Olds.refl _ _
      · cases hs
  have k2 : Olds h h2 w2:=(h01.trans ((Olds.app h1 _ .none).trans (hC.call hc)))
  have k3 : Olds h (h2.set h1.length .dead) w2:=⟨by simp;exact k2.1,fun m hm hw=>by rw [List.getElem?_set_ne (by have:=h01.1;omega)];exact k2.2 m hm hw⟩
  unfold rangeEnd at hw
  split at hw
  · repeat' split at hw
    all_goals first
      | cases hw;done
      | (simp only [Option.some.injEq,Prod.mk.injEq] at hw;obtain ⟨-,-,rfl,rfl⟩:=hw;exact k3)
  · cases hw
theorem exec_olds (hC : COlds C) {ro : Option Nat} : ∀ (k : Nat) (c : Code) {a a' : AS} {h h' : List Blk} {e : Exit} {w : Option Nat},exec C P ro k c a h = some (e,a',h',w) → Olds h h' w
  | 0,_,_,_,_,_,_,_,hw=>by simp [exec] at hw
  | k + 1,c,a,a',h,h',e,w,hw=>by
    cases c with
    | skip=>simp only [exec,Option.some.injEq,Prod.mk.injEq] at hw;obtain ⟨-,-,rfl,-⟩:=hw;exact Olds.refl _ _
    | label _=>simp only [exec,Option.some.injEq,Prod.mk.injEq] at hw;obtain ⟨-,-,rfl,-⟩:=hw;exact Olds.refl _ _
    | exit _=>simp only [exec,Option.some.injEq,Prod.mk.injEq] at hw;obtain ⟨-,-,rfl,-⟩:=hw;exact Olds.refl _ _
    | ret=>simp only [exec,Option.some.injEq,Prod.mk.injEq] at hw;obtain ⟨-,-,rfl,-⟩:=hw;exact Olds.refl _ _
    | seq x y =>
      simp only [exec] at hw
      split at hw
      · cases hw
      · rename_i e1 a1 h1 w1 hx
        have i1:=exec_olds hC k x hx
        split at hw
        · rw [Option.map_eq_some_iff] at hw;obtain ⟨⟨e2,a2,h2,w2⟩,ha,ee⟩:=hw;simp only [Prod.mk.injEq] at ee;obtain ⟨-,-,rfl,rfl⟩:=ee
          exact i1.trans (exec_olds hC k y ha)
        · simp only [Option.some.injEq,Prod.mk.injEq] at hw;obtain ⟨-,-,rfl,rfl⟩:=hw;exact i1
    | cond g x y =>
      simp only [exec] at hw
      repeat' split at hw
      all_goals first
        | cases hw;done
        | exact exec_olds hC k _ hw
    | block id b =>
      simp only [exec] at hw
      split at hw
      · cases hw
      · rename_i e1 a1 h1 w1 hx
        have i1:=exec_olds hC k b hx
        repeat' split at hw
        all_goals (simp only [Option.some.injEq,Prod.mk.injEq] at hw;obtain ⟨-,-,rfl,rfl⟩:=hw;exact i1)
    | loop b =>
      simp only [exec] at hw
      split at hw
      · cases hw
      · rename_i e1 a1 h1 w1 hx
        have i1:=exec_olds hC k b hx
        split at hw
        · rw [Option.map_eq_some_iff] at hw;obtain ⟨⟨e2,a2,h2,w2⟩,ha,ee⟩:=hw;simp only [Prod.mk.injEq] at ee;obtain ⟨-,-,rfl,rfl⟩:=ee
          exact i1.trans (exec_olds hC k (.loop b) ha)
        · simp only [Option.some.injEq,Prod.mk.injEq] at hw;obtain ⟨-,-,rfl,rfl⟩:=hw;exact i1
    | region id ops d =>
      simp only [exec,liftE] at hw
      repeat' split at hw
      all_goals first
        | cases hw;done
        | skip
      all_goals (rw [Option.map_eq_some_iff] at hw;obtain ⟨⟨t2,h2,w2⟩,ha,ee⟩:=hw;simp only [Prod.mk.injEq] at ee;obtain ⟨-,-,rfl,rfl⟩:=ee;first|exact runDraw_olds hC ha|exact runOps_olds hC _ ha)
    | rangeFunc g ps as b=>simp only [exec] at hw;exact runRange_olds hC hw
    | _=>simp [exec] at hw
theorem takeDefers_olds : ∀ (ds : List Nat) {h h' : List Blk} {w : Option Nat},takeDefers ds h = some (h',w) → Olds h h' w
  | [],h,h',w,hw=>by
    simp only [takeDefers,Option.some.injEq,Prod.mk.injEq] at hw
    obtain ⟨rfl,-⟩:=hw
    exact Olds.refl _ _
  | n :: ds,h,h',w,hw=>by
    simp only [takeDefers] at hw
    split at hw
    · rw [Option.map_eq_some_iff] at hw;obtain ⟨⟨h2,w2⟩,ha,ee⟩:=hw;simp only [Prod.mk.injEq] at ee;obtain ⟨rfl,rfl⟩:=ee
      exact Olds.set.trans (takeDefers_olds ds ha)
    · cases hw
theorem runCall_olds (hC : COlds C) {k : Nat} {f : FuncId} {args : List Value} {h h' : List Blk} {v : Value} {w : Option Nat} (hw : runCall C P k f args h = some (v,h',w)) : Olds h h' w:=by
  unfold runCall at hw
  have key : ∀ {fd : Func} {a1 : AS} {h1 : List Blk} {w1 : Option Nat},Olds h h1 w1 → runEnd P fd h.length h a1 h1 w1 = some (v,h',w) → Olds h h' w:=by
    intro fd a1 h1 w1 x hr
    unfold runEnd at hr
    split at hr
    · rename_i h2 w2 ht
      have k2:=x.trans (takeDefers_olds _ ht)
      repeat' split at hr
      all_goals first
        | cases hr;done
        | (simp only [Option.some.injEq,Prod.mk.injEq] at hr;obtain ⟨-,rfl,rfl⟩:=hr;first|exact Olds.refl _ _|exact k2|(rename_i hge;exact ⟨k2.1,fun m hm _=>k2.2 m hm (wge_le hge (by omega))⟩))
    · cases hr
  split at hw
  · cases hw
  · split at hw
    · cases hw
    · split at hw
      · rename_i hx
        have i1:=exec_olds hC k _ hx
        split at hw
        · exact key i1 hw
        · exact key i1 hw
        · cases hw
      · cases hw
theorem runRound_olds (hC : COlds C) {k l : Nat} {args : List Value} {h h' : List Blk} {v : Value} {w : Option Nat} (hw : runRound C P k l args h = some (v,h',w)) : Olds h h' w:=by
  unfold runRound at hw
  have key : ∀ {j : Option Code} {h1 : List Blk} {w1 w2 : Option Nat},Olds h h1 (wmin (some l) w1) → wmin (some l) w1 = wmin (some l) w2 → roundEnd l j h1 w2 = some (v,h',w) → Olds h h' w:=by
    intro j h1 w1 w2 x ew hr
    unfold roundEnd at hr
    split at hr
    · simp only [Option.some.injEq,Prod.mk.injEq] at hr
      obtain ⟨-,rfl,rfl⟩:=hr
      rw [← ew]
      exact ⟨by simp;exact x.1,fun m hm hw=>by
        have h1:=wge_both hw
        rw [wge_s] at h1
        have:=of_decide_eq_true h1.1
        rw [List.getElem?_set_ne (by omega)];exact x.2 m hm hw⟩
    · cases hr
  split at hw
  · split at hw
    · split at hw
      · rename_i hx
        have i1:=exec_olds hC k _ hx
        split at hw
        · split at hw
          · split at hw
            · split at hw
              · rename_i hy
                have i3:=i1.trans (Olds.set.trans (exec_olds hC k _ hy))
                have e : ∀ (a b : Option Nat),wmin a (wmin (some l) b) = wmin (some l) (wmin a b):=by
                  intro a b;cases a<;>cases b<;>simp [wmin]<;>omega
                rw [e] at i3
                split at hw
                · exact key i3 rfl hw
                · exact key i3 rfl hw
                · exact key i3 rfl hw
                · cases hw
              · cases hw
            · cases hw
          · cases hw
        · cases hw
      · cases hw
    · cases hw
  · cases hw
theorem ctx_olds (k : Nat) : ∀ d,COlds (ctx P k d)
  | 0=>by
    refine ⟨fun h=>?_,fun h=>?_⟩
    · exact (nomatch (show none = some _ from h))
    · exact (nomatch (show none = some _ from h))
  | d + 1=>⟨fun h=>runCall_olds (ctx_olds k d) h,fun h=>runRound_olds (ctx_olds k d) h⟩
theorem lim_olds : COlds (lim P):=by
  refine ⟨fun h=>?_,fun h=>?_⟩
  · rw [lim_call] at h
    obtain ⟨N,hk⟩:=h
    exact (ctx_olds N N).call (hk N N (Nat.le_refl _) (Nat.le_refl _))
  · rw [lim_round] at h
    obtain ⟨N,hk⟩:=h
    exact (ctx_olds N N).round (hk N N (Nat.le_refl _) (Nat.le_refl _))
end
end Go.Rex

namespace Go.Rex
open Go.RowKit
section
variable {C : Ctx} {P : Program} {h0 h h' : List Blk} {Fz Fz' : Nat → Prop} {L L' : Nat → LI} {s s' : TS} {tm : List Value}
/-- what a call yields that may write lists of its caller: they stand in B, in the order of their first being named; the result names nothing, the lists stay where they are -/
def SpecO (C : Ctx) (f : FuncId) (args : List TV) (B : List TB) (p : TV) (B' : List TB) : Prop :=
  ∀ h0 Fz L h vs,St h0 Fz L ⟨args,B⟩ vs h → ∃ v h' wr,C.call f vs h = some (v,h',wr) ∧ ((wr = none ∧ Ext h h') ∨ ∃ nm,wr = some nm ∧ h0.length ≤ nm ∧ nm < h.length ∧ h.length ≤ h'.length) ∧
    (∀ n,Fz n → h'[n]? = h[n]?) ∧ Ext h0 h' ∧ (∀ F hh M,VL F hh M p v) ∧ ∀ n b,B'[n]? = some b → BR h0.length Fz h' L n b
theorem Olds.ext {h h' : List Blk} {w : Option Nat} (x : Olds h h' w) (hw : wge w h.length = true) : Ext h h':=by
  refine ⟨h'.drop h.length,?_⟩
  apply List.ext_getElem?
  intro m
  by_cases hm : m < h.length
  · rw [List.getElem?_append_left hm,x.2 m hm (wge_le hw (by omega))]
  · rw [List.getElem?_append_right (by omega),List.getElem?_drop]
    congr 1;omega
/-- an own list that names nothing, elsewhere -/
theorem BR.move {lo n : Nat} {b : TB} (hb : BR lo Fz h L n b) (hc : clTB b = true) (hr : b.live = true → ∃ es rows,b = .rows es rows) (hL : L' n = L n) (hn : ∀ nm,(L n).nm = some nm → ¬ Fz nm → ¬ Fz' nm ∧ h'[nm]? = h[nm]?) : BR lo Fz' h' L' n b:=by
  cases b with
  | dead=>trivial
  | var row=>obtain ⟨es,rows,e⟩:=hr rfl;cases e
  | rows es rows =>
    obtain ⟨q1,q2,q3,q4,q5⟩:=hb
    unfold BR
    rw [hL]
    refine ⟨q1,q2,q3,q4,?_⟩
    rcases q5 with q5|⟨nm,cs,e1,e2,e3,e4,e5⟩
    · exact .inl q5
    · obtain ⟨a1,a2⟩:=hn nm e1 e3
      refine .inr ⟨nm,cs,e1,e2,a1,a2.trans e4,e5.len,fun i p x hp hx=>VL.ofCl 4 ?_ (e5.at' i p x hp hx)⟩
      have hm:=List.mem_of_getElem? hp
      simp only [List.mem_flatten] at hm
      obtain ⟨r,hr,hpr⟩:=hm
      simp only [clTB] at hc
      exact List.all_eq_true.1 (List.all_eq_true.1 hc r hr) p hpr
def isRows : TB → Bool
  | .rows ..=>true
  | _=>false
theorem isRows_live {b : TB} (h : isRows b = true) : ∃ es rows,b = .rows es rows:=by cases b with|rows es rows=>exact ⟨es,rows,rfl⟩|_=>cases h
/-- own lists that no slot but those of the parameters need name: where the parameters stand -/
def stays (args : List TV) (c : Code) (tm : List TV) (n : Nat) : Bool:=(List.range args.length).any fun i=>match args[i]?,tm[i]? with
  | some (.lsl m 0 _),some (.lsl m' 0 _)=>m == n && m' == n && !(cdsts c).contains i
  | _,_=>false
theorem lsl_same {n len len2 : Nat} {x : Value} {b b' : TB} {es es' : Nat} {rows rows' : List (List TV)} (h1 : VL Fz h L (.lsl n 0 len) x) (h2 : VL Fz' h' L' (.lsl n 0 len2) x) (eb : b = .rows es rows) (eb' : b' = .rows es' rows') (hb : BR h0.length Fz h L n b) (hb' : BR h0.length Fz' h' L' n b') (he : es = es') : L' n = L n:=by
  subst eb eb' he
  obtain ⟨q1,q2,q3,q4,q5⟩:=hb
  obtain ⟨r1,r2,r3,r4,r5⟩:=hb'
  have key : (L' n).nm = (L n).nm ∧ (L' n).tot = (L n).tot:=by
    cases h1 with
    | lslnil _ _ ok hn =>
      cases h2 with
      | lslnil _ _ ok' hn' =>
        refine ⟨hn'.trans hn.symm,?_⟩
        rcases q5 with q5|⟨nm,cs,e1,_⟩
        · rcases r5 with r5|⟨nm,cs,e1,_⟩
          · rw [q3,r3,q5.2,r5.2]
          · rw [hn'] at e1;cases e1
        · rw [hn] at e1;cases e1
    | lsl _ _ _ _ nm ok hn hle =>
      generalize hx : Value.slice (some ⟨nm,0 * (L n).es,none⟩) len ((L n).tot - 0) = x at h2
      cases h2 with
      | lslnil=>cases hx
      | lsl _ _ _ _ nm' ok' hn' hle' =>
        injection hx with a1 a2 a3
        injection a1 with a1
        injection a1 with a1
        subst a1
        exact ⟨hn'.trans hn.symm,by omega⟩
  have : ∀ a b : LI,a.ok = b.ok → a.nm = b.nm → a.es = b.es → a.tot = b.tot → a = b:=by
    rintro ⟨_,_,_,_⟩ ⟨_,_,_,_⟩ rfl rfl rfl rfl;rfl
  exact this _ _ (r1.trans q1.symm) key.1 (r2.trans q2.symm) key.2
def esEq : TB → TB → Bool
  | .rows es _,.rows es' _=>es == es'
  | _,_=>false
theorem SpecO.fn {f : FuncId} {fd : Func} {c : Code} {args : List TV} {B B' : List TB} {p : TV} (hf : P.funcs[f]? = some fd) (hb : fd.body = some c) (hnr : noRange c = true) {tm0 : List TV} (htm : args ++ List.replicate (fd.ntmps - args.length) TV.junk = tm0)
    (hx : TX (lim P) P c ⟨tm0,B⟩ (fun e s=>(e = .normal ∨ e = .ret) ∧ ∃ ps,tresAll P s.hp s.tm fd.results.toList = some ps ∧ oneT ps = p ∧ s.hp.take B.length = B' ∧ (List.range B.length).all (stays args c s.tm) = true))
    (hp : lf 4 p = true) (hpc : cl 4 p = true) (hcl : B'.all clTB = true) (hlen : B'.length = B.length) (hes : ∀ (n : Nat) (b b' : TB),B[n]? = some b → B'[n]? = some b' → esEq b b' = true) : SpecO (lim P) f args B p B':=by
  intro h0 Fz L h vs hs0
  subst htm
  have hargs:=hs0.tmr
  have hs : St h0 Fz L ⟨args ++ List.replicate (fd.ntmps - args.length) TV.junk,B⟩ (vs ++ List.replicate (fd.ntmps - vs.length) undef) h:=by
    refine ⟨?_,hs0.blk,hs0.dom,hs0.inj,hs0.fz,hs0.ext⟩
    refine VLs.append hargs ?_
    rw [show args.length = vs.length from hargs.len.symm]
    exact VLs.replicate (.junk L undef) _
  obtain ⟨K,e,a1,h1,w1,hexec,hw,hdf,s1,F1,L1,⟨he,ps,hps,hpp,htake,hst⟩,g1,hs1⟩:=hx h0 Fz L _ h hs
  obtain ⟨vs1,hres,hvs1⟩:=tresAll_sound (P:=P) hs1 _ ps hps
  have hv1 : VL F1 h1 L1 p (oneOf vs1):=hpp ▸ oneT_vl hvs1
  have hv : ∀ F hh M,VL F hh M p (oneOf vs1):=fun F hh M=>VL.toNo (L:=L1) 4 hp (hv1.ofCl 4 hpc)
  have hold:=exec_olds lim_olds K c hexec
  have hat : ∀ n b',B'[n]? = some b' → n < B.length ∧ s1.hp[n]? = some b':=fun n b' hb'=>by
    have hl:=(List.getElem?_eq_some_iff.1 hb').1
    rw [hlen] at hl
    rw [← htake,List.getElem?_take,if_pos hl] at hb'
    exact ⟨hl,hb'⟩
  have hL : ∀ n b',B'[n]? = some b' → ∃ b es es' rows rows',B[n]? = some b ∧ b = .rows es rows ∧ b' = .rows es' rows' ∧ L1 n = L n:=by
    intro n b' hb'
    obtain ⟨hn,hb1⟩:=hat n b' hb'
    have hbn : B[n]? = some B[n]:=List.getElem?_eq_getElem hn
    have hee:=hes n _ b' hbn hb'
    generalize B[n] = b at hbn hee
    cases b with
    | dead=>cases hee
    | var _=>cases hee
    | rows es rows =>
      cases b' with
      | dead=>cases hee
      | var _=>cases hee
      | rows es' rows' =>
        have hee : es = es':=by simpa [esEq] using hee
        refine ⟨_,es,es',rows,rows',hbn,rfl,rfl,?_⟩
        have hsn:=List.all_eq_true.1 hst n (by simpa using hn)
        unfold stays at hsn
        obtain ⟨i,hi,hii⟩:=List.any_eq_true.1 hsn
        split at hii
        · rename_i m len m' len' ha ht
          simp only [Bool.and_eq_true,beq_iff_eq,Bool.not_eq_true'] at hii
          obtain ⟨⟨e1,e2⟩,hc⟩:=hii
          rw [e1] at ha
          rw [e2] at ht
          have hcd : i ∉ cdsts c:=fun hm=>by
            have:=List.elem_eq_true_of_mem hm
            rw [List.contains_eq_mem] at hc
            simp [hm] at hc
          have hsl:=exec_slots K c hexec hnr hcd
          have hilt : i < args.length:=by simpa using hi
          have hivs : i < vs.length:=by rw [show vs.length = args.length from hargs.len];exact hilt
          have e0 : (vs ++ List.replicate (fd.ntmps - vs.length) undef)[i]? = some vs[i]:=by rw [List.getElem?_append_left hivs];exact List.getElem?_eq_getElem hivs
          have v0 : VL Fz h L (.lsl n 0 len) vs[i]:=hargs.at' i _ _ ha (List.getElem?_eq_getElem hivs)
          have v1 : VL F1 h1 L1 (.lsl n 0 len') vs[i]:=hs1.tmr.at' i _ _ ht (hsl.trans e0)
          exact lsl_same v0 v1 rfl rfl (hs.blk n _ hbn) (hs1.blk n _ hb1) hee
        · cases hii
  have hBR : ∀ h2 : List Blk,(∀ nm,nm < h.length → (∃ n b',B'[n]? = some b' ∧ (L n).nm = some nm) → h2[nm]? = h1[nm]?) → ∀ n b,B'[n]? = some b → BR h0.length Fz h2 L n b:=by
    intro h2 hh n b' hb'
    obtain ⟨hn,hb1⟩:=hat n b' hb'
    obtain ⟨b,es,es',rows,rows',hbn,rfl,rfl,hLn⟩:=hL n b' hb'
    refine BR.move (hs1.blk n _ hb1) (List.all_eq_true.1 hcl _ (List.mem_of_getElem? hb')) (fun _=>⟨_,_,rfl⟩) hLn.symm (fun nm e1 e2=>?_)
    rw [hLn] at e1
    exact ⟨fun hF=>e2 (g1.fz nm hF),hh nm (hs.lowB n _ nm hbn rfl e1).1 ⟨n,_,hb',e1⟩⟩
  have hm : wmin w1 none = w1:=by cases w1<;>rfl
  by_cases hg : wge w1 h.length = true
  · by_cases hcc : isClean (oneOf vs1) = true
    · refine ⟨oneOf vs1,h,none,lim_runCall (K:=K) ?_,.inl ⟨rfl,Ext.refl _⟩,fun _ _=>rfl,hs.ext,hv,hBR h (fun nm hl _=>(hold.2 nm hl (wge_le hg (by omega))).symm)⟩
      unfold runCall
      simp only [hf,hb,hexec]
      have hend : runEnd P fd h.length h a1 h1 w1 = some (oneOf vs1,h,none):=by
        simp only [runEnd,hdf,takeDefers,hres,hcc,if_true,hm,hg]
      rcases he with rfl|rfl<;>exact hend
    · refine ⟨oneOf vs1,h1,none,lim_runCall (K:=K) ?_,.inl ⟨rfl,hold.ext hg⟩,g1.same,hs1.ext,hv,hBR h1 (fun nm _ _=>rfl)⟩
      unfold runCall
      simp only [hf,hb,hexec]
      have hend : runEnd P fd h.length h a1 h1 w1 = some (oneOf vs1,h1,none):=by
        simp [runEnd,hdf,takeDefers,hres,hcc,hm,hg]
      rcases he with rfl|rfl<;>exact hend
  · obtain ⟨nm, rfl, hlt⟩ : ∃ nm, w1 = some nm ∧ nm < h.length := by
      cases w1 with
      | none=>exact absurd rfl hg
      | some nm=>rw [wge_s] at hg;exact ⟨nm,rfl,by simpa using hg⟩
    refine ⟨oneOf vs1,h1,some nm,lim_runCall (K:=K) ?_,.inr ⟨nm,rfl,by rw [wge_s] at hw;simpa using hw,hlt,hold.1⟩,g1.same,hs1.ext,hv,hBR h1 (fun nm _ _=>rfl)⟩
    unfold runCall
    simp only [hf,hb,hexec]
    have hend : runEnd P fd h.length h a1 h1 (some nm) = some (oneOf vs1,h1,some nm):=by
      have hg' : wge (some nm) h.length = false:=by simpa using hg
      by_cases hcc : isClean (oneOf vs1) = true<;>simp [runEnd,hdf,takeDefers,hres,hcc,hm,hg']
    rcases he with rfl|rfl<;>exact hend
end
end Go.Rex

namespace Go.Rex
open Go.RowKit
section
variable {C : Ctx} {P : Program} {h0 h h' : List Blk} {Fz Fz' : Nat → Prop} {L L' : Nat → LI} {s s' : TS} {tm : List Value} {dst : Option Tmp} {ty : TypeId} {pos : String} {aft : Array Edge} {gd : Option (Nat × Bool)}
/-- where a caller's list stands among those that are handed on -/
def posOf : List Nat → Nat → Option Nat
  | [],_=>none
  | k :: ks,n=>if k = n then some 0 else (posOf ks n).map (· + 1)
theorem posOf_at : ∀ (ks : List Nat) {n j : Nat},posOf ks n = some j → ks[j]? = some n
  | [],n,j,h=>by cases h
  | k :: ks,n,j,h=>by
    simp only [posOf] at h
    split at h
    · rename_i e;obtain rfl:=Option.some.inj h;simp [e]
    · obtain ⟨a,ha,rfl⟩:=Option.map_eq_some_iff.1 h
      simpa using posOf_at ks ha
/-- an argument as the callee sees it -/
def hand1 (ks : List Nat) : TV → TV
  | .lsl n o len=>match posOf ks n with
    | some j=>.lsl j o len
    | none=>.junk
  | p=>if lf 4 p = true then p else .junk
def handL (L : Nat → LI) (ks : List Nat) : Nat → LI:=fun j=>match ks[j]? with
  | some k=>L k
  | none=>⟨false,none,0,0⟩
theorem VL.hand1 {ks : List Nat} {F : Nat → Prop} (hF : ∀ n,Fz n → F n) {p : TV} {x : Value} (hp : VL Fz h L p x) : VL F h (handL L ks) (hand1 ks p) x:=by
  have key : VL F h (handL L ks) (if lf 4 p = true then p else .junk) x:=by
    split
    · rename_i hl;exact (VL.toNo 4 hl hp).mono hF (fun _ _=>rfl)
    · exact .junk _ x
  unfold Rex.hand1
  split
  · rename_i n o len
    split
    · rename_i j hj
      have e : handL L ks j = L n:=by unfold handL;rw [posOf_at ks hj]
      cases hp with
      | lslnil _ _ ok hn=>exact .lslnil _ j (by rw [e];exact ok) (by rw [e];exact hn)
      | lsl _ _ _ _ nm ok hn hle =>
        have:=VL.lsl (Fz:=F) (h:=h) (handL L ks) j o len nm (by rw [e];exact ok) (by rw [e];exact hn) (by rw [e];exact hle)
        rw [e] at this
        exact this
    · exact .junk _ x
  · exact key
/-- the lists come back -/
def setAll (hp : List TB) : List Nat → List TB → List TB
  | k :: ks,b :: bs=>setAll (hp.set k b) ks bs
  | _,_=>hp
theorem setAll_len : ∀ (ks : List Nat) (bs : List TB) (hp : List TB),(setAll hp ks bs).length = hp.length
  | [],bs,hp=>by cases bs<;>rfl
  | k :: ks,[],hp=>rfl
  | k :: ks,b :: bs,hp=>by simp only [setAll];rw [setAll_len ks bs];simp
theorem setAll_at : ∀ (ks : List Nat) (bs : List TB) (hp : List TB),ks.Nodup → bs.length = ks.length → ∀ (n : Nat) (b : TB),(setAll hp ks bs)[n]? = some b → (∃ j : Nat,ks[j]? = some n ∧ bs[j]? = some b) ∨ (n ∉ ks ∧ hp[n]? = some b)
  | [],bs,hp,_,_,n,b,hb=>.inr ⟨by simp,by cases bs<;>exact hb⟩
  | k :: ks,[],hp,_,hl,n,b,hb=>by simp at hl
  | k :: ks,c :: bs,hp,hnd,hl,n,b,hb=>by
    simp only [setAll] at hb
    have hnd':=List.nodup_cons.1 hnd
    rcases setAll_at ks bs _ hnd'.2 (by simpa using hl) n b hb with ⟨j,h1,h2⟩|⟨h1,h2⟩
    · exact .inl ⟨j + 1,by simpa using h1,by simpa using h2⟩
    · by_cases e : k = n
      · subst e
        rw [List.getElem?_set] at h2
        split at h2
        · split at h2
          · exact .inl ⟨0,rfl,h2⟩
          · cases h2
        · rename_i hh;exact absurd rfl hh
      · rw [List.getElem?_set_ne e] at h2
        exact .inr ⟨by simp;exact ⟨fun e2=>e e2.symm,h1⟩,h2⟩
/-- a call that may write what is handed on -/
theorem OpW.own {f : Operand} {g : FuncId} {args : Array Operand} {tys : Array TypeId} {first caps as : List TV} {ks : List Nat} {B B' : List TB} {p : TV} (hf : tev s.tm f = .func g first caps) (hg : goFn P g = true)
    (has : (first ++ (args.toList.map (tev s.tm) ++ caps)).map (hand1 ks) = as) (hB : ks.map (fun k=>s.hp[k]?) = B.map some) (hnd : ks.Nodup) (hrw : B.all isRows = true) (hsp : SpecO C g as B p B') (hlen : B'.length = B.length) (hrw' : B'.all isRows = true) (hcl : B'.all clTB = true) :
    OpW C P { dst:=dst,op:=.call { callee:=.value f,args:=args,argTypes:=tys },type:=ty,pos:=pos,after:=aft,guard:=gd } s ⟨tput s.tm dst p,setAll s.hp ks B'⟩:=by
  intro h0 Fz L tm h hs
  subst has
  have hfv:=tev_vl hs.tmr f
  rw [hf] at hfv
  obtain ⟨f',c',hfe,vf,vc⟩ : ∃ f' c',ev tm f = .func (.func g) ⟨f'⟩ ⟨c'⟩ ∧ VLs Fz h noL first f' ∧ VLs Fz h noL caps c':=by
    generalize ev tm f = y at *
    cases hfv with
    | func _ _ _ _ a' b' la ha lb hb=>exact ⟨a',b',rfl,⟨la,ha⟩,⟨lb,hb⟩⟩
  have hno : ∀ n,(noL n).ok = true → L n = noL n:=fun n h=>by simp [noL] at h
  have hlk : B.length = ks.length:=by have:=congrArg List.length hB;simpa using this.symm
  have hBat : ∀ (j k : Nat) (b : TB),ks[j]? = some k → B[j]? = some b → s.hp[k]? = some b:=by
    intro j k b h1 h2
    have:=congrArg (fun l=>l[j]?) hB
    simp only [List.getElem?_map,h1,h2,Option.map_some] at this
    exact Option.some.inj this
  let F : Nat → Prop:=fun m=>Fz m ∨ ∃ n b,n ∉ ks ∧ s.hp[n]? = some b ∧ b.live = true ∧ (L n).nm = some m
  have hFz : ∀ n,Fz n → F n:=fun n hn=>.inl hn
  have hargs : VLs F h (handL L ks) ((first ++ (args.toList.map (tev s.tm) ++ caps)).map (hand1 ks)) (f' ++ (args.toList.map (ev tm) ++ c')):=by
    have hall : ∀ (l : List TV) (x : List Value) (M : Nat → LI),(∀ n,(M n).ok = true → L n = M n) → VLs Fz h M l x → VLs F h (handL L ks) (l.map (hand1 ks)) x:=by
      intro l x M hM hv
      refine ⟨by rw [List.length_map];exact hv.len,fun i q y h1 h2=>?_⟩
      rw [List.getElem?_map] at h1
      cases hq : l[i]? with
      | none=>rw [hq] at h1;cases h1
      | some q0=>rw [hq] at h1;obtain rfl:=Option.some.inj h1;exact VL.hand1 hFz ((hv.at' i q0 y hq h2).own hM)
    rw [List.map_append,List.map_append]
    exact VLs.append (hall _ _ noL hno vf) (VLs.append (hall _ _ L (fun _ _=>rfl) (args_vls hs.tmr args.toList)) (hall _ _ noL hno vc))
  have hlive : ∀ (j : Nat) (b : TB),B[j]? = some b → b.live = true:=fun j b hb=>by
    obtain ⟨es,rows,rfl⟩:=isRows_live (List.all_eq_true.1 hrw b (List.mem_of_getElem? hb));rfl
  have hlive' : ∀ (j : Nat) (b : TB),B'[j]? = some b → b.live = true:=fun j b hb=>by
    obtain ⟨es,rows,rfl⟩:=isRows_live (List.all_eq_true.1 hrw' b (List.mem_of_getElem? hb));rfl
  have hkj : ∀ j : Nat,j < B.length → ∃ k b,ks[j]? = some k ∧ B[j]? = some b ∧ s.hp[k]? = some b ∧ handL L ks j = L k:=by
    intro j hj
    have hk : j < ks.length:=by omega
    refine ⟨ks[j],B[j],List.getElem?_eq_getElem hk,List.getElem?_eq_getElem hj,hBat j _ _ (List.getElem?_eq_getElem hk) (List.getElem?_eq_getElem hj),?_⟩
    unfold handL
    rw [List.getElem?_eq_getElem hk]
  have hnoF : ∀ (k : Nat) (b : TB) (nm : Nat),k ∈ ks → s.hp[k]? = some b → b.live = true → (L k).nm = some nm → ¬ F nm:=by
    rintro k b nm hk hb hlv hn (h1|⟨n,b',h1,h2,h3,h4⟩)
    · exact (hs.lowB k b nm hb hlv hn).2.2 h1
    · exact h1 (hs.inj k n b b' nm hb h2 hlv h3 hn h4 ▸ hk)
  have hst : St h0 F (handL L ks) ⟨(first ++ (args.toList.map (tev s.tm) ++ caps)).map (hand1 ks),B⟩ (f' ++ (args.toList.map (ev tm) ++ c')) h:=by
    refine ⟨hargs,fun j b hb=>?_,fun j hj=>?_,fun j j' b b' nm hb hb' hl hl' hn hn'=>?_,?_,hs.ext⟩
    · obtain ⟨k,b2,h1,h2,h3,h4⟩:=hkj j (List.getElem?_eq_some_iff.1 hb).1
      rw [hb] at h2;obtain rfl:=Option.some.inj h2
      obtain ⟨es,rows,rfl⟩:=isRows_live (List.all_eq_true.1 hrw b (List.mem_of_getElem? hb))
      have hB0:=hs.blk k _ h3
      have hB1 : BR h0.length F h L k (.rows es rows):=hB0.mono hFz (fun _ _=>rfl) (fun nm b hnf hbb hnn=>⟨hbb,hnoF k _ nm (List.mem_of_getElem? h1) h3 rfl hnn⟩)
      unfold BR at hB1 ⊢
      rw [h4]
      exact hB1
    · by_cases hj2 : j < B.length
      · exact hj2
      · have : handL L ks j = ⟨false,none,0,0⟩:=by unfold handL;rw [List.getElem?_eq_none (by omega)]
        rw [this] at hj;cases hj
    · obtain ⟨k,b2,h1,h2,h3,h4⟩:=hkj j (List.getElem?_eq_some_iff.1 hb).1
      obtain ⟨k',b2',h1',h2',h3',h4'⟩:=hkj j' (List.getElem?_eq_some_iff.1 hb').1
      rw [h4] at hn;rw [h4'] at hn'
      have ek:=hs.inj k k' b2 b2' nm h3 h3' (hlive j _ h2) (hlive j' _ h2') hn hn'
      subst ek
      exact (List.getElem?_inj (List.getElem?_eq_some_iff.1 h1).1 hnd).1 (h1.trans h1'.symm)
    · rintro n (hn|⟨m,b,h1,h2,h3,h4⟩)
      · exact hs.fz n hn
      · exact (hs.lowB m b n h2 h3 h4).1
  obtain ⟨v,h',wr,hc,hw,hsame,hext,hv,hblk⟩:=hsp h0 F (handL L ks) h _ hst
  have hle : h.length ≤ h'.length:=by
    rcases hw with ⟨-,hx⟩|⟨nm,-,-,-,h4⟩
    · exact hx.le
    · exact h4
  have hsz : ∀ n,Fz n → h'[n]? = h[n]?:=fun n hn=>hsame n (.inl hn)
  refine .inr ⟨rfl,v,h',wr,by rw [xcall_go hfe hg];exact hc,hw,Fz,L,⟨fun _ h=>h,fun _ h=>.inl h,hsz⟩,?_⟩
  have hkb : ∀ (j k : Nat) (b : TB),ks[j]? = some k → B'[j]? = some b → ∃ b0,s.hp[k]? = some b0 ∧ b0.live = true:=by
    intro j k b h1 h2
    have hj : j < B.length:=by rw [← hlen];exact (List.getElem?_eq_some_iff.1 h2).1
    obtain ⟨k',b0,e1,e2,e3,-⟩:=hkj j hj
    rw [h1] at e1;obtain rfl:=Option.some.inj e1
    exact ⟨b0,e3,hlive j _ e2⟩
  have hthere : ∀ (n : Nat) (b : TB),(setAll s.hp ks B')[n]? = some b → b.live = true → ∃ b0,s.hp[n]? = some b0 ∧ b0.live = true:=by
    intro n b hb hl
    rcases setAll_at ks B' s.hp hnd (by omega) n b hb with ⟨j,h1,h2⟩|⟨h1,h2⟩
    · exact hkb j n b h1 h2
    · exact ⟨b,h2,hl⟩
  have htm : VLs Fz h' L (tput s.tm dst p) (putL tm dst v):=by
    have hs2 : St h0 Fz L s tm h:=hs
    have hm:=hs.tmr.mono (fun _ h=>h) hsz
    cases dst with
    | none=>exact hm
    | some d=>exact hm.set d (hv _ _ _)
  refine ⟨htm,fun n b hb=>?_,fun n hn=>?_,fun n n' b b' nm hb hb' hl hl' hn hn'=>?_,fun n hn=>Nat.lt_of_lt_of_le (hs.fz n hn) hle,hext⟩
  · rcases setAll_at ks B' s.hp hnd (by omega) n b hb with ⟨j,h1,h2⟩|⟨h1,h2⟩
    · have hj : j < B.length:=by rw [← hlen];exact (List.getElem?_eq_some_iff.1 h2).1
      obtain ⟨k,b0,e1,e2,e3,e4⟩:=hkj j hj
      rw [h1] at e1;obtain rfl:=Option.some.inj e1
      have hq:=hblk j b h2
      have hq2 : BR h0.length Fz h' (handL L ks) j b:=BR.move hq (List.all_eq_true.1 hcl b (List.mem_of_getElem? h2)) (fun _=>isRows_live (List.all_eq_true.1 hrw' b (List.mem_of_getElem? h2))) rfl (fun nm _ a3=>⟨fun hF=>a3 (.inl hF),rfl⟩)
      obtain ⟨es,rows,rfl⟩:=isRows_live (List.all_eq_true.1 hrw' b (List.mem_of_getElem? h2))
      unfold BR at hq2 ⊢
      rw [e4] at hq2
      exact hq2
    · by_cases hl : b.live = true
      · exact (hs.blk n b h2).mono (fun _ h=>h) hsz (fun nm b1 hnf hbb hnn=>⟨by rw [hsame nm (.inr ⟨n,b,h1,h2,hl,hnn⟩)];exact hbb,hnf⟩)
      · cases b with
        | dead=>trivial
        | rows=>exact absurd rfl hl
        | var=>exact absurd rfl hl
  · rw [setAll_len];exact hs.dom n hn
  · obtain ⟨b0,e1,e2⟩:=hthere n b hb hl
    obtain ⟨b1,e3,e4⟩:=hthere n' b' hb' hl'
    exact hs.inj n n' b0 b1 nm e1 e3 e2 e4 hn hn'
variable {ops : Array Oper} {o : Oper} {rest : List Oper} {Q : TS → Prop} {ms : List Nat} {i : Nat} {np : List Nat} {c : Nat} {tv tv2 : List TV} {hp hp2 : List TB}
theorem TO.own {fo : Operand} {g : FuncId} {args : Array Operand} {tys : Array TypeId} {first caps as : List TV} {ks : List Nat} {B B' : List TB} {p : TV} (hw : twant ops tv { dst:=dst,op:=.call { callee:=.value fo,args:=args,argTypes:=tys },type:=ty,pos:=pos,after:=aft,guard:=gd } = some true) (hf : tev tv fo = .func g first caps) (hg : goFn P g = true) (hsp : SpecO C g as B p B') (has : (first ++ (args.toList.map (tev tv) ++ caps)).map (hand1 ks) = as) (hB : ks.map (fun k=>hp[k]?) = B.map some) (hnd : ks.Nodup) (hrw : B.all isRows = true) (hlen : B'.length = B.length) (hrw' : B'.all isRows = true) (hcl : B'.all clTB = true) (ht : tput tv dst p = tv2) (hh2 : setAll hp ks B' = hp2) (hq : TO C P ops rest ⟨tv2,hp2⟩ Q) : TO C P ops ({ dst:=dst,op:=.call { callee:=.value fo,args:=args,argTypes:=tys },type:=ty,pos:=pos,after:=aft,guard:=gd } :: rest) ⟨tv,hp⟩ Q:=by
  subst ht hh2
  exact TO.w hw (OpW.own (s:=⟨tv,hp⟩) hf hg has hB hnd hrw hsp hlen hrw' hcl) hq
theorem TD.own {fo : Operand} {g : FuncId} {args : Array Operand} {tys : Array TypeId} {first caps as : List TV} {ks : List Nat} {B B' : List TB} {p : TV} (hw : twant ops tv { dst:=dst,op:=.call { callee:=.value fo,args:=args,argTypes:=tys },type:=ty,pos:=pos,after:=aft,guard:=gd } = some true) (hf : tev tv fo = .func g first caps) (hg : goFn P g = true) (hsp : SpecO C g as B p B') (has : (first ++ (args.toList.map (tev tv) ++ caps)).map (hand1 ks) = as) (hB : ks.map (fun k=>hp[k]?) = B.map some) (hnd : ks.Nodup) (hrw : B.all isRows = true) (hlen : B'.length = B.length) (hrw' : B'.all isRows = true) (hcl : B'.all clTB = true) (hnp : np.all (fun j=>(nthN ms i).testBit j) = true) (ht : tput tv dst p = tv2) (hh2 : setAll hp ks B' = hp2) (hq : TD C P ops ms rest (i + 1) (i :: np) 1 ⟨tv2,hp2⟩ Q) : TD C P ops ms ({ dst:=dst,op:=.call { callee:=.value fo,args:=args,argTypes:=tys },type:=ty,pos:=pos,after:=aft,guard:=gd } :: rest) i np c ⟨tv,hp⟩ Q:=by
  subst ht hh2
  exact TD.w hw (OpW.own (s:=⟨tv,hp⟩) hf hg has hB hnd hrw hsp hlen hrw' hcl) hnp hq
/-! ### a law: it may call f,which is true -/
theorem SpecO.ov {f g : FuncId} {as : List TV} {B B' : List TB} {p : TV} (hs : SpecO (lim P) g as B p B') (hne : g ≠ f) : SpecO (over P f) g as B p B':=by
  intro h0 Fz L h vs hst
  obtain ⟨v,h',wr,hc,r⟩:=hs h0 Fz L h vs hst
  refine ⟨v,h',wr,?_,r⟩
  rw [over_call,if_neg (fun hh=>hne hh.1)]
  exact hc
end
end Go.Rex

namespace Go.Rex
open Go.RowKit
section
variable {C : Ctx} {P : Program} {s s' : TS} {dst : Option Tmp} {ty : TypeId} {pos : String} {aft : Array Edge} {gd : Option (Nat × Bool)}
/-- the parameters' slots name their lists, at the beginning and at the end -/
def named (args tm : List TV) : List Nat → Nat → Prop
  | [],_=>True
  | i :: is,n=>(∃ len len',args[i]? = some (.lsl n 0 len) ∧ tm[i]? = some (.lsl n 0 len')) ∧ named args tm is (n + 1)
def esAll : List TB → List TB → Bool
  | [],[]=>true
  | b :: bs,b' :: bs'=>esEq b b' && esAll bs bs'
  | _,_=>false
theorem esAll_at : ∀ (B B' : List TB),esAll B B' = true → B'.length = B.length ∧ ∀ (n : Nat) (b b' : TB),B[n]? = some b → B'[n]? = some b' → esEq b b' = true
  | [],[],_=>⟨rfl,fun n b b' h=>by simp at h⟩
  | [],_ :: _,h=>by cases h
  | _ :: _,[],h=>by cases h
  | b :: bs,b' :: bs',h=>by
    simp only [esAll,Bool.and_eq_true] at h
    obtain ⟨i1,i2⟩:=esAll_at bs bs' h.2
    refine ⟨by simp [i1],fun n x x' h1 h2=>?_⟩
    cases n with
    | zero=>simp at h1 h2;subst h1 h2;exact h.1
    | succ n=>exact i2 n x x' (by simpa using h1) (by simpa using h2)
theorem named_stays {args tm : List TV} {c : Code} : ∀ (is : List Nat) (n : Nat),named args tm is n → is.all (fun i=>!(cdsts c).contains i) = true → ∀ j,j < is.length → stays args c tm (n + j) = true
  | [],n,_,_,j,hj=>by simp at hj
  | i :: is,n,hn,hc,j,hj=>by
    obtain ⟨⟨len,len',h1,h2⟩,h3⟩:=hn
    simp only [List.all_cons,Bool.and_eq_true] at hc
    cases j with
    | zero =>
      unfold stays
      refine List.any_eq_true.2 ⟨i,by simpa using (List.getElem?_eq_some_iff.1 h1).1,?_⟩
      simp only [h1,h2,Nat.add_zero,BEq.rfl,Bool.true_and]
      exact hc.1
    | succ j =>
      have:=named_stays is (n + 1) h3 hc.2 j (by simpa using hj)
      rw [show n + (j + 1) = n + 1 + j by omega]
      exact this
/-- a function that may write lists of its caller; is: the slots of the parameters -/
theorem SpecO.of {f : FuncId} {fd : Func} {c : Code} {args : List TV} {B B' : List TB} {p : TV} {is : List Nat} (hf : P.funcs[f]? = some fd) (hb : fd.body = some c) (hnr : noRange c = true) (hcd : is.all (fun i => !(cdsts c).contains i) = true) (hil : is.length = B.length)
    {tm0 : List TV} (htm : args ++ List.replicate (fd.ntmps - args.length) TV.junk = tm0) (hes : esAll B B' = true) (hp : lf 4 p = true) (hpc : cl 4 p = true) (hcl : B'.all clTB = true)
    (hx : TX (lim P) P c ⟨tm0,B⟩ (fun e s=>(e = .normal ∨ e = .ret) ∧ ∃ ps,tresAll P s.hp s.tm fd.results.toList = some ps ∧ oneT ps = p ∧ s.hp.take B.length = B' ∧ named args s.tm is 0)) : SpecO (lim P) f args B p B':=by
  obtain ⟨hlen,hes'⟩:=esAll_at _ _ hes
  refine SpecO.fn hf hb hnr htm (hx.mono ?_) hp hpc hcl hlen hes'
  rintro e s ⟨he,ps,h1,h2,h3,h4⟩
  refine ⟨he,ps,h1,h2,h3,List.all_eq_true.2 fun n hn=>?_⟩
  have:=named_stays (c:=c) is 0 h4 hcd n (by rw [hil];simpa using hn)
  rwa [Nat.zero_add] at this
/-- a list that was written has the length that it had -/
noncomputable def lenAs {α : Type} (a b : List α) : List α:=if b.length = a.length then b else a
theorem lenAs_length {α : Type} (a b : List α) : (lenAs a b).length = a.length:=by unfold lenAs;split<;>simp [*]
theorem lenAs_of {α : Type} {a b : List α} (h : b.length = a.length) : lenAs a b = b:=if_pos h
/-- lists, in pairs: before and behind the call -/
inductive Pair : List TB → List TB → List TB → Prop
  | nil : Pair [] [] []
  | cons {es : Nat} {α : Type} {f : α → List TV} {a b : List α} {B B' B2 : List TB} (h : Pair B B' B2) : Pair (.rows es (a.map f) :: B) (.rows es (b.map f) :: B') (.rows es ((lenAs a b).map f) :: B2)
theorem Pair.rows {B B' B2 : List TB} (h : Pair B B' B2) : B.all isRows = true ∧ B'.all isRows = true ∧ B'.length = B.length:=by
  induction h with
  | nil=>exact ⟨rfl,rfl,rfl⟩
  | cons h ih=>exact ⟨by simp [isRows,ih.1],by simp [isRows,ih.2.1],by simp [ih.2.2]⟩
theorem Pair.eq {B B' B2 : List TB} (h : Pair B B' B2) : (∀ (n es es' : Nat) (r r' : List (List TV)),B[n]? = some (.rows es r) → B'[n]? = some (.rows es' r') → r'.length = r.length) → B2 = B':=by
  induction h with
  | nil=>intro _;rfl
  | cons h ih =>
    rename_i es α f a b B B' B2
    intro hl
    have h1:=hl 0 es es _ _ rfl rfl
    rw [List.length_map,List.length_map] at h1
    rw [lenAs_of h1,ih fun n es es' r r' h1 h2=>hl (n + 1) es es' r r' h1 h2]
theorem SpecO.pair {f : FuncId} {args : List TV} {B B' B2 : List TB} {p : TV} (hs : SpecO C f args B p B') (hp : Pair B B' B2) : SpecO C f args B p B2:=by
  intro h0 Fz L h vs hst
  obtain ⟨v,h',wr,hc,hw,h1,h2,h3,h4⟩:=hs h0 Fz L h vs hst
  have e : B2 = B':=hp.eq fun n es es' r r' hb hb'=>by
    obtain ⟨-,-,q,-⟩:=hst.blk n _ hb
    obtain ⟨-,-,q',-⟩:=h4 n _ hb'
    exact q'.symm.trans q
  subst e
  exact ⟨v,h',wr,hc,hw,h1,h2,h3,h4⟩
theorem Pair.rows2 {B B' B2 : List TB} (h : Pair B B' B2) : B2.all isRows = true ∧ B2.length = B.length:=by
  induction h with
  | nil=>exact ⟨rfl,rfl⟩
  | cons h ih=>exact ⟨by simp [isRows,ih.1],by simp [ih.2]⟩
variable {ops : Array Oper} {o : Oper} {rest : List Oper} {Q : TS → Prop} {ms : List Nat} {i : Nat} {np : List Nat} {c : Nat} {tv tv2 : List TV} {hp hp2 : List TB}
theorem TO.ownl {fo : Operand} {g : FuncId} {args : Array Operand} {tys : Array TypeId} {first caps as : List TV} (ks : List Nat) {B B' B2 : List TB} {p : TV} (hw : twant ops tv { dst:=dst,op:=.call { callee:=.value fo,args:=args,argTypes:=tys },type:=ty,pos:=pos,after:=aft,guard:=gd } = some true) (hf : tev tv fo = .func g first caps) (hg : goFn P g = true) (hsp : SpecO C g as B p B') (hpr : Pair B B' B2) (has : (first ++ (args.toList.map (tev tv) ++ caps)).map (hand1 ks) = as) (hB : ks.map (fun k=>hp[k]?) = B.map some) (hnd : ks.Nodup) (hcl : B2.all clTB = true) (ht : tput tv dst p = tv2) (hh2 : setAll hp ks B2 = hp2) (hq : TO C P ops rest ⟨tv2,hp2⟩ Q) : TO C P ops ({ dst:=dst,op:=.call { callee:=.value fo,args:=args,argTypes:=tys },type:=ty,pos:=pos,after:=aft,guard:=gd } :: rest) ⟨tv,hp⟩ Q :=
  TO.own hw hf hg (hsp.pair hpr) has hB hnd hpr.rows.1 hpr.rows2.2 hpr.rows2.1 hcl ht hh2 hq
theorem TD.ownl {fo : Operand} {g : FuncId} {args : Array Operand} {tys : Array TypeId} {first caps as : List TV} (ks : List Nat) {B B' B2 : List TB} {p : TV} (hw : twant ops tv { dst:=dst,op:=.call { callee:=.value fo,args:=args,argTypes:=tys },type:=ty,pos:=pos,after:=aft,guard:=gd } = some true) (hf : tev tv fo = .func g first caps) (hg : goFn P g = true) (hsp : SpecO C g as B p B') (hpr : Pair B B' B2) (has : (first ++ (args.toList.map (tev tv) ++ caps)).map (hand1 ks) = as) (hB : ks.map (fun k=>hp[k]?) = B.map some) (hnd : ks.Nodup) (hcl : B2.all clTB = true) (hnp : np.all (fun j=>(nthN ms i).testBit j) = true) (ht : tput tv dst p = tv2) (hh2 : setAll hp ks B2 = hp2) (hq : TD C P ops ms rest (i + 1) (i :: np) 1 ⟨tv2,hp2⟩ Q) : TD C P ops ms ({ dst:=dst,op:=.call { callee:=.value fo,args:=args,argTypes:=tys },type:=ty,pos:=pos,after:=aft,guard:=gd } :: rest) i np c ⟨tv,hp⟩ Q :=
  TD.own hw hf hg (hsp.pair hpr) has hB hnd hpr.rows.1 hpr.rows2.2 hpr.rows2.1 hcl hnp ht hh2 hq
end
end Go.Rex

namespace Go.Rex
open Go.RowKit
/-! ### calls that are known: what they return is told by what they can reach -/
def al2 {α β : Type} (p : α → β → Bool) : List α → List β → Bool
  | [],[]=>true
  | a :: s,b :: t=>p a b && al2 p s t
  | _,_=>false
theorem al2_at {α β : Type} {p : α → β → Bool} : ∀ {s : List α} {t : List β},al2 p s t = true → t.length = s.length ∧ ∀ (i : Nat) a b,s[i]? = some a → t[i]? = some b → p a b = true
  | [],[],_=>⟨rfl,fun i a b h=>by simp at h⟩
  | [],_ :: _,hh=>by simp [al2] at hh
  | _ :: _,[],hh=>by simp [al2] at hh
  | a :: s,b :: t,hh=>by
    simp only [al2,Bool.and_eq_true] at hh
    obtain ⟨h1,h2⟩:=al2_at hh.2
    refine ⟨by simp [h1],fun i x y hx hy=>?_⟩
    cases i with
    | zero=>simp at hx hy;subst hx hy;exact hh.1
    | succ i=>exact h2 i x y (by simpa using hx) (by simpa using hy)
theorem al2_eq {α : Type} {p : α → α → Bool} (h : ∀ a b,p a b = true → a = b) {s t : List α} (hh : al2 p s t = true) : s = t:=by
  obtain ⟨h1,h2⟩:=al2_at hh
  apply List.ext_getElem?
  intro i
  cases hs : s[i]? with
  | none=>rw [List.getElem?_eq_none_iff] at hs;rw [eq_comm,List.getElem?_eq_none_iff];omega
  | some a =>
    have hi:=(List.getElem?_eq_some_iff.1 hs).1
    have ht : t[i]? = some t[i]:=List.getElem?_eq_getElem (by omega)
    rw [ht,h a _ (h2 i a _ hs ht)]
def addrM (σ : List Nat) : Addr → Addr → Bool
  | ⟨n,o,none⟩,⟨n',o',none⟩=>(match σ[n]? with|some k=>Nat.beq k n'|none=>false) && Nat.beq o o'
  | _,_=>false
/-- b is a with its names as σ has them -/
def mV (σ : List Nat) : Nat → Value → Value → Bool
  | 0,_,_=>false
  | d + 1,a,b=>match a,b with
    | .bool x,.bool y=>x == y
    | .int k x,.int k' y=>decide (k = k') && decide (x = y)
    | .float k x,.float k' y=>decide (k = k') && Nat.beq x y
    | .complex k x z,.complex k' y u=>decide (k = k') && (Nat.beq x y && Nat.beq z u)
    | .string ⟨⟨s⟩⟩,.string ⟨⟨t⟩⟩=>decide (s = t)
    | .pointer none,.pointer none=>true
    | .pointer (some x),.pointer (some y)=>addrM σ x y
    | .slice none l c,.slice none l' c'=>Nat.beq l l' && Nat.beq c c'
    | .slice (some x) l c,.slice (some y) l' c'=>addrM σ x y && (Nat.beq l l' && Nat.beq c c')
    | .map none,.map none=>true
    | .func (.func f) ⟨a⟩ ⟨b⟩,.func (.func g) ⟨a'⟩ ⟨b'⟩=>Nat.beq f g && (al2 (mV σ d) a a' && al2 (mV σ d) b b')
    | .nilFunc,.nilFunc=>true
    | .nilIface,.nilIface=>true
    | .iface t v,.iface t' v'=>Nat.beq t t' && mV σ d v v'
    | .agg ⟨a⟩,.agg ⟨a'⟩=>al2 (mV σ d) a a'
    | .tuple ⟨a⟩,.tuple ⟨a'⟩=>al2 (mV σ d) a a'
    | _,_=>false
def dS (σ : List Nat) (D : Nat → Prop) : Nat → Prop:=fun n=>∃ k,σ[n]? = some k ∧ D k
def mS (σ : List Nat) (m : NMap) : NMap:=fun n=>m (σ[n]?.getD 0)
theorem mV_vr {σ : List Nat} {D : Nat → Prop} {m : NMap} : ∀ (d : Nat) (a b b' : Value),mV σ d a b = true → VR D m b b' → VR (dS σ D) (mS σ m) a b':=by
  intro d
  induction d with
  | zero=>intro a b b' h;cases h
  | succ d ih =>
    intro a b b' h hr
    have hl : ∀ {s t t' : List Value},al2 (mV σ d) s t = true → VRs D m t t' → VRs (dS σ D) (mS σ m) s t':=by
      intro s t t' hh hs
      obtain ⟨h1,h2⟩:=al2_at hh
      refine ⟨hs.len.trans h1,fun i v v' hv hv'=>?_⟩
      have hi:=(List.getElem?_eq_some_iff.1 hv).1
      have ht : t[i]? = some t[i]:=List.getElem?_eq_getElem (by omega)
      exact ih v _ v' (h2 i v _ hv ht) (hs.at' i _ v' ht hv')
    have ha : ∀ {x y : Addr},addrM σ x y = true → ∃ n o k,x = ⟨n,o,none⟩ ∧ y = ⟨k,o,none⟩ ∧ σ[n]? = some k:=by
      intro x y hh
      obtain ⟨n,o,s⟩:=x
      obtain ⟨n',o',s'⟩:=y
      cases s<;>cases s'<;>simp only [addrM] at hh<;>try (cases hh;done)
      simp only [Bool.and_eq_true] at hh
      obtain ⟨h1,h2⟩:=hh
      have h2:=Nat.eq_of_beq_eq_true h2
      subst h2
      split at h1
      · rename_i k hk
        have h1:=Nat.eq_of_beq_eq_true h1
        subst h1
        exact ⟨n,o,k,rfl,rfl,hk⟩
      · cases h1
    have hms : ∀ {n k : Nat},σ[n]? = some k → mS σ m n = m k:=fun hk=>by unfold mS;rw [hk];rfl
    unfold mV at h
    split at h
    · cases hr;rw [eq_of_beq h];exact .bool _
    · simp only [Bool.and_eq_true,decide_eq_true_eq] at h;cases hr;rw [h.1,h.2];exact .int _ _
    · simp only [Bool.and_eq_true,decide_eq_true_eq] at h;cases hr;rw [h.1,Nat.eq_of_beq_eq_true h.2];exact .float _ _
    · simp only [Bool.and_eq_true,decide_eq_true_eq] at h;cases hr;rw [h.1,Nat.eq_of_beq_eq_true h.2.1,Nat.eq_of_beq_eq_true h.2.2];exact .complex _ _ _
    · simp only [decide_eq_true_eq] at h;cases hr;rw [h];exact .string _
    · cases hr;exact .nilPtr
    · obtain ⟨n,o,k,rfl,rfl,hk⟩:=ha h
      cases hr
      rename_i hD
      have:=VR.ptr (D:=dS σ D) (m:=mS σ m) n o ⟨k,hk,hD⟩
      rwa [hms hk] at this
    · simp only [Bool.and_eq_true] at h;cases hr;rw [Nat.eq_of_beq_eq_true h.1,Nat.eq_of_beq_eq_true h.2];exact .nilSlice _ _
    · simp only [Bool.and_eq_true] at h
      obtain ⟨n,o,k,rfl,rfl,hk⟩:=ha h.1
      have e1:=Nat.eq_of_beq_eq_true h.2.1
      have e2:=Nat.eq_of_beq_eq_true h.2.2
      subst e1 e2
      cases hr with
      | slice _ _ _ _ c' hD hlc hcc he =>
        have:=VR.slice (D:=dS σ D) (m:=mS σ m) n o _ _ c' ⟨k,hk,hD⟩ hlc hcc (by rw [hms hk];exact he)
        rwa [hms hk] at this
    · cases hr;exact .nilMap
    · simp only [Bool.and_eq_true] at h
      cases hr with
      | func _ _ _ a' b' la ha' lb hb' =>
        rw [Nat.eq_of_beq_eq_true h.1]
        have h1:=hl h.2.1 ⟨la,ha'⟩
        have h2:=hl h.2.2 ⟨lb,hb'⟩
        exact .func _ _ _ _ _ h1.len h1.at' h2.len h2.at'
    · cases hr;exact .nilFunc
    · cases hr;exact .nilIface
    · simp only [Bool.and_eq_true] at h
      cases hr with
      | iface _ _ v' hv=>rw [Nat.eq_of_beq_eq_true h.1];exact .iface _ _ _ (ih _ _ _ h.2 hv)
    · cases hr with
      | agg _ a' la ha'=>exact .agg' (hl h ⟨la,ha'⟩)
    · cases hr with
      | tuple _ a' la ha'=>exact .tuple' (hl h ⟨la,ha'⟩)
    · cases h
/-- a block with its names as σ has them -/
def mB (σ : List Nat) : Blk → Option Blk → Bool
  | .cells es c,some (.cells es' c')=>Nat.beq es es' && al2 (mV σ 60) c c'
  | _,_=>false
def mH (σ : List Nat) (h : List Blk) : List Nat → List Blk → Bool
  | [],[]=>true
  | n :: t,b :: s=>mB σ b h[n]? && mH σ h t s
  | _,_=>false
theorem mH_at {σ : List Nat} {h : List Blk} : ∀ {t : List Nat} {s : List Blk},mH σ h t s = true → s.length = t.length ∧ ∀ (i : Nat) b,s[i]? = some b → ∃ n,t[i]? = some n ∧ mB σ b h[n]? = true
  | [],[],_=>⟨rfl,fun i b h=>by simp at h⟩
  | [],_ :: _,hh=>by simp [mH] at hh
  | _ :: _,[],hh=>by simp [mH] at hh
  | n :: t,b :: s,hh=>by
    simp only [mH,Bool.and_eq_true] at hh
    obtain ⟨h1,h2⟩:=mH_at hh.2
    refine ⟨by simp [h1],fun i x hx=>?_⟩
    cases i with
    | zero=>simp at hx;subst hx;exact ⟨n,rfl,hh.1⟩
    | succ i=>exact h2 i x (by simpa using hx)
/-! the names,in the order in which they are met -/
def addN (σ : List Nat) : Option Addr → List Nat
  | some ⟨n,_,none⟩=>if σ.contains n then σ else σ ++ [n]
  | _=>σ
def namesV : Nat → List Nat → Value → List Nat
  | 0,σ,_=>σ
  | d + 1,σ,v=>match v with
    | .pointer a=>addN σ a
    | .slice a _ _=>addN σ a
    | .func _ ⟨a⟩ ⟨b⟩=>b.foldl (namesV d) (a.foldl (namesV d) σ)
    | .iface _ v=>namesV d σ v
    | .agg ⟨a⟩=>a.foldl (namesV d) σ
    | .tuple ⟨a⟩=>a.foldl (namesV d) σ
    | _=>σ
def reach (h : List Blk) : Nat → Nat → List Nat → List Nat
  | 0,_,σ=>σ
  | k + 1,i,σ=>match σ[i]? with
    | none=>σ
    | some n=>match h[n]? with
      | some (.cells _ c)=>reach h k (i + 1) (c.foldl (namesV 60) σ)
      | _=>reach h k (i + 1) σ
def namesOf (args : List Value) (h : List Blk) : List Nat:=reach h 1000 0 (args.foldl (namesV 60) (List.range NG))
structure Piece where
  f : FuncId
  args : List Value
  h : List Blk
  v : Value
def fits (p : Piece) (args : List Value) (h : List Blk) (σ : List Nat) : Bool:=al2 Nat.beq (List.range NG) (σ.take NG) && (al2 (mV σ 60) p.args args && mH σ h σ p.h)
def look : List Piece → FuncId → List Value → List Blk → Option Value
  | [],_,_,_=>none
  | p :: t,f,args,h=>match Nat.beq p.f f with
    | true=>(match fits p args h (namesOf args h) with
      | true=>some p.v
      | false=>look t f args h)
    | false=>look t f args h
/-- a call, whatever the world -/
def CallOk (P : Program) (p : Piece) : Prop:=isClean p.v = true ∧
  ∀ {D : Nat → Prop} {m : NMap} {w : World} {args' : List Value},Rel w.heap.size p.h.length D m p.h w → VRs D m p.args args' → Calls P p.f ⟨args'⟩ w (fun e w'=>e = .returned p.v ∧ Below w.heap.size w w')
theorem look_ok {P : Program} : ∀ {tab : List Piece}, (∀ p ∈ tab, CallOk P p) → ∀ {f : FuncId} {args : List Value} {h : List Blk} {v : Value}, look tab f args h = some v →
    ∀ (B lo : Nat) (D : Nat → Prop) (m : NMap) (w : World) (args' : List Value),Rel B lo D m h w → VRs D m args args' → Calls P f ⟨args'⟩ w (Good B lo D m h w v h)
  | [],_,f,args,h,v,hv=>by cases hv
  | p :: t,ht,f,args,h,v,hv=>by
    intro B lo D m w args' hr hargs
    simp only [look] at hv
    split at hv
    · rename_i hf
      have hf:=Nat.eq_of_beq_eq_true hf
      subst hf
      split at hv
      · rename_i hb
        obtain rfl:=Option.some.inj hv
        generalize namesOf args h = σ at hb
        simp only [fits,Bool.and_eq_true] at hb
        obtain ⟨h0,h1,h2⟩:=hb
        have hg0 : ∀ g,g < NG → σ[g]? = some g:=fun g hg=>by
          obtain ⟨k1,k2⟩:=al2_at h0
          have hl : g < (σ.take NG).length:=by rw [k1,List.length_range];exact hg
          have h3:=k2 g g _ (by simp [hg]) (List.getElem?_eq_getElem hl)
          have h4:=Nat.eq_of_beq_eq_true h3
          rw [List.getElem_take] at h4
          rw [List.getElem?_eq_getElem (by rw [List.length_take] at hl;omega),← h4]
        obtain ⟨hcl,hc⟩:=ht p (by simp)
        obtain ⟨hlen,hat⟩:=mH_at h2
        have hargs0 : VRs (dS σ D) (mS σ m) p.args args':=by
          obtain ⟨k1,k2⟩:=al2_at h1
          refine ⟨hargs.len.trans k1,fun i v v' hv hv'=>?_⟩
          have hi:=(List.getElem?_eq_some_iff.1 hv).1
          have hb : args[i]? = some args[i]:=List.getElem?_eq_getElem (by omega)
          exact mV_vr 60 v _ v' (k2 i v _ hv hb) (hargs.at' i _ v' hb hv')
        have blk : ∀ n b,dS σ D n → p.h[n]? = some b → BlkOk (dS σ D) (mS σ m) w n b ∧ (mS σ m n).block < w.heap.size:=by
          rintro n b ⟨k,hk,hD⟩ hb
          obtain ⟨k',hk',hm⟩:=hat n b hb
          obtain rfl:=Option.some.inj (hk.symm.trans hk')
          have ems : mS σ m n = m k:=by unfold mS;rw [hk];rfl
          cases hx : h[k]? with
          | none=>rw [hx] at hm;cases b<;>simp [mB] at hm
          | some b' =>
            rw [hx] at hm
            cases b<;>cases b'<;>simp only [mB] at hm<;>try (cases hm;done)
            rename_i es c es' c'
            simp only [Bool.and_eq_true] at hm
            have e1:=Nat.eq_of_beq_eq_true hm.1
            subst e1
            obtain ⟨o1,o2⟩:=hr.ok k _ hD hx
            have o3:=hr.lt k _ hD hx (by simp)
            rw [← ems] at o1 o2 o3
            obtain ⟨l1,l2⟩:=al2_at hm.2
            refine ⟨⟨o1,fun i v hv=>?_⟩,o3⟩
            have hi:=(List.getElem?_eq_some_iff.1 hv).1
            have hc' : c'[i]? = some c'[i]:=List.getElem?_eq_getElem (by omega)
            obtain ⟨v',q1,q2⟩:=o2 i _ hc'
            exact ⟨v',q1,mV_vr 60 v _ v' (l2 i v _ hv hc') q2⟩
        have dom : ∀ n,dS σ D n → n < p.h.length:=by
          rintro n ⟨k,hk,_⟩
          have:=(List.getElem?_eq_some_iff.1 hk).1
          omega
        have hR : Rel w.heap.size p.h.length (dS σ D) (mS σ m) p.h w :=
          ⟨Nat.le_refl _,dom,fun n b hD hb=>(blk n b hD hb).1,fun n b hD hb _=>(blk n b hD hb).2,fun n b hD hl=>absurd (dom n hD) (by omega),fun n b hD _ hb _=>(blk n b hD hb).2,
           fun n b hD hl=>absurd (dom n hD) (by omega),fun n n' b b' hD _ hl=>absurd (dom n hD) (by omega),⟨fun g hg=>by
            obtain ⟨q1,q2⟩:=hr.gl.nm g hg
            have ems : mS σ m g = m g:=by unfold mS;rw [hg0 g hg];rfl
            rw [ems]
            exact ⟨⟨g,hg0 g hg,q1⟩,q2⟩,Nat.le_trans hr.gl.gb hr.le,hr.gl.gw⟩⟩
        refine (hc hR hargs0).mono ?_
        rintro e w' ⟨rfl,hbel⟩
        exact ⟨_,m,rfl,Post.frame hr hbel,VR.of_clean depth _ hcl⟩
      · exact look_ok (fun p hp=>ht p (by simp [hp])) hv B lo D m w args' hr hargs
    · exact look_ok (fun p hp=>ht p (by simp [hp])) hv B lo D m w args' hr hargs
def ctxT (P : Program) (tab : List Piece) (k : Nat) : Nat → Ctx
  | 0=>⟨fun _ _ _=>none,fun _ _ _=>none⟩
  | d + 1 => ⟨fun f args h => match look tab f args h with
      | some v=>some (v,h,none)
      | none=>runCall (ctxT P tab k d) P k f args h,runRound (ctxT P tab k d) P k⟩
theorem ctxT_ok {P : Program} (hm : P.follows .mixedOrders = true) {tab : List Piece} (ht : ∀ p ∈ tab,CallOk P p) (k : Nat) : ∀ d,CtxOk P (ctxT P tab k d)
  | 0=>⟨fun h=>by simp [ctxT] at h,fun h=>by simp [ctxT] at h⟩
  | d + 1 =>
    have hD : DrawSound P (ctxT P tab k d):=fun {_ _ _ _ _ _ _} hv {_ _ _ _ _ _ _ _ _} hr hlo hA hw hQ=>drawSound (ctxT_ok hm ht k d) hm hv hr hlo hA hw hQ
    ⟨fun {f args h v h' wr} hv {B lo D m w args'} hr hlo hw hargs=>by
      simp only [ctxT] at hv
      split at hv
      · rename_i r hl
        have hv:=Option.some.inj hv
        obtain ⟨rfl,rfl,rfl⟩ : r = v ∧ h = h' ∧ none = wr:=by simpa using hv
        exact look_ok ht hl B lo D m w args' hr hargs
      · exact runCall_sound (ctxT_ok hm ht k d) hD hv hr hlo hw hargs,fun h=>runRound_sound (ctxT_ok hm ht k d) hD h⟩
/-- one call more is known: the function itself is run, what it calls may be known -/
def pieceRun (P : Program) (tab : List Piece) (k d : Nat) (p : Piece) : AOut:=runCall (ctxT P tab k d) P k p.f p.args p.h
def eqO (p : Piece) : AOut → Bool
  | some (v,_,none)=>mV [] 60 p.v v && isClean v
  | _=>false
theorem piece_ok {P : Program} (hm : P.follows .mixedOrders = true) {tab : List Piece} (ht : ∀ p ∈ tab,CallOk P p) {k d : Nat} {p : Piece} (hv : eqO p (pieceRun P tab k d p) = true) : CallOk P p:=by
  unfold eqO at hv
  split at hv
  · rename_i v h hx
    simp only [Bool.and_eq_true] at hv
    obtain ⟨h1,h2⟩:=hv
    -- a clean value matched is itself
    have e : v = p.v:=by
      have:=mV_vr (σ:=[]) (D:=fun _=>False) (m:=fun _=>⟨0,0,0,0⟩) 60 p.v v v h1 (VR.of_clean depth v h2)
      have key : ∀ (d : Nat) (a b : Value),mV [] d a b = true → a = b:=by
        intro d
        induction d with
        | zero=>intro a b h;cases h
        | succ d ih =>
          intro a b h
          have hl : ∀ {s t : List Value},al2 (mV [] d) s t = true → s = t:=fun hh=>al2_eq ih hh
          have ha : ∀ {x y : Addr},addrM [] x y = true → False:=by
            intro x y hh
            obtain ⟨n,o,s⟩:=x
            obtain ⟨n',o',s'⟩:=y
            cases s<;>cases s'<;>simp [addrM] at hh
          unfold mV at h
          split at h
          · rw [eq_of_beq h]
          · simp only [Bool.and_eq_true,decide_eq_true_eq] at h;rw [h.1,h.2]
          · simp only [Bool.and_eq_true,decide_eq_true_eq] at h;rw [h.1,Nat.eq_of_beq_eq_true h.2]
          · simp only [Bool.and_eq_true,decide_eq_true_eq] at h;rw [h.1,Nat.eq_of_beq_eq_true h.2.1,Nat.eq_of_beq_eq_true h.2.2]
          · simp only [decide_eq_true_eq] at h;rw [h]
          · rfl
          · exact (ha h).elim
          · simp only [Bool.and_eq_true] at h;rw [Nat.eq_of_beq_eq_true h.1,Nat.eq_of_beq_eq_true h.2]
          · simp only [Bool.and_eq_true] at h;exact (ha h.1).elim
          · rfl
          · simp only [Bool.and_eq_true] at h;rw [Nat.eq_of_beq_eq_true h.1,hl h.2.1,hl h.2.2]
          · rfl
          · rfl
          · simp only [Bool.and_eq_true] at h;rw [Nat.eq_of_beq_eq_true h.1,ih _ _ h.2]
          · rw [hl h]
          · rw [hl h]
          · cases h
      exact (key 60 _ _ h1).symm
    subst e
    refine ⟨h2,fun {D m w args'} hr hargs=>?_⟩
    have hD : DrawSound P (ctxT P tab k d):=fun {_ _ _ _ _ _ _} hv {_ _ _ _ _ _ _ _ _} hr hlo hA hw hQ=>drawSound (ctxT_ok hm ht k d) hm hv hr hlo hA hw hQ
    refine (runCall_sound (ctxT_ok hm ht k d) hD hx hr (Nat.le_refl _) (fun n hn=>by cases hn) hargs).mono ?_
    rintro e w' ⟨v',m',rfl,hp,hvr⟩
    obtain rfl:=hvr.eq_of_clean depth _ _ h2
    exact ⟨rfl,hp.below⟩
  · cases hv
theorem awT_of_pieces {P : Program} (hm : P.follows .mixedOrders = true) {tab : List Piece} (ht : ∀ p ∈ tab,CallOk P p) {k d : Nat} {f : FuncId} (hv : isTrue ((ctxT P tab k d).call f [] GH) = true) : AwT P f:=by
  intro w hgw hgs
  unfold isTrue at hv
  split at hv
  · rename_i h' hx
    refine ((ctxT_ok hm ht k d).call hx (Rel.start w hgw hgs) (Nat.le_refl _) (fun n h=>by cases h) VRs.nil).mono ?_
    rintro e w' ⟨v',m',rfl,hp,hvr⟩
    cases hvr
    exact ⟨rfl,hp.below⟩
  · cases hv
theorem tab_nil {P : Program} : ∀ p ∈ ([] : List Piece),CallOk P p:=fun p hp=>by simp at hp
theorem tab_cons {P : Program} {p : Piece} {tab : List Piece} (h : CallOk P p) (ht : ∀ p ∈ tab,CallOk P p) : ∀ q ∈ p :: tab,CallOk P q:=by
  intro q hq
  rcases List.mem_cons.1 hq with rfl|hq
  · exact h
  · exact ht q hq
end Go.Rex
