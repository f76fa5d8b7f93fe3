/- An executor of the program's functions on trees of values, proved sound. -/
import Derived.Test.YtojekkfmnnoabaaRexJ
set_option linter.unusedSimpArgs false
set_option linter.unusedVariables false
set_option linter.defProp false
namespace Go.Rex
open Go.RowKit

def Fw (ro : Option Nat) : Fence := { Fence.wide with round := ro }

/-- a call's end -/
def Good (B lo : Nat) (D : Nat → Prop) (m : NMap) (h : List Blk) (w : World) (v : Value) (h' : List Blk) : Ending → World → Prop := fun e w' =>
  ∃ v' m', e = .returned v' ∧ Post B lo D m h w m' h' w' ∧ VR (Dx D h.length h'.length) m' v v'

structure CtxOk (P : Program) (C : Ctx) : Prop where
  call : ∀ {f : FuncId} {args : List Value} {h : List Blk} {v : Value} {h' : List Blk} {wr : Option Nat}, C.call f args h = some (v, h', wr) →
    ∀ {B lo : Nat} {D : Nat → Prop} {m : NMap} {w : World} {args' : List Value}, Rel B lo D m h w → lo ≤ h.length → WrOk lo wr → VRs D m args args' → Calls P f ⟨args'⟩ w (Good B lo D m h w v h')
  round : ∀ {l : Nat} {args : List Value} {h : List Blk} {v : Value} {h' : List Blk} {wr : Option Nat}, C.round l args h = some (v, h', wr) →
    ∀ {B lo : Nat} {D : Nat → Prop} {m : NMap} {w : World} {args' : List Value}, Rel B lo D m h w → lo ≤ h.length → WrOk lo wr → D l → VRs D m args args' →
      ∃ fn tmps assign body, (Instr.yield (m l).block ⟨args'⟩).run P w = .ok (.round (m l).block fn tmps assign body) w ∧ ∀ n, RoundIn Fence.wide n P (m l).block fn tmps assign body w (Good B lo D m h w v h')

theorem ev_vr {D : Nat → Prop} {m : NMap} {tm : List Value} {a : Act} (hA : VRs D m tm a.tmps.toList) {x : Operand} (hx : opndOk x = true) : VR D m (ev tm x) (a.eval x) := by
  cases x with
  | tmp t =>
    simp only [ev, nth_eq, Act.eval]
    have := hA.getD t (VR.undef (D := D) (m := m))
    have e : a.tmps.getD t undef = a.tmps.toList[t]?.getD undef := by simp [Array.getD_eq_getD_getElem?]
    rw [e]
    exact this
  | const v => exact VR.of_clean depth v hx
  | global g => cases hx
  | func f => exact .func f [] [] [] [] rfl (fun i v v' h => by simp at h) rfl (fun i v v' h => by simp at h)

theorem opsOk_vr {D : Nat → Prop} {m : NMap} {tm : List Value} {a : Act} (hA : VRs D m tm a.tmps.toList) {o : Oper} (ho : opsOk o = true) : ∀ x ∈ o.op.operands, VR D m (ev tm x) (a.eval x) := fun x hx =>
  ev_vr hA (List.all_eq_true.1 ho x (by simpa using hx))

theorem putL_vrs {D : Nat → Prop} {m : NMap} {tm : List Value} {a : Act} (hA : VRs D m tm a.tmps.toList) (dst : Option Tmp) {v v' : Value} (hv : VR D m v v') : VRs D m (putL tm dst v) (a.put dst v').tmps.toList := by
  cases dst with
  | none => exact hA
  | some d => simp only [putL, Act.put, Array.toList_setIfInBounds]; exact hA.set d hv
theorem put_defers (a : Act) (dst : Option Tmp) (v : Value) : (a.put dst v).defers = a.defers := by cases dst <;> rfl

theorem wanted_vr {D : Nat → Prop} {m : NMap} {tm : List Value} {a : Act} {ops : Array Oper} {o : Oper} (hA : VRs D m tm a.tmps.toList) : Region.wanted o (yielded ops a.tmps) = Region.wanted o (yielded ops ⟨tm⟩) := by
  have key : ∀ j, yielded ops a.tmps j = yielded ops ⟨tm⟩ j := by
    intro j
    unfold yielded
    cases hd : ((ops[j]?).bind (·.dst) : Option Tmp) with
    | none => rfl
    | some d =>
      simp only [Option.bind_some]
      have e1 : (⟨tm⟩ : Array Value)[d]? = tm[d]? := by simp
      have e2 : a.tmps[d]? = a.tmps.toList[d]? := by simp
      rw [e1, e2]
      cases hv : tm[d]? with
      | none =>
        have : a.tmps.toList[d]? = none := by
          rw [List.getElem?_eq_none_iff] at hv ⊢
          rw [hA.len]; exact hv
        rw [this]
      | some v =>
        obtain ⟨v', hv', hr⟩ := hA.at hv
        rw [hv']
        cases hr <;> rfl
  unfold Region.wanted
  cases o.guard with
  | none => rfl
  | some p => simp only [key]

theorem WrOk.min {lo : Nat} {a b : Option Nat} (h : WrOk lo (wmin a b)) : WrOk lo a ∧ WrOk lo b := by
  cases a with
  | none => exact ⟨fun n h => (by cases h), by simpa [wmin] using h⟩
  | some x =>
    cases b with
    | none => exact ⟨by simpa [wmin] using h, fun n h => (by cases h)⟩
    | some y =>
      have := h (Min.min x y) rfl
      exact ⟨fun n hn => by cases hn; omega, fun n hn => by cases hn; omega⟩
theorem wge_ok {wr : Option Nat} {k : Nat} (h : wge wr k = true) : WrOk k wr := by
  intro n hn
  subst hn
  simpa [wge] using h
theorem WrOk.mono {lo lo' : Nat} {wr : Option Nat} (h : WrOk lo wr) (hl : lo' ≤ lo) : WrOk lo' wr := fun n hn => Nat.le_trans hl (h n hn)

section
variable {P : Program} {C : Ctx} {ro : Option Nat} {n : Nat} {Q : Exit → Act → World → Prop}

/-- what an operation ends in -/
def OpIn (ro : Option Nat) (n : Nat) (P : Program) (Q : Exit → Act → World → Prop) (o : Oper) (a : Act) (B lo : Nat) (D : Nat → Prop) (m : NMap) (h : List Blk) (w : World) (v : Value) (h' : List Blk) : Prop :=
  ∀ next : Act → World → Prop, (∀ v' w' m', Post B lo D m h w m' h' w' → VR (Dx D h.length h'.length) m' v v' → next (a.put o.dst v') w') → Oper.wpIn (Fw ro) n P o a w next Q

theorem StepN.opIn {B lo : Nat} {D : Nat → Prop} {m : NMap} {h h' : List Blk} {w : World} {o : Oper} {a : Act} {v : Value} (hd : ∀ c, o.op ≠ .defer c) (hs : StepN P B lo D m h w (execOp a.eval o) v h') : OpIn ro n P Q o a B lo D m h w v h' := by
  intro next hnext
  obtain ⟨r, v', w', m', h1, h2, h3, h4⟩ := hs
  refine ⟨fun _ _ => trivial, ?_⟩
  show o.uponIn (Fw ro) n P a next Q ((o.semAt ro a.eval).run P w)
  rw [Oper.semAt_eq _ _ _ hd, h1]
  rcases h2 with rfl | ⟨rfl, rfl⟩
  · exact hnext v' w' m' h3 h4
  · exact hnext undef w' m' h3 h4

theorem hop_nodefer {ρ : Operand → Value} {o : Oper} {h : List Blk} {r : Value × List Blk × Option Nat} (hv : hop P ρ o h = some r) : ∀ c, o.op ≠ .defer c := by
  intro c hc
  unfold hop at hv
  rw [hc] at hv
  cases hv
theorem pop_nodefer {ρ : Operand → Value} {o : Oper} {v : Value} (hv : pop P ρ o = some v) : ∀ c, o.op ≠ .defer c := by
  intro c hc
  unfold pop at hv
  rw [hc] at hv
  simp only [genP, hc] at hv
  split at hv
  · have : prun P (execOp ρ o) = none ∨ ∃ d, prun P (execOp ρ o) = some (.defer d) := by
      unfold execOp
      rw [hc]
      simp only []
      unfold resolve
      cases c.callee with
      | builtin b => exact .inr ⟨_, rfl⟩
      | invoke x nm => exact .inr ⟨_, rfl⟩
      | value f =>
        simp only []
        unfold Deferred.ofValue
        cases ρ f <;> first | exact .inl rfl | exact .inr ⟨_, rfl⟩
    rcases this with h | ⟨d, h⟩ <;> rw [h] at hv <;> cases hv
  · cases hv

theorem xop_in' (hC : CtxOk P C) {B lo : Nat} {D : Nat → Prop} {m : NMap} {h h' : List Blk} {w : World} {o : Oper} {a : Act} {tm : List Value} {v : Value} {wr : Option Nat} (hr : Rel B lo D m h w) (hlo : lo ≤ h.length)
    (hρ : ∀ x ∈ o.op.operands, VR D m (ev tm x) (a.eval x)) (hv : xop C P (ev tm) o h = some (v, h', wr)) (hw : WrOk lo wr) : OpIn ro n P Q o a B lo D m h w v h' := by
  unfold xop at hv
  split at hv
  · rename_i r hh
    obtain rfl := Option.some.inj hv
    exact (hop_sound hr hlo hρ hh hw).opIn (hop_nodefer hh)
  · split at hv
    · rename_i c hc
      have hd : ∀ c', o.op ≠ .defer c' := fun c' e => by rw [hc] at e; cases e
      rw [hc] at hρ
      simp only [Op.operands, Call.operands] at hρ
      unfold xcall at hv
      split at hv
      · rename_i f hf
        rw [hf] at hρ
        have h1 := hρ f (by simp)
        have h2 := map_vrs (xs := c.args) (ρ := ev tm) (ρ' := a.eval) (D := D) (m := m) fun x hx => hρ x (by simp [hx])
        rw [Array.toList_map, Array.toList_map] at h2
        split at hv
        · rename_i fn first captured hfv
          rw [hfv] at h1
          split at hv
          · rename_i g
            obtain ⟨first', captured', hfi, hca, e1⟩ : ∃ first' captured', VRs D m first first' ∧ VRs D m captured captured' ∧ a.eval f = .func (.func g) ⟨first'⟩ ⟨captured'⟩ := by
              generalize a.eval f = y at *
              cases h1
              exact ⟨_, _, ⟨by assumption, by assumption⟩, ⟨by assumption, by assumption⟩, rfl⟩
            have hargs : VRs D m (first ++ (c.args.toList.map (ev tm) ++ captured)) (first' ++ (c.args.toList.map a.eval ++ captured')) := hfi.append (h2.append hca)
            have harr : (⟨first'⟩ ++ c.args.map a.eval ++ ⟨captured'⟩ : Array Value) = ⟨first' ++ (c.args.toList.map a.eval ++ captured')⟩ := Array.ext' (by simp)
            have hrun : ∀ w, (execOp a.eval o).run P w = (callFunc g ⟨first' ++ (c.args.toList.map a.eval ++ captured')⟩).run P w := by
              intro w
              simp only [execOp, hc, resolve, hf, e1, Deferred.ofValue, Sem.run_bind, Sem.run_pure, Result.andThen_ok, invoke]
              rw [harr]
            split at hv
            · rename_i fd hfd
              split at hv
              · rename_i body hbody
                split at hv
                · rename_i hname
                  intro next hnext
                  refine ⟨fun _ _ => trivial, ?_⟩
                  show o.uponIn (Fw ro) n P a next Q ((o.semAt ro a.eval).run P w)
                  rw [Oper.semAt_eq _ _ _ hd, hrun]
                  have hcf : (callFunc g ⟨first' ++ (c.args.toList.map a.eval ++ captured')⟩).run P w = .ok (.enter g ⟨first' ++ (c.args.toList.map a.eval ++ captured')⟩) w := by
                    unfold callFunc
                    simp only [Sem.run_bind, run_program, Result.andThen_ok, hfd, hname, Bool.false_eq_true, if_false, hbody]
                    rfl
                  rw [hcf]
                  refine ⟨(fun h => (by cases h)), ?_⟩
                  have := callsIn_wide (n := n - 1).2 (hC.call hv hr hlo hw hargs)
                  refine CallsIn.mono (F := Fw ro) (by exact this) ?_
                  rintro e w' ⟨v', m', rfl, hp, hvr⟩
                  exact hnext v' w' m' hp hvr
                · cases hv
              · rename_i hbody
                cases hx : extV P g (first ++ (c.args.toList.map (ev tm) ++ captured)) with
                | none => rw [hx] at hv; cases hv
                | some v0 =>
                  rw [hx] at hv
                  obtain ⟨rfl, rfl, rfl⟩ : v0 = v ∧ h = h' ∧ none = wr := by simpa using hv
                  unfold extV at hx
                  split at hx
                  · rename_i hcl
                    have heq : first' ++ (c.args.toList.map a.eval ++ captured') = first ++ (c.args.toList.map (ev tm) ++ captured) :=
                      hargs.eq_of fun u hu u' hur => hur.eq_of_clean depth _ _ (by have := List.all_eq_true.1 hcl u hu; exact this)
                    split at hx
                    · rename_i v1 hp
                      split at hx
                      · rename_i hcv
                        obtain rfl := Option.some.inj hx
                        exact StepN.opIn hd ⟨.value v1, v1, w, m, by rw [hrun, heq]; exact prun_run hp w, .inl rfl, Post.refl hr, VR.of_clean depth _ hcv⟩
                      · cases hx
                    · cases hx
                  · cases hx
            · cases hv
          · rename_i l
            obtain ⟨hD, rfl, rfl, e1⟩ : D l ∧ first = [] ∧ captured = [] ∧ a.eval f = .func (.yield (m l).block) #[] #[] := by
              generalize a.eval f = y at *
              cases h1
              exact ⟨by assumption, rfl, rfl, rfl⟩
            obtain ⟨fn, tmps, assign, body, hy, hround⟩ := hC.round hv hr hlo hw hD h2
            intro next hnext
            refine ⟨fun _ _ => trivial, ?_⟩
            show o.uponIn (Fw ro) n P a next Q ((o.semAt ro a.eval).run P w)
            rw [Oper.semAt_eq _ _ _ hd]
            have hrun : (execOp a.eval o).run P w = .ok (.round (m l).block fn tmps assign body) w := by
              simp only [execOp, hc, resolve, hf, e1, Deferred.ofValue, Sem.run_bind, Sem.run_pure, Result.andThen_ok, invoke]
              rw [show (#[] ++ c.args.map a.eval : Array Value) = ⟨c.args.toList.map a.eval⟩ from Array.ext' (by simp)]
              exact hy
            rw [hrun]
            refine ⟨(fun h => (by cases h)), ?_⟩
            refine RoundIn.mono (F := Fw ro) (by exact hround (n - 1)) ?_
            rintro e w' ⟨v', m', rfl, hp, hvr⟩
            exact hnext v' w' m' hp hvr
          · cases hv
        · cases hv
      · cases hv
    · cases hv

theorem xop_in (hC : CtxOk P C) {B lo : Nat} {D : Nat → Prop} {m : NMap} {h h' : List Blk} {w : World} {o : Oper} {a : Act} {tm : List Value} {v : Value} {wr : Option Nat} (hr : Rel B lo D m h w) (hlo : lo ≤ h.length)
    (hA : VRs D m tm a.tmps.toList) (ho : opsOk o = true) (hv : xop C P (ev tm) o h = some (v, h', wr)) (hw : WrOk lo wr) : OpIn ro n P Q o a B lo D m h w v h' :=
  xop_in' hC hr hlo (opsOk_vr hA ho) hv hw

theorem runOps_sound (hC : CtxOk P C) {ops : Array Oper} : ∀ (l : List Oper) (k : Nat), ops.toList.drop k = l → l.all opsOk = true → ∀ {B lo : Nat} {D : Nat → Prop} {m : NMap} {h h' : List Blk} {w : World} {a : Act} {tm tm' : List Value} {wr : Option Nat},
    Rel B lo D m h w → lo ≤ h.length → VRs D m tm a.tmps.toList → runOps C P ops l tm h = some (tm', h', wr) → WrOk lo wr →
    (∀ a' w' m', Post B lo D m h w m' h' w' → VRs (Dx D h.length h'.length) m' tm' a'.tmps.toList → a'.defers = a.defers → Q .normal a' w') → wpOpsIn (Fw ro) n P ops Q (List.range' k l.length) a w := by
  intro l
  induction l with
  | nil =>
    intro k _ _ B lo D m h h' w a tm tm' wr hr _ hA hv _ hQ
    obtain ⟨rfl, rfl, rfl⟩ : tm = tm' ∧ h = h' ∧ none = wr := by simpa [runOps] using hv
    exact hQ a w m (Post.refl hr) (by rw [Dx.refl]; exact hA) rfl
  | cons o rest ih =>
    intro k hk hall B lo D m h h' w a tm tm' wr hr hlo hA hv hw hQ
    simp only [List.all_cons, Bool.and_eq_true] at hall
    have hok : ops[k]? = some o := by
      have : ops.toList[k]? = some o := by rw [← List.head?_drop, hk]; rfl
      simpa using this
    have hk' : ops.toList.drop (k + 1) = rest := by rw [← List.tail_drop, hk]; rfl
    simp only [List.length_cons, List.range'_succ, wpOpsIn, hok]
    rw [wanted_vr hA]
    simp only [runOps] at hv
    split at hv
    · rename_i hwant
      rw [if_pos hwant]
      split at hv
      · rename_i v hp
        have hs := (pop_sound (opsOk_vr hA hall.1) hp).step hr
        refine StepN.opIn (pop_nodefer hp) hs _ fun v' w' m' hpost hvr => ?_
        have hrel := hpost.rel
        have e : Dx D h.length h.length = D := Dx.refl
        rw [e] at hrel hvr
        refine ih (k + 1) hk' hall.2 hrel hlo (putL_vrs (hA.mono (fun _ h => h) hpost.agree) o.dst hvr) hv hw fun a' w2 m2 hp2 hA2 hd2 => ?_
        refine hQ a' w2 m2 (hpost.trans (by rw [e]; exact hp2)) hA2 (by rw [hd2, put_defers])
      · split at hv
        · rename_i v h1 w1 hx
          cases hrest : runOps C P ops rest (putL tm o.dst v) h1 with
          | none => rw [hrest] at hv; cases hv
          | some r =>
            obtain ⟨tm2, h2, w2⟩ := r
            rw [hrest] at hv
            obtain ⟨rfl, rfl, rfl⟩ : tm2 = tm' ∧ h2 = h' ∧ wmin w1 w2 = wr := by simpa using hv
            obtain ⟨hw1, hw2⟩ := hw.min
            refine xop_in hC hr hlo hA hall.1 hx hw1 _ fun v' w' m' hpost hvr => ?_
            refine ih (k + 1) hk' hall.2 hpost.rel (Nat.le_trans hlo hpost.grow) (putL_vrs (hpost.vrs hA) o.dst hvr) hrest hw2 fun a' w3 m2 hp2 hA2 hd2 => ?_
            refine hQ a' w3 m2 (hpost.trans hp2) ?_ (by rw [hd2, put_defers])
            rwa [Dx.trans hpost.grow hp2.grow] at hA2
        · cases hv
    · rename_i hwant
      rw [if_neg hwant]
      refine ⟨fun _ _ => trivial, ?_⟩
      refine ih (k + 1) hk' hall.2 hr hlo (putL_vrs hA o.dst VR.undef) hv hw fun a' w2 m2 hp2 hA2 hd2 => ?_
      exact hQ a' w2 m2 hp2 hA2 (by rw [hd2, put_defers])
end
end Go.Rex
