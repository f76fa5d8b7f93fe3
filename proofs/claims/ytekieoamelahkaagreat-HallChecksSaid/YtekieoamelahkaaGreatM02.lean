/- A region that draws its order: reads that float, and effects (calls, new blocks, stores) that stand in a chain. One walk in the order of the text serves every order. (No program.) -/
import Derived.Deep.Quiet
import Derived.BigQuiet
import Derived.WalkKit
import Derived.Test.YtekieoamelahkaaGreatM01
set_option linter.unusedVariables false
set_option linter.unusedSimpArgs false
namespace Go

section
variable {P : Program} {ops : Array Oper} {md : Region.Mode} {C : World → Prop} {ef : Oper → Bool}

def Oper.pureUpon (w : World) (v : Value) : Result Next → Prop
 | .ok (.value u) w' => w' = w ∧ u = v
 | .ok .skip w' => w' = w ∧ v = undef
 | _ => False
def Oper.pureAt (P : Program) (o : Oper) (a : Act) (w : World) (v : Value) : Prop := Oper.pureUpon w v ((execOp a.eval o).run P w)

theorem Oper.pureUpon_one {w : World} {v u : Value} {r : Result Next} (h : Oper.pureUpon w v r) (h' : Oper.pureUpon w u r) : v = u := by
 cases r with
 | ok n w' =>
  cases n <;> simp only [Oper.pureUpon] at h h'
  · exact h.2.symm.trans h'.2
  · exact h.2.trans h'.2.symm
 | halt x w' => simp only [Oper.pureUpon] at h

def Oper.effs (P : Program) (o : Oper) (a : Act) (w : World) (K : Act → World → Prop) : Prop :=
 o.wp P a w (fun a' w' => a'.defers = a.defers ∧ K a' w') (fun _ _ _ => False)

theorem Act.defers_put (a : Act) (d : Option Tmp) (v : Value) : (a.put d v).defers = a.defers := by cases d <;> rfl

theorem Oper.wp_exits {o : Oper} {a : Act} {w : World} {K : Act → World → Prop} {Q : Exit → Act → World → Prop} (hh : o.wp P a w K (fun _ _ _ => False)) : o.wp P a w K Q := by
 unfold Oper.wp at *
 generalize (execOp a.eval o).run P w = r at *
 cases r with
 | ok n w' =>
  cases n <;> simp only [Oper.upon] at hh ⊢ <;>
   first
    | exact hh
    | exact Calls.mono hh (fun e w'' he => by
     cases e
     · exact he
     · exact he.elim
     · obtain ⟨_, _, h⟩ := he; exact h.elim)
 | halt x w' => cases x <;> simp only [Oper.upon] at hh ⊢

theorem Oper.effs_some {o : Oper} {a : Act} {w : World} {K : Act → World → Prop} (hh : o.effs P a w K) : ∃ v w', K (a.put o.dst v) w' := by
 unfold Oper.effs Oper.wp at hh
 generalize (execOp a.eval o).run P w = r at *
 cases r with
 | ok n w' =>
  cases n <;> simp only [Oper.upon] at hh
  case value v => exact ⟨v, w', hh.2⟩
  case skip => exact ⟨undef, w', hh.2⟩
  case defer d =>
   have h := hh.1
   rw [Act.defers_put] at h
   have := congrArg List.length h
   simp at this
  case enter f args =>
   obtain ⟨e, w'', fr, he, _⟩ := hh []
   cases e with
   | returned v => exact ⟨v, w'', he.2⟩
   | panicked c => exact he.elim
   | outgrown => obtain ⟨_, _, h⟩ := he; exact h.elim
  case row row args =>
   obtain ⟨v, w'', he, _⟩ := hh (Frame.enter P 0 #[] .normal) []
   exact ⟨v, w'', he.2⟩
 | halt x w' => cases x <;> simp only [Oper.upon] at hh

theorem Oper.effs_mono {o : Oper} {a : Act} {w : World} {K K' : Act → World → Prop} (h : ∀ v w, K (a.put o.dst v) w → K' (a.put o.dst v) w) (hh : o.effs P a w K) : o.effs P a w K' := by
 unfold Oper.effs Oper.wp at *
 generalize (execOp a.eval o).run P w = r at *
 cases r with
 | ok n w' =>
  cases n <;> simp only [Oper.upon] at hh ⊢
  case value v => exact ⟨hh.1, h _ _ hh.2⟩
  case skip => exact ⟨hh.1, h _ _ hh.2⟩
  case defer d =>
   have h := hh.1
   rw [Act.defers_put] at h
   have := congrArg List.length h
   simp at this
  case enter f args =>
   refine Calls.mono hh fun e w'' he => ?_
   cases e with
   | returned v => exact ⟨he.1, h _ _ he.2⟩
   | panicked c => exact he
   | outgrown => obtain ⟨_, _, h⟩ := he; exact h.elim
  case row row args => exact Rows.mono hh fun v w'' he => ⟨he.1, h _ _ he.2⟩
 | halt x w' => cases x <;> simp only [Oper.upon] at hh

theorem Oper.effs_put {o : Oper} {a : Act} {w : World} {K : Act → World → Prop} {d : Option Tmp} {v : Value} (he : execOp (a.put d v).eval o = execOp a.eval o) (hd : ∀ x, d = some x → o.dst ≠ some x)
 (hh : o.effs P a w (fun a' w' => K (a'.put d v) w')) : o.effs P (a.put d v) w K := by
 unfold Oper.effs Oper.wp at *
 rw [he]
 generalize (execOp a.eval o).run P w = r at *
 cases r with
 | ok n w' =>
  cases n <;> simp only [Oper.upon] at hh ⊢
  case value u => exact ⟨by simp [Act.defers_put], by rw [Act.put_comm a v u hd]; exact hh.2⟩
  case skip => exact ⟨by simp [Act.defers_put], by rw [Act.put_comm a v undef hd]; exact hh.2⟩
  case defer x =>
   have h := hh.1
   rw [Act.defers_put] at h
   have := congrArg List.length h
   simp at this
  case enter f args =>
   refine Calls.mono hh fun e w'' he => ?_
   cases e with
   | returned u => exact ⟨by simp [Act.defers_put], by rw [Act.put_comm a v u hd]; exact he.2⟩
   | panicked c => exact he
   | outgrown => obtain ⟨_, _, h⟩ := he; exact h.elim
  case row row args => exact Rows.mono hh fun u w'' he => ⟨by simp [Act.defers_put], by rw [Act.put_comm a v u hd]; exact he.2⟩
 | halt x w' => cases x <;> simp only [Oper.upon] at hh

theorem Oper.effs_unput {o : Oper} {a : Act} {w : World} {K : Act → World → Prop} {d : Option Tmp} {v : Value} (he : execOp (a.put d v).eval o = execOp a.eval o) (hd : ∀ x, d = some x → o.dst ≠ some x)
 (hh : o.effs P (a.put d v) w K) : o.effs P a w (fun a' w' => K (a'.put d v) w') := by
 unfold Oper.effs Oper.wp at *
 rw [he] at hh
 generalize (execOp a.eval o).run P w = r at *
 cases r with
 | ok n w' =>
  cases n <;> simp only [Oper.upon] at hh ⊢
  case value u => exact ⟨by simp [Act.defers_put], by rw [← Act.put_comm a v u hd]; exact hh.2⟩
  case skip => exact ⟨by simp [Act.defers_put], by rw [← Act.put_comm a v undef hd]; exact hh.2⟩
  case defer x =>
   have h := hh.1
   rw [Act.defers_put] at h
   have := congrArg List.length h
   simp at this
  case enter f args =>
   refine Calls.mono hh fun e w'' he => ?_
   cases e with
   | returned u => exact ⟨by simp [Act.defers_put], by rw [← Act.put_comm a v u hd]; exact he.2⟩
   | panicked c => exact he
   | outgrown => obtain ⟨_, _, h⟩ := he; exact h.elim
  case row row args => exact Rows.mono hh fun u w'' he => ⟨by simp [Act.defers_put], by rw [← Act.put_comm a v u hd]; exact he.2⟩
 | halt x w' => cases x <;> simp only [Oper.upon] at hh

def Oper.tame (P : Program) (ef : Oper → Bool) (C : World → Prop) (o : Oper) (a : Act) (w : World) (K : Act → World → Prop) : Prop :=
 if ef o then o.effs P a w (fun a' w' => C w' ∧ K a' w') else ∃ v, (∀ w', C w' → o.pureAt P a w' v) ∧ K (a.put o.dst v) w

def wpTame (P : Program) (ops : Array Oper) (ef : Oper → Bool) (C : World → Prop) (Q : Act → World → Prop) : List Oper → Act → World → Prop
 | [], a, w => Q a w
 | o :: rest, a, w => if Region.wanted o (yielded ops a.tmps) then o.tame P ef C a w (wpTame P ops ef C Q rest) else wpTame P ops ef C Q rest (a.put o.dst undef) w

def tOp (P : Program) (ops : Array Oper) (ef : Oper → Bool) (C : World → Prop) (i : Nat) (K : Act → World → Prop) (a : Act) (w : World) : Prop :=
 match ops[i]? with
 | none => K a w
 | some o => if Region.wanted o (yielded ops a.tmps) then o.tame P ef C a w K else K (a.put o.dst undef) w

def wpAnyT (P : Program) (md : Region.Mode) (ops : Array Oper) (ef : Oper → Bool) (C : World → Prop) (Q : Act → World → Prop) : Nat → Array Bool → Act → World → Prop
 | 0, listed, a, w => Region.ready md ops listed = [] ∧ Q a w
 | fuel + 1, listed, a, w =>
  (Region.ready md ops listed = [] → Q a w) ∧
  ∀ i ∈ Region.ready md ops listed, tOp P ops ef C i (wpAnyT P md ops ef C Q fuel (listed.setIfInBounds i true)) a w

theorem Oper.tame_mono {o : Oper} {a : Act} {w : World} {K K' : Act → World → Prop} (h : ∀ v w', (ef o = true → C w') → (ef o = false → w' = w) → K (a.put o.dst v) w' → K' (a.put o.dst v) w') (hh : o.tame P ef C a w K) : o.tame P ef C a w K' := by
 unfold Oper.tame at *
 split
 · rename_i he
   simp only [he, if_true] at hh
   exact Oper.effs_mono (fun v w' ⟨h1, h2⟩ => ⟨h1, h v w' (fun _ => h1) (fun h0 => (by simp [he] at h0)) h2⟩) hh
 · rename_i he
   simp only [he] at hh
   obtain ⟨v, h1, h2⟩ := hh
   exact ⟨v, h1, h v w (fun h0 => absurd h0 he) (fun _ => rfl) h2⟩

theorem wpOp_of_tOp {i : Nat} {a : Act} {w : World} {K K' : Act → World → Prop} {Q : Exit → Act → World → Prop} (hC : C w) (h : ∀ a w, C w → K a w → K' a w) (hh : tOp P ops ef C i K a w) : wpOp P ops Q i K' a w := by
 unfold tOp at hh
 unfold wpOp
 split
 · rename_i ho; simp only [ho] at hh; exact h _ _ hC hh
 · rename_i o ho
   simp only [ho] at hh
   split
   · rename_i hw
     simp only [hw, if_true] at hh
     refine .inl ?_
     unfold Oper.tame at hh
     split at hh
     · exact Oper.wp_exits (Oper.wp_mono (fun a' w' h' => h a' w' h'.2.1 h'.2.2) hh)
     · obtain ⟨v, h1, h2⟩ := hh
       have h3 := h1 w hC
       unfold Oper.pureAt at h3
       unfold Oper.wp
       generalize (execOp a.eval o).run P w = r at *
       cases r with
       | ok n w' =>
        cases n <;> simp only [Oper.pureUpon] at h3 <;> simp only [Oper.upon]
        · obtain ⟨e1, e2⟩ := h3
          rw [e1, e2]
          exact h _ _ hC h2
        · obtain ⟨e1, e2⟩ := h3
          rw [e1, ← e2]
          exact h _ _ hC h2
       | halt x w' => simp only [Oper.pureUpon] at h3
   · rename_i hw; simp only [hw] at hh; exact h _ _ hC hh

theorem wpAny_of_T {Q : Act → World → Prop} {Q' : Exit → Act → World → Prop} (hQ : ∀ a w, C w → Q a w → Q' .normal a w) : ∀ (fuel : Nat) (listed : Array Bool) (a : Act) (w : World), C w →
 wpAnyT P md ops ef C Q fuel listed a w → wpAny P md ops Q' fuel listed a w
 | 0, _, _, _, hC, h => ⟨h.1, hQ _ _ hC h.2⟩
 | fuel + 1, _, _, _, hC, h => ⟨fun h0 => hQ _ _ hC (h.1 h0), fun i hi => wpOp_of_tOp hC (fun a' w' hC' => wpAny_of_T hQ fuel _ a' w' hC') (h.2 i hi)⟩

/-! ### an operation that yields a value may be taken first -/
def YieldsT (P : Program) (ops : Array Oper) (ef : Oper → Bool) (C : World → Prop) (o : Oper) (v : Value) (a : Act) : Prop :=
 (Region.wanted o (yielded ops a.tmps) = true ∧ ef o = false ∧ ∀ w, C w → o.pureAt P a w v) ∨ (Region.wanted o (yielded ops a.tmps) = false ∧ v = undef)

theorem YieldsT.tOp {i : Nat} {o : Oper} {v : Value} {a : Act} {w : World} (hi : ops[i]? = some o) (hy : YieldsT P ops ef C o v a) {K : Act → World → Prop} (h : K (a.put o.dst v) w) : tOp P ops ef C i K a w := by
 unfold Go.tOp
 simp only [hi]
 rcases hy with ⟨hw, he, hv⟩ | ⟨hw, rfl⟩
 · simp only [hw, if_true, Oper.tame, he]; exact ⟨v, hv, h⟩
 · simp only [hw, Bool.false_eq_true, if_false]; exact h

theorem YieldsT.of_same {o : Oper} {v : Value} {a a' : Act} (hy : YieldsT P ops ef C o v a) (he : execOp a'.eval o = execOp a.eval o)
 (hw : Region.wanted o (yielded ops a'.tmps) = Region.wanted o (yielded ops a.tmps)) : YieldsT P ops ef C o v a' := by
 unfold YieldsT Oper.pureAt at *
 rw [he, hw]
 exact hy

theorem tOp_put {j : Nat} {oi oj : Oper} {v : Value} (hj : ops[j]? = some oj) (hap : oi.apart ops oj = true)
 (hsi : ∀ cs b, oi.op ≠ .select cs b) (hsj : ∀ cs b, oj.op ≠ .select cs b) {K : Act → World → Prop} {a : Act} {w : World}
 (hy : YieldsT P ops ef C oi v a) (h : tOp P ops ef C j K (a.put oi.dst v) w) :
 tOp P ops ef C j (fun a' w' => YieldsT P ops ef C oi v a' ∧ K (a'.put oi.dst v) w') a w := by
 obtain ⟨h1, h2, h3⟩ := Oper.apart_spec hap
 have keep : ∀ (a : Act), YieldsT P ops ef C oi v a → ∀ u, YieldsT P ops ef C oi v (a.put oj.dst u) := fun a hy u =>
  hy.of_same (execOp_put oi hsi a oj.dst u h3) (wanted_put oi a oj.dst u h3)
 unfold tOp at *
 simp only [hj] at *
 rw [wanted_put oj a oi.dst v h1] at h
 split
 · rename_i hw
   simp only [hw, if_true] at h
   unfold Oper.tame at *
   split
   · rename_i he
     simp only [he, if_true] at h
     exact Oper.effs_mono (fun u w' h' => ⟨h'.1, keep a hy u, h'.2⟩) (Oper.effs_unput (execOp_put oj hsj a oi.dst v h1) h2 h)
   · rename_i he
     simp only [he] at h
     obtain ⟨u, hu, hn⟩ := h
     refine ⟨u, fun w' hw' => ?_, keep a hy u, by rw [← Act.put_comm a v u h2]; exact hn⟩
     have := hu w' hw'
     unfold Oper.pureAt at *
     rwa [execOp_put oj hsj a oi.dst v h1] at this
 · rename_i hw
   simp only [hw] at h
   exact ⟨keep a hy _, by rw [← Act.put_comm a v undef h2]; exact h⟩

theorem tOp_mono {i : Nat} {a : Act} {w : World} {K K' : Act → World → Prop} (h : ∀ a w, K a w → K' a w) (hh : tOp P ops ef C i K a w) : tOp P ops ef C i K' a w := by
 unfold tOp at *
 split
 · rename_i ho; simp only [ho] at hh; exact h _ _ hh
 · rename_i o ho
   simp only [ho] at hh
   split
   · rename_i hw; simp only [hw, if_true] at hh; exact Oper.tame_mono (fun v w' _ _ => h _ _) hh
   · rename_i hw; simp only [hw] at hh; exact h _ _ hh

theorem wpAnyT_first {Q : Act → World → Prop} {i : Nat} {oi : Oper} {v : Value} (hi : ops[i]? = some oi) (hsel : ∀ (j : Nat) (o : Oper) cs b, ops[j]? = some o → o.op ≠ .select cs b) :
 ∀ (fuel : Nat) (listed : Array Bool) (a : Act) (w : World),
  (∀ j oj, ops[j]? = some oj → j ≠ i → listed.getD j true = false → (∀ e ∈ oj.after, Region.binds md e = true → e.on ≠ i) → oi.apart ops oj = true) →
  i ∈ Region.ready md ops listed → YieldsT P ops ef C oi v a →
  wpAnyT P md ops ef C Q fuel (listed.setIfInBounds i true) (a.put oi.dst v) w → wpAnyT P md ops ef C Q (fuel + 1) listed a w := by
 intro fuel
 induction fuel with
 | zero =>
  intro listed a w _ hr hy H
  refine ⟨fun h => (by rw [h] at hr; cases hr), fun j hj => ?_⟩
  by_cases hji : j = i
  · subst hji; exact hy.tOp hi H
  · have := ready_mono hj hji
    rw [H.1] at this
    cases this
 | succ fuel ih =>
  intro listed a w hfree hr hy H
  refine ⟨fun h => (by rw [h] at hr; cases hr), fun j hj => ?_⟩
  by_cases hji : j = i
  · subst hji; exact hy.tOp hi H
  · have h1 := H.2 j (ready_mono hj hji)
    obtain ⟨hjun, oj, hoj, hall⟩ := mem_ready.1 hj
    have hnot : ∀ e ∈ oj.after, Region.binds md e = true → e.on ≠ i := fun e he hb heq => by
     have h1 := hall e he hb
     have h0 := (mem_ready.1 hr).1
     rw [heq] at h1
     rcases Nat.lt_or_ge i listed.size with h' | h'
     · simp [h'] at h0 h1; rw [h0] at h1; cases h1
     · simp [Array.getElem?_eq_none h'] at h1
    have h2 := tOp_put hoj (hfree j oj hoj hji hjun hnot) (fun cs b => hsel i oi cs b hi) (fun cs b => hsel j oj cs b hoj) hy h1
    have hfree' : ∀ k ok, ops[k]? = some ok → k ≠ i → (listed.setIfInBounds j true).getD k true = false →
     (∀ e ∈ ok.after, Region.binds md e = true → e.on ≠ i) → oi.apart ops ok = true := fun k ok hk hki hun hno => by
     refine hfree k ok hk hki ?_ hno
     by_cases hjk : j = k
     · subst hjk; exact hjun
     · rw [getD_set_ne true hjk] at hun; exact hun
    refine tOp_mono (fun a' w' h3 => ih (listed.setIfInBounds j true) a' w' hfree' (ready_mono hr (Ne.symm hji)) h3.1 ?_) h2
    rw [Array.setIfInBounds_comm _ _ hji]
    exact h3.2

/-! ### an effect may be taken first, if no other effect can come up ahead of it -/
def Closed (md : Region.Mode) (ops : Array Oper) (listed : Array Bool) : Prop :=
 ∀ j oj, ops[j]? = some oj → listed.getD j false = true → ∀ e ∈ oj.after, Region.binds md e = true → listed.getD e.on false = true

def Desc (md : Region.Mode) (ops : Array Oper) (i j : Nat) : Prop :=
 ∀ listed, Closed md ops listed → (∀ oj, ops[j]? = some oj → ∀ e ∈ oj.after, Region.binds md e = true → listed.getD e.on false = true) → listed.getD i false = true

theorem Closed.set {i : Nat} {listed : Array Bool} (h : Closed md ops listed) (hi : i ∈ Region.ready md ops listed) : Closed md ops (listed.setIfInBounds i true) := by
 obtain ⟨_, oi, hoi, hall⟩ := mem_ready.1 hi
 intro j oj hj hl e he hb
 by_cases hij : i = j
 · subst hij
   have : oj = oi := Option.some.inj (hj.symm.trans hoi)
   subst this
   exact getD_set_true (hall e he hb)
 · rw [getD_set_ne false hij] at hl
   exact getD_set_true (h j oj hj hl e he hb)

theorem not_both {listed : Array Bool} {i : Nat} (h : listed.getD i true = false) (h' : listed.getD i false = true) : False := by
 rcases Nat.lt_or_ge i listed.size with hl | hl
 · simp [hl] at h h'; rw [h] at h'; cases h'
 · simp [Array.getElem?_eq_none hl] at h'

theorem wpAnyT_eff {Q : Act → World → Prop} {i : Nat} {oi : Oper} (hi : ops[i]? = some oi) (hsel : ∀ (j : Nat) (o : Oper) cs b, ops[j]? = some o → o.op ≠ .select cs b) (hef : ef oi = true) :
 ∀ (fuel : Nat) (listed : Array Bool) (a : Act) (w : World), C w → Closed md ops listed →
  (∀ j oj, ops[j]? = some oj → j ≠ i → listed.getD j true = false → (∀ e ∈ oj.after, Region.binds md e = true → e.on ≠ i) → oi.apart ops oj = true) →
  (∀ j oj, ops[j]? = some oj → j ≠ i → listed.getD j true = false → ef oj = true → Desc md ops i j) →
  i ∈ Region.ready md ops listed → Region.wanted oi (yielded ops a.tmps) = true →
  oi.effs P a w (fun a' w' => C w' ∧ wpAnyT P md ops ef C Q fuel (listed.setIfInBounds i true) a' w') → wpAnyT P md ops ef C Q (fuel + 1) listed a w := by
 intro fuel
 induction fuel with
 | zero =>
  intro listed a w hC _ _ _ hr hwa H
  refine ⟨fun h => (by rw [h] at hr; cases hr), fun j hj => ?_⟩
  by_cases hji : j = i
  · subst hji
    unfold tOp
    simp only [hi, hwa, if_true, Oper.tame, hef]
    exact H
  · obtain ⟨v, w1, _, H1⟩ := Oper.effs_some H
    have := ready_mono hj hji
    rw [H1.1] at this
    cases this
 | succ fuel ih =>
  intro listed a w hC hcl hfree heff hr hwa H
  refine ⟨fun h => (by rw [h] at hr; cases hr), fun j hj => ?_⟩
  by_cases hji : j = i
  · subst hji
    unfold tOp
    simp only [hi, hwa, if_true, Oper.tame, hef]
    exact H
  · obtain ⟨hjun, oj, hoj, hall⟩ := mem_ready.1 hj
    have hiun := (mem_ready.1 hr).1
    have hnot : ∀ e ∈ oj.after, Region.binds md e = true → e.on ≠ i := fun e he hb heq => by
     have h1 := hall e he hb
     rw [heq] at h1
     exact not_both hiun h1
    have hap := hfree j oj hoj hji hjun hnot
    obtain ⟨h1, h2, h3⟩ := Oper.apart_spec hap
    have hsi := fun cs b => hsel i oi cs b hi
    have hsj := fun cs b => hsel j oj cs b hoj
    have h2' : ∀ x, oj.dst = some x → oi.dst ≠ some x := fun x hx hx' => h2 x hx' hx
    have hfree' : ∀ k ok, ops[k]? = some ok → k ≠ i → (listed.setIfInBounds j true).getD k true = false →
     (∀ e ∈ ok.after, Region.binds md e = true → e.on ≠ i) → oi.apart ops ok = true := fun k ok hk hki hun hno => by
     refine hfree k ok hk hki ?_ hno
     by_cases hjk : j = k
     · subst hjk; exact hjun
     · rw [getD_set_ne true hjk] at hun; exact hun
    have heff' : ∀ k ok, ops[k]? = some ok → k ≠ i → (listed.setIfInBounds j true).getD k true = false → ef ok = true → Desc md ops i k := fun k ok hk hki hun he => by
     refine heff k ok hk hki ?_ he
     by_cases hjk : j = k
     · subst hjk; exact hjun
     · rw [getD_set_ne true hjk] at hun; exact hun
    -- on behind j, its value u at hand
    have go : ∀ u, (∀ v w', C w' → wpAnyT P md ops ef C Q (fuel + 1) (listed.setIfInBounds i true) (a.put oi.dst v) w' → wpAnyT P md ops ef C Q fuel ((listed.setIfInBounds j true).setIfInBounds i true) ((a.put oi.dst v).put oj.dst u) w') →
     wpAnyT P md ops ef C Q (fuel + 1) (listed.setIfInBounds j true) (a.put oj.dst u) w := fun u hu => by
     refine ih (listed.setIfInBounds j true) (a.put oj.dst u) w hC (hcl.set hj) hfree' heff' (ready_mono hr (Ne.symm hji)) (by rw [wanted_put oi a oj.dst u h3]; exact hwa) ?_
     refine Oper.effs_put (execOp_put oi hsi a oj.dst u h3) h2' ?_
     exact Oper.effs_mono (fun v w' h' => ⟨h'.1, hu v w' h'.1 h'.2⟩) H
    obtain ⟨v, w1, hC1, H1⟩ := Oper.effs_some H
    have t1 := H1.2 j (ready_mono hj hji)
    unfold tOp at t1 ⊢
    simp only [hoj] at t1 ⊢
    rw [wanted_put oj a oi.dst v h1] at t1
    by_cases hwj : Region.wanted oj (yielded ops a.tmps) = true
    · simp only [hwj, if_true] at t1 ⊢
      have hefj : ef oj = false := by
       cases he : ef oj with
       | false => rfl
       | true =>
        have := heff j oj hoj hji hjun he listed hcl (fun oj' hoj' e he' hb => by
         have : oj' = oj := Option.some.inj (hoj'.symm.trans hoj)
         subst this
         exact hall e he' hb)
        exact (not_both hiun this).elim
      simp only [Oper.tame, hefj] at t1 ⊢
      obtain ⟨u, hu, _⟩ := t1
      have hu' : ∀ w', C w' → oj.pureAt P a w' u := fun w' hw' => by
       have := hu w' hw'
       unfold Oper.pureAt at *
       rwa [execOp_put oj hsj a oi.dst v h1] at this
      refine ⟨u, hu', go u fun v' w' hC' H' => ?_⟩
      have t2 := H'.2 j (ready_mono hj hji)
      unfold tOp at t2
      simp only [hoj] at t2
      rw [wanted_put oj a oi.dst v' h1] at t2
      simp only [hwj, if_true, Oper.tame, hefj] at t2
      obtain ⟨u', hu2, H2⟩ := t2
      have he : u' = u := by
       have q := hu2 w' hC'
       have q' := hu' w' hC'
       unfold Oper.pureAt at q q'
       rw [execOp_put oj hsj a oi.dst v' h1] at q
       exact Oper.pureUpon_one q q'
      subst he
      rw [Array.setIfInBounds_comm _ _ (Ne.symm hji)] at H2
      rw [Array.setIfInBounds_comm _ _ hji]
      rw [Array.setIfInBounds_comm _ _ (Ne.symm hji)]
      exact H2
    · simp only [hwj] at t1 ⊢
      refine go undef fun v' w' hC' H' => ?_
      have t2 := H'.2 j (ready_mono hj hji)
      unfold tOp at t2
      simp only [hoj] at t2
      rw [wanted_put oj a oi.dst v' h1] at t2
      simp only [hwj] at t2
      rw [Array.setIfInBounds_comm _ _ hji]
      exact t2

/-! ### the chain of effects, by looking -/
def Region.waitsT (md : Region.Mode) (ops : Array Oper) : Nat → Nat → Nat → Bool
 | 0, _, _ => false
 | f + 1, j, i => match ops[j]? with
  | none => false
  | some oj => oj.after.any fun e => Region.binds md e && (e.on == i || Region.waitsT md ops f e.on i)

theorem waitsT_desc : ∀ (f j i : Nat), Region.waitsT md ops f j i = true → Desc md ops i j
 | 0, _, _, h => by simp [Region.waitsT] at h
 | f + 1, j, i, h => by
  unfold Region.waitsT at h
  split at h
  · cases h
  · rename_i oj hoj
    obtain ⟨e, he, hb⟩ := Array.any_eq_true'.1 h
    simp only [Bool.and_eq_true, Bool.or_eq_true, beq_iff_eq] at hb
    intro listed hcl hall
    have h1 := hall oj hoj e he hb.1
    rcases hb.2 with rfl | h2
    · exact h1
    · exact waitsT_desc f e.on i h2 listed hcl fun o ho e' he' hb' => hcl e.on o ho h1 e' he' hb'

def Region.chainT (md : Region.Mode) (ops : Array Oper) (ef : Oper → Bool) : List Oper → Nat → Option Nat → Bool
 | [], _, _ => true
 | o :: rest, k, last => if ef o then (match last with | none => true | some p => Region.waitsT md ops 4 k p) && Region.chainT md ops ef rest (k + 1) (some k) else Region.chainT md ops ef rest (k + 1) last

theorem chainT_desc {i : Nat} : ∀ (l : List Oper) (k p : Nat), Region.chainT md ops ef l k (some p) = true → (i = p ∨ (Desc md ops i p)) →
 ∀ (t : Nat) (o : Oper), l[t]? = some o → ef o = true → Desc md ops i (k + t)
 | [], _, _, _, _, t, o, h, _ => by simp at h
 | x :: l, k, p, hc, hp, t, o, h, he => by
  unfold Region.chainT at hc
  by_cases hx : ef x = true
  · simp only [hx, if_true, Bool.and_eq_true] at hc
    have hk : Desc md ops i k := by
     have hw := waitsT_desc 4 k p hc.1
     rcases hp with rfl | hp
     · exact hw
     · intro listed hcl hall
       have h1 := hw listed hcl hall
       exact hp listed hcl fun o' ho' e' he' hb' => hcl p o' ho' h1 e' he' hb'
    cases t with
    | zero => exact hk
    | succ t =>
     have := chainT_desc l (k + 1) k hc.2 (.inr hk) t o (by simpa using h) he
     rwa [show k + 1 + t = k + (t + 1) by omega] at this
  · simp only [hx] at hc
    cases t with
    | zero => simp only [List.getElem?_cons_zero, Option.some.injEq] at h; subst h; exact absurd he hx
    | succ t =>
     have := chainT_desc l (k + 1) p hc hp t o (by simpa using h) he
     rwa [show k + 1 + t = k + (t + 1) by omega] at this

theorem wpAnyT_lex {Q : Act → World → Prop} (hs : Region.noSelect ops = true) : ∀ (l : List Oper) (k : Nat) (listed : Array Bool) (last : Option Nat) (a : Act) (w : World), (∀ j, l[j]? = ops[k + j]?) → C w → Closed md ops listed →
 (∀ j, j < k → listed.getD j true = true) → Region.lexFrom md ops l.length k listed = true → Region.chainT md ops ef l k last = true →
 wpTame P ops ef C Q l a w → wpAnyT P md ops ef C Q l.length listed a w
 | [], _, _, _, _, _, _, _, _, _, hB, _, h => ⟨by simpa [Region.lexFrom] using hB, h⟩
 | o :: l, k, listed, last, a, w, hl, hC, hcl, hlt, hB, hch, h => by
  have h0 : ops[k]? = some o := by simpa using (hl 0).symm
  simp only [List.length_cons, Region.lexFrom, Bool.and_eq_true] at hB
  obtain ⟨⟨hr, hf⟩, hB'⟩ := hB
  have hr' : k ∈ Region.ready md ops listed := by simpa using hr
  have hl' : ∀ j, l[j]? = ops[k + 1 + j]? := fun j => by have := hl (j + 1); simpa [Nat.add_assoc, Nat.add_comm 1 j] using this
  have hlt' : ∀ j, j < k + 1 → (listed.setIfInBounds k true).getD j true = true := fun j hj => by
   by_cases hjk : k = j
   · subst hjk
     rcases Nat.lt_or_ge k listed.size with h' | h'
     · simp [h']
     · simp [Array.getElem?_eq_none h']
   · rw [getD_set_ne true hjk]; exact hlt j (by omega)
  unfold Region.chainT at hch
  by_cases hw : Region.wanted o (yielded ops a.tmps) = true
  · simp only [wpTame, hw, if_true] at h
    by_cases he : ef o = true
    · simp only [he, if_true, Bool.and_eq_true] at hch
      simp only [Oper.tame, he, if_true] at h
      refine wpAnyT_eff h0 (Region.noSelect_spec hs) he l.length listed a w hC hcl (Region.free_spec h0 hf) ?_ hr' hw ?_
      · intro j oj hj hne hun hej
        have hkj : k < j := by
         rcases Nat.lt_trichotomy j k with h' | h' | h'
         · have := hlt j h'; rw [hun] at this; cases this
         · exact absurd h' hne
         · exact h'
        have := chainT_desc (i := k) l (k + 1) k hch.2 (.inl rfl) (j - (k + 1)) oj (by rw [hl', show k + 1 + (j - (k + 1)) = j by omega]; exact hj) hej
        rwa [show k + 1 + (j - (k + 1)) = j by omega] at this
      · exact Oper.effs_mono (fun v w' h' => ⟨h'.1, wpAnyT_lex hs l (k + 1) _ (some k) _ w' hl' h'.1 (hcl.set hr') hlt' hB' hch.2 h'.2⟩) h
    · simp only [he] at hch
      simp only [Oper.tame, he] at h
      obtain ⟨v, h1, h2⟩ := h
      exact wpAnyT_first h0 (Region.noSelect_spec hs) l.length listed a w (Region.free_spec h0 hf) hr' (.inl ⟨hw, by simpa using he, h1⟩)
       (wpAnyT_lex hs l (k + 1) _ last _ w hl' hC (hcl.set hr') hlt' hB' hch h2)
  · simp only [wpTame, hw] at h
    have hch' : ∃ last', Region.chainT md ops ef l (k + 1) last' = true := by
     by_cases he : ef o = true
     · simp only [he, if_true, Bool.and_eq_true] at hch; exact ⟨_, hch.2⟩
     · simp only [he] at hch; exact ⟨_, hch⟩
    obtain ⟨last', hch'⟩ := hch'
    exact wpAnyT_first h0 (Region.noSelect_spec hs) l.length listed a w (Region.free_spec h0 hf) hr' (.inr ⟨by simpa using hw, rfl⟩)
     (wpAnyT_lex hs l (k + 1) _ last' _ w hl' hC (hcl.set hr') hlt' hB' hch' h)

def Region.tameB (md : Region.Mode) (ef : Oper → Bool) (l : List Oper) : Bool :=
 Region.noSelect l.toArray && Region.lexFrom md l.toArray l.toArray.size 0 (Array.replicate l.toArray.size false) && Region.chainT md l.toArray ef l 0 none

theorem wp_region_tame {id : Nat} {Q : Exit → Act → World → Prop} {a : Act} {w : World} {l : List Oper} (C : World → Prop) (ef : Oper → Bool) (hm : P.follows .mixedOrders = true) (hB : Region.tameB .any ef l = true)
 (hC : C w.drew) (h : wpTame P l.toArray ef C (fun a' w' => Q .normal a' w') l a w.drew) : (Code.region id l.toArray true).wp P Q a w := by
 simp only [Region.tameB, Bool.and_eq_true] at hB
 refine wp_region_any hm (wpAny_of_T (ef := ef) (Q := fun a' w' => Q .normal a' w') (fun _ _ _ h => h) _ _ _ _ hC ?_)
 have := wpAnyT_lex (C := C) (md := .any) (P := P) (ef := ef) hB.1.1 l 0 (Array.replicate l.toArray.size false) none a w.drew (by simp) hC
  (fun j oj _ hl => by
   exfalso
   rcases Nat.lt_or_ge j l.length with h' | h' <;> simp [h'] at hl)
  (fun j hj => absurd hj (Nat.not_lt_zero j)) (by simpa using hB.1.2) hB.2 h
 simpa using this

def Op.isEff : Op → Bool
 | .alloc .. | .box .. | .store .. | .buildSlice .. | .insert .. | .mapUpdate .. | .makeMap .. | .makeSlice .. | .makeChan .. | .mapEntry .. | .entryStore .. | .range .. | .next .. | .panic .. | .send .. | .recv .. | .select .. | .go .. | .defer .. | .ready .. | .waits .. => true
 | .call c => match c.callee with
  | .builtin .len | .builtin .cap | .builtin .max | .builtin .min => false
  | _ => true
 | _ => false
def Oper.isEff (o : Oper) : Bool := o.op.isEff

theorem World.drew_ext (w : World) : w.drew = w.ext ⟨#[], w.drawn + 1⟩ := by simp [World.ext]

theorem tmX {id : Nat} {Q : Exit → Act → World → Prop} {a : Act} {w : World} {l : List Oper} (hm : P.follows .mixedOrders = true) (hB : Region.tameB .any Oper.isEff l = true)
 (h : wpTame P l.toArray Oper.isEff (fun w' => ∃ x, w' = w.ext x) (fun a' w' => Q .normal a' w') l a w.drew) : (Code.region id l.toArray true).wp P Q a w :=
 wp_region_tame (fun w' => ∃ x, w' = w.ext x) Oper.isEff hm hB ⟨_, World.drew_ext w⟩ h

/-! ### the steps -/
theorem run_v {β : Type} {s : Sem β} {g : β → Value} {w w' : World} {f : FuncId} {args : Array Value} (h : Sem.run P (s >>= fun x => pure (Next.value (g x))) w = .ok (.enter f args) w') : False := by
 simp only [Sem.run_bind] at h
 cases hs : s.run P w with
 | ok v w1 => rw [hs] at h; simp [Result.andThen] at h
 | halt x w1 => rw [hs] at h; simp [Result.andThen] at h

theorem run_a {r : Result Value} {f : FuncId} {args : Array Value} {w' : World} (h : (r.andThen fun a w' => Result.ok (Next.value a) w') = .ok (.enter f args) w') : False := by
 cases r <;> simp [Result.andThen] at h

theorem noEnter {o : Oper} {ρ : Operand → Value} (h : o.isEff = false) (w : World) (f : FuncId) (args : Array Value) (w' : World) : (execOp ρ o).run P w ≠ .ok (.enter f args) w' := by
 intro hr
 unfold execOp at hr
 unfold Oper.isEff at h
 cases ho : o.op <;> simp only [ho] at hr h
 case nilCheck x =>
  repeat' split at hr
  all_goals (try (simp [runtimePanic] at hr; done))
  all_goals
   simp only [Sem.run_bind] at hr
   generalize hp : Sem.run P program w = r at hr
   cases r with
   | halt x w1 => simp [Result.andThen] at hr
   | ok p w1 =>
    simp only [Result.andThen] at hr
    generalize Sem.run P (nilAhead _ _ _ _) w1 = r at hr
    cases r with
    | halt x w1 => simp at hr
    | ok q w1 =>
     simp only at hr
     split at hr
     · simp at hr
     · simp at hr
 case call c =>
  obtain ⟨cal, as, ts⟩ := c
  cases cal <;> simp only [Op.isEff] at h
  all_goals (try (simp at h; done))
  rename_i b
  cases b <;> simp only [Op.isEff] at h
  all_goals (try (simp at h; done))
  all_goals (simp [resolve, invoke, builtin] at hr; exact run_a hr)
 all_goals first | exact run_v hr | (simp [Op.isEff] at h; done) | (simp at hr; done)

theorem quiet_pure {o : Oper} {a : Act} {K : Act → Prop} (hn : ∀ w f args w', (execOp a.eval o).run P w ≠ .ok (.enter f args) w') (h : o.quiet P a C K) : ∃ v, (∀ w', C w' → o.pureAt P a w' v) ∧ K (a.put o.dst v) := by
 obtain ⟨v, h1, h2⟩ := h
 refine ⟨v, fun w' hw' => ?_, h2⟩
 have h3 := h1 w' hw'
 unfold Oper.quietAt at h3
 unfold Oper.pureAt
 have hn' := hn w'
 generalize (execOp a.eval o).run P w' = r at *
 cases r with
 | ok n w1 =>
  cases n <;> simp only [Oper.quietUpon] at h3 <;> simp only [Oper.pureUpon]
  · exact h3
  · exact h3
  · exact absurd rfl (hn' _ _ _)
 | halt x w1 => simp only [Oper.quietUpon] at h3

variable {Q : Act → World → Prop} {o : Oper} {rest : List Oper} {a : Act} {w : World}
theorem tmN (h : Q a w) : wpTame P ops ef C Q [] a w := h
theorem tmS (hw : Region.wanted o (yielded ops a.tmps) = false) (h : wpTame P ops ef C Q rest (a.put o.dst undef) w) : wpTame P ops ef C Q (o :: rest) a w := by
 simp only [wpTame, hw, Bool.false_eq_true, if_false]; exact h
theorem tmE (hw : Region.wanted o (yielded ops a.tmps) = true) (he : ef o = true)
 (h : ∀ K : Act → World → Prop, (∀ a' w', a'.defers = a.defers → C w' → wpTame P ops ef C Q rest a' w' → K a' w') → o.wp P a w K (fun _ _ _ => False)) : wpTame P ops ef C Q (o :: rest) a w := by
 simp only [wpTame, hw, if_true, Oper.tame, he]
 exact h _ fun a' w' h1 h2 h3 => ⟨h1, h2, h3⟩
theorem tmP (hw : Region.wanted o (yielded ops a.tmps) = true) (he : ef o = false) (hn : o.isEff = false)
 (h : ∀ K : Act → Prop, (∀ a', wpTame P ops ef C Q rest a' w → K a') → o.quiet P a C K) : wpTame P ops ef C Q (o :: rest) a w := by
 simp only [wpTame, hw, if_true, Oper.tame, he]
 exact quiet_pure (noEnter hn) (h _ fun a' h' => h')

/-! ### where effects stand in no chain: every order of the effects, reads first -/
variable {fuel : Nat} {listed : Array Bool} {l : List Oper}
theorem at_drop {l : List Oper} {i : Nat} {o : Oper} {rest : List Oper} (h : l.drop i = o :: rest) : l.toArray[i]? = some o := by
 have := congrArg List.head? h
 simpa using this
theorem tree_pure (i : Nat) (hi : l.drop i = o :: rest) (hs : Region.noSelect l.toArray = true) (hf : Region.free md l.toArray listed i = true) (hr : (Region.ready md l.toArray listed).contains i = true)
 (hw : Region.wanted o (yielded l.toArray a.tmps) = true) (he : ef o = false) (hn : o.isEff = false)
 (h : ∀ K : Act → Prop, (∀ a', wpAnyT P md l.toArray ef C Q fuel (listed.setIfInBounds i true) a' w → K a') → o.quiet P a C K) : wpAnyT P md l.toArray ef C Q (fuel + 1) listed a w := by
 obtain ⟨v, h1, h2⟩ := quiet_pure (noEnter hn) (h _ fun a' h' => h')
 exact wpAnyT_first (at_drop hi) (Region.noSelect_spec hs) fuel listed a w (Region.free_spec (at_drop hi) hf) (by simpa using hr) (.inl ⟨hw, he, h1⟩) h2
theorem tree_skip (i : Nat) (hi : l.drop i = o :: rest) (hs : Region.noSelect l.toArray = true) (hf : Region.free md l.toArray listed i = true) (hr : (Region.ready md l.toArray listed).contains i = true)
 (hw : Region.wanted o (yielded l.toArray a.tmps) = false) (h : wpAnyT P md l.toArray ef C Q fuel (listed.setIfInBounds i true) (a.put o.dst undef) w) : wpAnyT P md l.toArray ef C Q (fuel + 1) listed a w :=
 wpAnyT_first (at_drop hi) (Region.noSelect_spec hs) fuel listed a w (Region.free_spec (at_drop hi) hf) (by simpa using hr) (.inr ⟨hw, rfl⟩) h
theorem tree_all (rs : List Nat) (hr : Region.ready md l.toArray listed = rs) (hne : rs ≠ []) (h : ∀ i ∈ rs, tOp P l.toArray ef C i (wpAnyT P md l.toArray ef C Q fuel (listed.setIfInBounds i true)) a w) : wpAnyT P md l.toArray ef C Q (fuel + 1) listed a w :=
 ⟨fun h0 => absurd (hr.symm.trans h0) hne, fun i hi => h i (hr ▸ hi)⟩
theorem tree_eff (i : Nat) (hi : l.drop i = o :: rest) (hw : Region.wanted o (yielded l.toArray a.tmps) = true) (he : ef o = true)
 (h : ∀ K : Act → World → Prop, (∀ a' w', a'.defers = a.defers → C w' → wpAnyT P md l.toArray ef C Q fuel (listed.setIfInBounds i true) a' w' → K a' w') → o.wp P a w K (fun _ _ _ => False)) :
 tOp P l.toArray ef C i (wpAnyT P md l.toArray ef C Q fuel (listed.setIfInBounds i true)) a w := by
 unfold tOp
 simp only [at_drop hi, hw, if_true, Oper.tame, he]
 exact h _ fun a' w' h1 h2 h3 => ⟨h1, h2, h3⟩
theorem tree_done (hr : Region.ready md l.toArray listed = []) (h : Q a w) : wpAnyT P md l.toArray ef C Q 0 listed a w := ⟨hr, h⟩

theorem wp_region_tree {id : Nat} {Q : Exit → Act → World → Prop} {a : Act} {w : World} {l : List Oper} (hm : P.follows .mixedOrders = true)
 (h : wpAnyT P .any l.toArray Oper.isEff (fun w' => ∃ x, w' = w.ext x) (fun a' w' => Q .normal a' w') l.length (Array.replicate l.length false) a w.drew) : (Code.region id l.toArray true).wp P Q a w := by
 refine wp_region_any hm (wpAny_of_T (C := fun w' => ∃ x, w' = w.ext x) (ef := Oper.isEff) (Q := fun a' w' => Q .normal a' w') (fun _ _ _ h => h) _ _ _ _ ⟨_, World.drew_ext w⟩ ?_)
 simpa using h
end
attribute [irreducible] wpTame wpAnyT tOp
end Go
