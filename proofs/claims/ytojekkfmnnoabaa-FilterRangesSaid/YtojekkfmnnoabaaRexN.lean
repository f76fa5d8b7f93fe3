/- An executor of the program's functions on trees of values, proved sound. -/
import Derived.Test.YtojekkfmnnoabaaRexM
set_option linter.unusedSimpArgs false
set_option linter.unusedVariables false
set_option linter.defProp false
namespace Go.Rex
open Go.RowKit

/-- the word on regions that draw their order -/
def DrawSound (P : Program) (C : Ctx) : Prop :=
  ∀ {id : Nat} {ops : Array Oper} {tm tm' : List Value} {h h' : List Blk} {wr : Option Nat}, runDraw C P ops tm h = some (tm', h', wr) →
    ∀ {ro' : Option Nat} {n B lo : Nat} {D : Nat → Prop} {m : NMap} {w : World} {a : Act} {Q : Exit → Act → World → Prop}, Rel B lo D m h w → lo ≤ h.length → VRs D m tm a.tmps.toList → WrOk lo wr →
      (∀ a' w' m', Post B lo D m h w m' h' w' → VRs (Dx D h.length h'.length) m' tm' a'.tmps.toList → a'.defers = a.defers → Q .normal a' w') → (Code.region id ops true).wpIn (Fw ro') n P Q a w

section
variable {P : Program} {C : Ctx} {ro : Option Nat}

theorem rounds_mono {F : Fence} {n : Nat} {P : Program} {c : Code} {Q Q' : Exit → Act → World → Prop} (hq : ∀ e a w, Q e a w → Q' e a w) : ∀ {m : Nat} {a : Act} {w : World}, Code.roundsIn F n P c Q m a w → Code.roundsIn F n P c Q' m a w := by
  intro m
  induction m with
  | zero => intro a w h; exact h
  | succ m ih =>
    intro a w h
    rw [roundsIn_succ] at h ⊢
    refine wpIn_mono h fun e a w h => ?_
    cases e <;> first | exact ih h | exact hq _ _ _ h

theorem ExQ.then {B lo : Nat} {D : Nat → Prop} {m m1 : NMap} {h h1 h2 : List Blk} {w w1 : World} {e : Exit} {a2 : AS} (hp : Post B lo D m h w m1 h1 w1) {e' : Exit} {a' : Act} {w' : World}
    (hq : ExQ B lo (Dx D h.length h1.length) m1 h1 w1 e a2 h2 e' a' w') : ExQ B lo D m h w e a2 h2 e' a' w' := by
  obtain ⟨he, m2, hp2, hA2⟩ := hq
  rw [Dx.trans hp.grow hp2.grow] at hA2
  exact ⟨he, m2, hp.trans hp2, hA2⟩

theorem exec_sound (hC : CtxOk P C) (hDraw : DrawSound P C) : ∀ (k : Nat) (c : Code) (a : AS) (h : List Blk) (e : Exit) (a' : AS) (h' : List Blk) (wr : Option Nat), exec C P ro k c a h = some (e, a', h', wr) →
    ∀ {ro' : Option Nat} {n B lo : Nat} {D : Nat → Prop} {m : NMap} {w : World} {act : Act}, Rel B lo D m h w → lo ≤ h.length → WrOk lo wr → AR D m a act → RoR D m ro ro' → c.wpIn (Fw ro') n P (ExQ B lo D m h w e a' h') act w := by
  intro k
  induction k using Nat.strongRecOn with
  | _ k ih =>
  cases k with
  | zero => intro c a h e a' h' wr hv; simp [exec] at hv
  | succ k =>
  intro c a h e a' h' wr hv ro' n B lo D m w act hr hlo hw hA hro
  have refl : ExQ B lo D m h w .normal a h .normal act w := ⟨rfl, m, Post.refl hr, by rw [Dx.refl]; exact hA⟩
  cases c with
  | skip =>
    obtain ⟨rfl, rfl, rfl, rfl⟩ : Exit.normal = e ∧ a = a' ∧ h = h' ∧ none = wr := by simpa [exec] using hv
    exact wpIn_skip refl
  | label l =>
    obtain ⟨rfl, rfl, rfl, rfl⟩ : Exit.normal = e ∧ a = a' ∧ h = h' ∧ none = wr := by simpa [exec] using hv
    exact wpIn_label refl
  | exit id =>
    obtain ⟨rfl, rfl, rfl, rfl⟩ : Exit.exit id = e ∧ a = a' ∧ h = h' ∧ none = wr := by simpa [exec] using hv
    exact wpIn_exit ⟨rfl, m, Post.refl hr, by rw [Dx.refl]; exact hA⟩
  | ret =>
    obtain ⟨rfl, rfl, rfl, rfl⟩ : Exit.ret = e ∧ a = a' ∧ h = h' ∧ none = wr := by simpa [exec] using hv
    exact wpIn_ret ⟨rfl, m, Post.refl hr, by rw [Dx.refl]; exact hA⟩
  | seq x y =>
    simp only [exec] at hv
    cases hx : exec C P ro k x a h with
    | none => rw [hx] at hv; cases hv
    | some r =>
      obtain ⟨e1, a1, h1, w1⟩ := r
      rw [hx] at hv
      have hother : e1 ≠ .normal → e1 = e ∧ a1 = a' ∧ h1 = h' ∧ w1 = wr := by
        intro hne
        cases e1 <;> first | (exact absurd rfl hne) | simpa using hv
      cases e1 with
      | normal =>
        simp only at hv
        cases hy : exec C P ro k y a1 h1 with
        | none => rw [hy] at hv; cases hv
        | some r =>
          obtain ⟨e2, a2, h2, w2⟩ := r
          rw [hy] at hv
          obtain ⟨rfl, rfl, rfl, rfl⟩ : e2 = e ∧ a2 = a' ∧ h2 = h' ∧ wmin w1 w2 = wr := by simpa using hv
          obtain ⟨hw1, hw2⟩ := hw.min
          refine wpIn_seq (wpIn_mono (ih k (by omega) x a h _ a1 h1 w1 hx hr hlo hw1 hA hro) ?_)
          rintro e' act' w' ⟨rfl, m1, hp1, hA1⟩
          exact wpIn_mono (ih k (by omega) y a1 h1 _ a2 h2 w2 hy hp1.rel (Nat.le_trans hlo hp1.grow) hw2 hA1 (hp1.ror hro)) fun e'' a'' w'' hq => hq.then hp1
      | _ =>
        obtain ⟨rfl, rfl, rfl, rfl⟩ := hother (by simp)
        refine wpIn_seq (wpIn_mono (ih k (by omega) x a h _ _ _ _ hx hr hlo hw hA hro) ?_)
        rintro e' act' w' hq
        obtain ⟨rfl, hq'⟩ := hq
        exact ⟨rfl, hq'⟩
  | cond c x y =>
    simp only [exec] at hv
    split at hv
    · rename_i hc
      split at hv
      · rename_i t ht
        have h1 := ev_vr hA.tm hc
        rw [ht] at h1
        have h2 : act.eval c = .bool t := by
          generalize act.eval c = z at *
          cases h1; rfl
        refine wpIn_cond h2 ?_
        cases t with
        | true => exact ih k (by omega) x a h _ _ _ _ hv hr hlo hw hA hro
        | false => exact ih k (by omega) y a h _ _ _ _ hv hr hlo hw hA hro
      · cases hv
    · cases hv
  | block id b =>
    simp only [exec] at hv
    cases hx : exec C P ro k b a h with
    | none => rw [hx] at hv; cases hv
    | some r =>
      obtain ⟨e1, a1, h1, w1⟩ := r
      rw [hx] at hv
      refine wpIn_block ?_
      cases e1 with
      | exit id' =>
        simp only at hv
        split at hv
        · rename_i hid
          obtain ⟨rfl, rfl, rfl, rfl⟩ : Exit.normal = e ∧ a1 = a' ∧ h1 = h' ∧ w1 = wr := by simpa using hv
          refine wpIn_mono (ih k (by omega) b a h _ _ _ _ hx hr hlo hw hA hro) ?_
          rintro e' act' w' ⟨rfl, hq'⟩
          simp only [Exit.inBlock, hid, if_true]
          exact ⟨rfl, hq'⟩
        · rename_i hid
          obtain ⟨rfl, rfl, rfl, rfl⟩ : Exit.exit id' = e ∧ a1 = a' ∧ h1 = h' ∧ w1 = wr := by simpa using hv
          refine wpIn_mono (ih k (by omega) b a h _ _ _ _ hx hr hlo hw hA hro) ?_
          rintro e' act' w' ⟨rfl, hq'⟩
          simp only [Exit.inBlock, hid, if_false]
          exact ⟨rfl, hq'⟩
      | _ =>
        obtain ⟨rfl, rfl, rfl, rfl⟩ : _ = e ∧ a1 = a' ∧ h1 = h' ∧ w1 = wr := by simpa using hv
        refine wpIn_mono (ih k (by omega) b a h _ _ _ _ hx hr hlo hw hA hro) ?_
        rintro e' act' w' ⟨rfl, hq'⟩
        exact ⟨rfl, hq'⟩
  | loop b =>
    refine wpIn_loop_rounds (k + 1) ?_
    have key : ∀ j, j ≤ k + 1 → ∀ (a : AS) (h : List Blk) (wr : Option Nat), exec C P ro j (.loop b) a h = some (e, a', h', wr) → ∀ {D : Nat → Prop} {m : NMap} {w : World} {act : Act}, Rel B lo D m h w → lo ≤ h.length → WrOk lo wr → AR D m a act → RoR D m ro ro' →
        Code.roundsIn (Fw ro') n P b (ExQ B lo D m h w e a' h') j act w := by
      intro j
      induction j with
      | zero => intro _ a h wr hv; simp [exec] at hv
      | succ j ihj =>
        intro hj a h wr hv D m w act hr hlo hw hA hro
        rw [roundsIn_succ]
        simp only [exec] at hv
        cases hx : exec C P ro j b a h with
        | none => rw [hx] at hv; cases hv
        | some r =>
          obtain ⟨e1, a1, h1, w1⟩ := r
          rw [hx] at hv
          have hother : e1 ≠ .normal → e1 = e ∧ a1 = a' ∧ h1 = h' ∧ w1 = wr := by
            intro hne
            cases e1 <;> first | (exact absurd rfl hne) | simpa using hv
          cases e1 with
          | normal =>
            simp only at hv
            cases hy : exec C P ro j (.loop b) a1 h1 with
            | none => rw [hy] at hv; cases hv
            | some r =>
              obtain ⟨e2, a2, h2, w2⟩ := r
              rw [hy] at hv
              obtain ⟨rfl, rfl, rfl, rfl⟩ : e2 = e ∧ a2 = a' ∧ h2 = h' ∧ wmin w1 w2 = wr := by simpa using hv
              obtain ⟨hw1, hw2⟩ := hw.min
              refine wpIn_mono (ih j (by omega) b a h _ a1 h1 w1 hx hr hlo hw1 hA hro) ?_
              rintro e' act' w' ⟨rfl, m1, hp1, hA1⟩
              have := ihj (by omega) a1 h1 w2 hy hp1.rel (Nat.le_trans hlo hp1.grow) hw2 hA1 (hp1.ror hro)
              exact rounds_mono (fun e'' a'' w'' hq => hq.then hp1) this
          | _ =>
            obtain ⟨rfl, rfl, rfl, rfl⟩ := hother (by simp)
            refine wpIn_mono (ih j (by omega) b a h _ _ _ _ hx hr hlo hw hA hro) ?_
            rintro e' act' w' hq
            obtain ⟨rfl, hq'⟩ := hq
            exact ⟨rfl, hq'⟩
    exact key (k + 1) (Nat.le_refl _) a h wr hv hr hlo hw hA hro
  | region id ops draw =>
    cases draw with
    | true =>
      simp only [exec] at hv
      cases hx : runDraw C P ops a.tm h with
      | none => rw [hx] at hv; cases hv
      | some r =>
        obtain ⟨tm1, h1, w1⟩ := r
        rw [hx] at hv
        obtain ⟨rfl, rfl, rfl, rfl⟩ : Exit.normal = e ∧ (⟨tm1, a.df⟩ : AS) = a' ∧ h1 = h' ∧ w1 = wr := by simpa [liftE] using hv
        exact hDraw hx hr hlo hA.tm hw fun act' w' m' hp hA' hd => ⟨rfl, m', hp, hA', by rw [hd]; exact hp.drs hA.df⟩
    | false =>
      simp only [exec] at hv
      split at hv
      · rename_i hreg
        cases hx : runOps C P ops ops.toList a.tm h with
        | none => rw [hx] at hv; cases hv
        | some r =>
          obtain ⟨tm1, h1, w1⟩ := r
          rw [hx] at hv
          obtain ⟨rfl, rfl, rfl, rfl⟩ : Exit.normal = e ∧ (⟨tm1, a.df⟩ : AS) = a' ∧ h1 = h' ∧ w1 = wr := by simpa [liftE] using hv
          refine wpIn_region ?_
          have := runOps_sound (ro := ro') (n := n) (Q := ExQ B lo D m h w .normal ⟨tm1, a.df⟩ h1) hC ops.toList 0 rfl hreg hr hlo hA.tm hx hw fun act' w' m' hp hA' hd => ⟨rfl, m', hp, hA', by rw [hd]; exact hp.drs hA.df⟩
          rwa [Array.length_toList, ← List.range_eq_range'] at this
      · cases hv
  | rangeFunc g ps assign body =>
    simp only [exec] at hv
    exact runRange_sound hC hr hlo hA hro hv hw
  | _ => simp [exec] at hv
end
end Go.Rex
