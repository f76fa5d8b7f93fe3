/- An executor of the program's functions on trees of values, proved sound. -/
import Derived.Test.YtojekkfmnnoabaaRexP
set_option linter.unusedSimpArgs false
set_option linter.unusedVariables false
set_option linter.defProp false
namespace Go.Rex
open Go.RowKit

/-! ### more fuel, more depth: nothing else -/
section
variable {P : Program} {C : Ctx} {ro : Option Nat}

theorem exec_mono : ∀ (k : Nat) (c : Code) (a : AS) (h : List Blk) {r : Exit × AS × List Blk × Option Nat}, exec C P ro k c a h = some r → ∀ j, exec C P ro (k + j) c a h = some r := by
  intro k
  induction k using Nat.strongRecOn with
  | _ k ih =>
  cases k with
  | zero => intro c a h r hv; simp [exec] at hv
  | succ k =>
  intro c a h r hv j
  rw [show k + 1 + j = k + j + 1 by omega]
  cases c with
  | seq x y =>
    simp only [exec] at hv ⊢
    cases hx : exec C P ro k x a h with
    | none => rw [hx] at hv; cases hv
    | some r1 =>
      obtain ⟨e1, a1, h1, w1⟩ := r1
      rw [hx] at hv
      rw [ih k (by omega) x a h hx j]
      cases e1 with
      | normal =>
        simp only at hv ⊢
        cases hy : exec C P ro k y a1 h1 with
        | none => rw [hy] at hv; cases hv
        | some r2 =>
          rw [hy] at hv
          rw [ih k (by omega) y a1 h1 hy j]
          exact hv
      | _ => exact hv
  | cond x y z =>
    simp only [exec] at hv ⊢
    split at hv
    · rename_i hc
      rw [if_pos hc]
      split at hv
      · rename_i t ht
        cases t with
        | true => exact ih k (by omega) y a h hv j
        | false => exact ih k (by omega) z a h hv j
      · cases hv
    · cases hv
  | block id b =>
    simp only [exec] at hv ⊢
    cases hx : exec C P ro k b a h with
    | none => rw [hx] at hv; cases hv
    | some r1 =>
      rw [hx] at hv
      rw [ih k (by omega) b a h hx j]
      exact hv
  | loop b =>
    simp only [exec] at hv ⊢
    cases hx : exec C P ro k b a h with
    | none => rw [hx] at hv; cases hv
    | some r1 =>
      obtain ⟨e1, a1, h1, w1⟩ := r1
      rw [hx] at hv
      rw [ih k (by omega) b a h hx j]
      cases e1 with
      | normal =>
        simp only at hv ⊢
        cases hy : exec C P ro k (.loop b) a1 h1 with
        | none => rw [hy] at hv; cases hv
        | some r2 =>
          rw [hy] at hv
          rw [ih k (by omega) (.loop b) a1 h1 hy j]
          exact hv
      | _ => exact hv
  | _ => simpa only [exec] using hv
theorem exec_le {k k' : Nat} (hk : k ≤ k') {c : Code} {a : AS} {h : List Blk} {r : Exit × AS × List Blk × Option Nat} (hv : exec C P ro k c a h = some r) : exec C P ro k' c a h = some r := by
  have := exec_mono k c a h hv (k' - k)
  rwa [show k + (k' - k) = k' by omega] at this
end

def Evt (p : Nat → Nat → Prop) : Prop := ∃ N, ∀ k d, N ≤ k → N ≤ d → p k d
theorem Evt.all {p : Nat → Nat → Prop} (h : ∀ k d, p k d) : Evt p := ⟨0, fun k d _ _ => h k d⟩
theorem Evt.and {p q : Nat → Nat → Prop} (h : Evt p) (g : Evt q) : Evt fun k d => p k d ∧ q k d := by
  obtain ⟨a, ha⟩ := h
  obtain ⟨b, hb⟩ := g
  exact ⟨max a b, fun k d hk hd => ⟨ha k d (by omega) (by omega), hb k d (by omega) (by omega)⟩⟩
theorem Evt.mono {p q : Nat → Nat → Prop} (h : Evt p) (g : ∀ k d, p k d → q k d) : Evt q := by
  obtain ⟨a, ha⟩ := h
  exact ⟨a, fun k d hk hd => g k d (ha k d hk hd)⟩

open Classical in
/-- what a call yields with as much fuel and depth as it takes -/
noncomputable def lim (P : Program) : Ctx :=
  ⟨fun f args h => if hx : ∃ r, Evt fun k d => (ctx P k d).call f args h = some r then some (Classical.choose hx) else none,
   fun l args h => if hx : ∃ r, Evt fun k d => (ctx P k d).round l args h = some r then some (Classical.choose hx) else none⟩

section
variable {P : Program}
theorem lim_call {f : FuncId} {args : List Value} {h : List Blk} {r : Value × List Blk × Option Nat} : (lim P).call f args h = some r ↔ Evt fun k d => (ctx P k d).call f args h = some r := by
  unfold lim
  simp only
  constructor
  · intro hv
    split at hv
    · rename_i hx
      obtain rfl := Option.some.inj hv
      exact Classical.choose_spec hx
    · cases hv
  · intro hv
    have hx : ∃ r, Evt fun k d => (ctx P k d).call f args h = some r := ⟨r, hv⟩
    rw [dif_pos hx]
    obtain ⟨N, hN⟩ := (Classical.choose_spec hx).and hv
    obtain ⟨h1, h2⟩ := hN N N (Nat.le_refl _) (Nat.le_refl _)
    rw [← h1, h2]
theorem lim_round {l : Nat} {args : List Value} {h : List Blk} {r : Value × List Blk × Option Nat} : (lim P).round l args h = some r ↔ Evt fun k d => (ctx P k d).round l args h = some r := by
  unfold lim
  simp only
  constructor
  · intro hv
    split at hv
    · rename_i hx
      obtain rfl := Option.some.inj hv
      exact Classical.choose_spec hx
    · cases hv
  · intro hv
    have hx : ∃ r, Evt fun k d => (ctx P k d).round l args h = some r := ⟨r, hv⟩
    rw [dif_pos hx]
    obtain ⟨N, hN⟩ := (Classical.choose_spec hx).and hv
    obtain ⟨h1, h2⟩ := hN N N (Nat.le_refl _) (Nat.le_refl _)
    rw [← h1, h2]

theorem xop_lim {ρ : Operand → Value} {o : Oper} {h : List Blk} {r : Value × List Blk × Option Nat} (hv : xop (lim P) P ρ o h = some r) : Evt fun k d => xop (ctx P k d) P ρ o h = some r := by
  unfold xop at hv ⊢
  split at hv
  · rename_i r' hh
    exact .all fun k d => hv
  · split at hv
    · rename_i c hc
      unfold xcall at hv ⊢
      split at hv
      · rename_i f hf
        split at hv
        · rename_i fn first captured hfv
          split at hv
          · rename_i g
            split at hv
            · rename_i fd hfd
              split at hv
              · rename_i bd hbd
                split at hv
                · rename_i hn
                  simp only [if_pos hn]
                  exact lim_call.1 hv
                · cases hv
              · rename_i hbd
                exact .all fun k d => hv
            · cases hv
          · rename_i l
            exact lim_round.1 hv
          · cases hv
        · cases hv
      · cases hv
    · cases hv

theorem runOps_lim {ops : Array Oper} : ∀ (l : List Oper) (tm : List Value) (h : List Blk) {r : List Value × List Blk × Option Nat}, runOps (lim P) P ops l tm h = some r → Evt fun k d => runOps (ctx P k d) P ops l tm h = some r
  | [], tm, h, r, hv => .all fun k d => hv
  | o :: l, tm, h, r, hv => by
    simp only [runOps] at hv ⊢
    split at hv
    · rename_i hw
      simp only [if_pos hw]
      split at hv
      · rename_i v hp
        exact runOps_lim l _ h hv
      · rename_i hp
        split at hv
        · rename_i v h1 w1 hx
          cases hr : runOps (lim P) P ops l (putL tm o.dst v) h1 with
          | none => rw [hr] at hv; cases hv
          | some r1 =>
            rw [hr] at hv
            exact ((xop_lim hx).and (runOps_lim l _ h1 hr)).mono fun k d ⟨e1, e2⟩ => by rw [e1]; simp only; rw [e2]; exact hv
        · cases hv
    · rename_i hw
      simp only [if_neg hw]
      exact runOps_lim l _ h hv

theorem drawStep_lim {ops : Array Oper} {m i : Nat} {o : Oper} {s s' : Dr} (hv : drawStep (lim P) P ops m i o s = some s') : Evt fun k d => drawStep (ctx P k d) P ops m i o s = some s' := by
  unfold drawStep at hv ⊢
  split at hv
  · rename_i hw
    simp only [if_pos hw]
    split at hv
    · rename_i v hp
      exact .all fun k d => hv
    · rename_i hp
      cases hx : xop (lim P) P (ev s.tm) o s.h with
      | none => rw [hx] at hv; cases hv
      | some r =>
        rw [hx] at hv
        exact (xop_lim hx).mono fun k d e => by rw [e]; exact hv
  · rename_i hw
    simp only [if_neg hw]
    exact .all fun k d => hv
theorem drawAll_lim {ops : Array Oper} {ms : List Nat} : ∀ (l : List Oper) (i : Nat) (s : Dr) {s' : Dr}, drawAll (lim P) P ops ms l i s = some s' → Evt fun k d => drawAll (ctx P k d) P ops ms l i s = some s'
  | [], i, s, s', hv => .all fun k d => hv
  | o :: l, i, s, s', hv => by
    simp only [drawAll] at hv ⊢
    split at hv
    · rename_i s1 h1
      exact ((drawStep_lim h1).and (drawAll_lim l (i + 1) s1 hv)).mono fun k d ⟨e1, e2⟩ => by rw [e1]; exact e2
    · cases hv
theorem runDraw_lim {ops : Array Oper} {tm : List Value} {h : List Blk} {r : List Value × List Blk × Option Nat} (hv : runDraw (lim P) P ops tm h = some r) : Evt fun k d => runDraw (ctx P k d) P ops tm h = some r := by
  unfold runDraw at hv ⊢
  split at hv
  · rename_i hok
    simp only [if_pos hok]
    cases hx : drawAll (lim P) P ops (masks ops.toList []) ops.toList 0 { tm, h, np := [], chain := false, wr := none } with
    | none => rw [hx] at hv; cases hv
    | some s =>
      rw [hx] at hv
      exact (drawAll_lim _ _ _ hx).mono fun k d e => by rw [e]; exact hv
  · cases hv

theorem runRange_lim {ro : Option Nat} {g : Operand} {ps : Array Tmp} {assign body : Code} {a : AS} {h : List Blk} {r : Exit × AS × List Blk × Option Nat} (hv : runRange (lim P) P ro g ps assign body a h = some r) : Evt fun k d => runRange (ctx P k d) P ro g ps assign body a h = some r := by
  unfold runRange at hv ⊢
  split at hv
  · rename_i hg
    simp only [if_pos hg]
    split at hv
    · rename_i fn first captured hfv
      split at hv
      · rename_i gf
        split at hv
        · rename_i fd hfd
          split at hv
          · rename_i hc
            split at hv
            · cases hv
            · rename_i h1 d mark hst
              split at hv
              · rename_i v0 h2 w2 hcall
                refine (lim_call.1 hcall).mono fun k d' e => ?_
                simp only [if_pos hc, e]
                exact hv
              · cases hv
          · cases hv
        · cases hv
      · cases hv
    · cases hv
  · cases hv

theorem exec_lim {ro : Option Nat} : ∀ (K : Nat) (c : Code) (a : AS) (h : List Blk) {r : Exit × AS × List Blk × Option Nat}, exec (lim P) P ro K c a h = some r → Evt fun k d => exec (ctx P k d) P ro K c a h = some r := by
  intro K
  induction K with
  | zero => intro c a h r hv; simp [exec] at hv
  | succ K ih =>
  intro c a h r hv
  cases c with
  | seq x y =>
    simp only [exec] at hv ⊢
    cases hx : exec (lim P) P ro K x a h with
    | none => rw [hx] at hv; cases hv
    | some r1 =>
      obtain ⟨e1, a1, h1, w1⟩ := r1
      rw [hx] at hv
      cases e1 with
      | normal =>
        simp only at hv
        cases hy : exec (lim P) P ro K y a1 h1 with
        | none => rw [hy] at hv; cases hv
        | some r2 =>
          rw [hy] at hv
          exact ((ih x a h hx).and (ih y a1 h1 hy)).mono fun k d ⟨e1, e2⟩ => by rw [e1]; simp only; rw [e2]; exact hv
      | _ => exact (ih x a h hx).mono fun k d e1 => by rw [e1]; exact hv
  | cond x y z =>
    simp only [exec] at hv ⊢
    split at hv
    · rename_i hc
      simp only [if_pos hc]
      split at hv
      · rename_i t ht
        cases t with
        | true => exact ih y a h hv
        | false => exact ih z a h hv
      · cases hv
    · cases hv
  | block id b =>
    simp only [exec] at hv ⊢
    cases hx : exec (lim P) P ro K b a h with
    | none => rw [hx] at hv; cases hv
    | some r1 =>
      rw [hx] at hv
      exact (ih b a h hx).mono fun k d e1 => by rw [e1]; exact hv
  | loop b =>
    simp only [exec] at hv ⊢
    cases hx : exec (lim P) P ro K b a h with
    | none => rw [hx] at hv; cases hv
    | some r1 =>
      obtain ⟨e1, a1, h1, w1⟩ := r1
      rw [hx] at hv
      cases e1 with
      | normal =>
        simp only at hv
        cases hy : exec (lim P) P ro K (.loop b) a1 h1 with
        | none => rw [hy] at hv; cases hv
        | some r2 =>
          rw [hy] at hv
          exact ((ih b a h hx).and (ih (.loop b) a1 h1 hy)).mono fun k d ⟨e1, e2⟩ => by rw [e1]; simp only; rw [e2]; exact hv
      | _ => exact (ih b a h hx).mono fun k d e1 => by rw [e1]; exact hv
  | region id ops draw =>
    simp only [exec] at hv ⊢
    cases draw with
    | true =>
      simp only at hv ⊢
      cases hx : runDraw (lim P) P ops a.tm h with
      | none => rw [hx] at hv; cases hv
      | some r1 =>
        rw [hx] at hv
        exact (runDraw_lim hx).mono fun k d e1 => by rw [e1]; exact hv
    | false =>
      simp only at hv ⊢
      split at hv
      · rename_i hreg
        simp only [if_pos hreg]
        cases hx : runOps (lim P) P ops ops.toList a.tm h with
        | none => rw [hx] at hv; cases hv
        | some r1 =>
          rw [hx] at hv
          exact (runOps_lim _ _ _ hx).mono fun k d e1 => by rw [e1]; exact hv
      · cases hv
  | rangeFunc g ps assign body =>
    simp only [exec] at hv ⊢
    exact runRange_lim hv
  | _ => exact .all fun k d => by simpa only [exec] using hv

/-- a function's call from its body -/
theorem lim_runCall {K : Nat} {f : FuncId} {args : List Value} {h : List Blk} {r : Value × List Blk × Option Nat} (hv : runCall (lim P) P K f args h = some r) : (lim P).call f args h = some r := by
  rw [lim_call]
  unfold runCall at hv
  split at hv
  · cases hv
  · rename_i fd hfd
    split at hv
    · cases hv
    · rename_i c hc
      split at hv
      · rename_i e a1 h1 w1 hx
        obtain ⟨N, hN⟩ := exec_lim K c _ h hx
        refine ⟨max (N + 1) K, fun k d hk hd => ?_⟩
        obtain ⟨d, rfl⟩ : ∃ d', d = d' + 1 := ⟨d - 1, by omega⟩
        have h2 := exec_le (k := K) (k' := k) (by omega) (hN k d (by omega) (by omega))
        show runCall (ctx P k d) P k f args h = some r
        unfold runCall
        simp only [hfd, hc, h2]
        exact hv
      · cases hv
theorem lim_runRound {K : Nat} {l : Nat} {args : List Value} {h : List Blk} {r : Value × List Blk × Option Nat} (hv : runRound (lim P) P K l args h = some r) : (lim P).round l args h = some r := by
  rw [lim_round]
  unfold runRound at hv
  split at hv
  · rename_i st pend tmps ps assign body d0 hl
    split at hv
    · rename_i hc
      split at hv
      · rename_i e a1 h1 w1 hx
        split at hv
        · split at hv
          · rename_i st1 pend1 t1 p1 as1 bd1 d1 hl1
            split at hv
            · rename_i hst
              split at hv
              · rename_i e2 a2 h2 w2 hx2
                obtain ⟨N, hN⟩ := (exec_lim K assign _ h hx).and (exec_lim K body _ _ hx2)
                refine ⟨max (N + 1) K, fun k d hk hd => ?_⟩
                obtain ⟨d, rfl⟩ : ∃ d', d = d' + 1 := ⟨d - 1, by omega⟩
                obtain ⟨g1, g2⟩ := hN k d (by omega) (by omega)
                have g1 := exec_le (k := K) (k' := k) (by omega) g1
                have g2 := exec_le (k := K) (k' := k) (by omega) g2
                show runRound (ctx P k d) P k l args h = some r
                unfold runRound
                simp only [hl, if_pos hc, g1, hl1, if_pos hst, g2]
                exact hv
              · cases hv
            · cases hv
          · cases hv
        · cases hv
      · cases hv
    · cases hv
  · cases hv

theorem lim_ok (hm : P.follows .mixedOrders = true) : CtxOk P (lim P) :=
  ⟨fun hv => by
    obtain ⟨N, hN⟩ := lim_call.1 hv
    exact (ctx_sound hm N N).call (hN N N (Nat.le_refl _) (Nat.le_refl _)),
   fun hv => by
    obtain ⟨N, hN⟩ := lim_round.1 hv
    exact (ctx_sound hm N N).round (hN N N (Nat.le_refl _) (Nat.le_refl _))⟩
end
end Go.Rex
