/- An executor of the program's functions on trees of values, proved sound. -/
import Derived.Test.YtojekkfmnnoabaaTexA
set_option linter.unusedSimpArgs false
set_option linter.unusedVariables false
set_option linter.defProp false
namespace Go.Rex
open Go.RowKit
/-- an own block -/
inductive TB
  | dead
  | rows (es : Nat) (rows : List (List TV))
  | var (row : List TV)
structure TS where
  tm : List TV
  hp : List TB

def BR (lo : Nat) (Fz : Nat → Prop) (h : List Blk) (L : Nat → LI) (n : Nat) : TB → Prop
  | .dead => True
  | .rows es rows => (L n).ok = true ∧ (L n).es = es ∧ (L n).tot = rows.length ∧ (∀ r ∈ rows, r.length = es) ∧
      (((L n).nm = none ∧ rows = []) ∨ ∃ nm cs, (L n).nm = some nm ∧ lo ≤ nm ∧ ¬ Fz nm ∧ h[nm]? = some (.cells es cs) ∧ VLs Fz h noL rows.flatten cs)
  | .var row => (L n).ok = true ∧ ∃ nm cs, (L n).nm = some nm ∧ lo ≤ nm ∧ ¬ Fz nm ∧ h[nm]? = some (.cells 0 cs) ∧ VLs Fz h L row cs
def TB.live : TB → Bool
  | .dead => false
  | _ => true

structure St (h0 : List Blk) (Fz : Nat → Prop) (L : Nat → LI) (s : TS) (tm : List Value) (h : List Blk) : Prop where
  tmr : VLs Fz h L s.tm tm
  blk : ∀ n b, s.hp[n]? = some b → BR h0.length Fz h L n b
  dom : ∀ n, (L n).ok = true → n < s.hp.length
  inj : ∀ n n' b b' nm, s.hp[n]? = some b → s.hp[n']? = some b' → b.live = true → b'.live = true → (L n).nm = some nm → (L n').nm = some nm → n = n'
  fz : ∀ n, Fz n → n < h.length
  ext : Ext h0 h

def Grow (h0 : List Blk) (Fz Fz' : Nat → Prop) : Prop := (∀ n, Fz n → Fz' n) ∧ ∀ n, Fz' n → Fz n ∨ h0.length ≤ n
theorem Grow.refl (h0 : List Blk) (Fz : Nat → Prop) : Grow h0 Fz Fz := ⟨fun _ h => h, fun _ h => .inl h⟩
theorem Grow.trans {h0 : List Blk} {A B C : Nat → Prop} (a : Grow h0 A B) (b : Grow h0 B C) : Grow h0 A C :=
  ⟨fun n h => b.1 n (a.1 n h), fun n h => by rcases b.2 n h with h | h; exact a.2 n h; exact .inr h⟩

/-- a state is one that says less -/
def Wk (s s' : TS) : Prop := ∀ h0 Fz L tm h, St h0 Fz L s tm h → ∃ Fz' L', Grow h0 Fz Fz' ∧ St h0 Fz' L' s' tm h
theorem Wk.refl (s : TS) : Wk s s := fun _ Fz L _ _ hs => ⟨Fz, L, Grow.refl _ _, hs⟩
theorem Wk.trans {a b c : TS} (h1 : Wk a b) (h2 : Wk b c) : Wk a c := by
  intro h0 Fz L tm h hs
  obtain ⟨F1, L1, g1, s1⟩ := h1 h0 Fz L tm h hs
  obtain ⟨F2, L2, g2, s2⟩ := h2 h0 F1 L1 tm h s1
  exact ⟨F2, L2, g1.trans g2, s2⟩

section
variable {C : Ctx} {P : Program}
def TX (C : Ctx) (P : Program) (c : Code) (s : TS) (Q : Exit → TS → Prop) : Prop :=
  ∀ h0 Fz L tm h, St h0 Fz L s tm h → XP C P none h0.length c ⟨tm, []⟩ h (fun e a' h' => a'.df = [] ∧ ∃ s' Fz' L', Q e s' ∧ Grow h0 Fz Fz' ∧ St h0 Fz' L' s' a'.tm h')
variable {s s' : TS} {Q Q' : Exit → TS → Prop}
theorem TX.mono {c : Code} (hx : TX C P c s Q) (hq : ∀ e s, Q e s → Q' e s) : TX C P c s Q' := by
  intro h0 Fz L tm h hs
  refine (hx h0 Fz L tm h hs).mono ?_
  rintro e a' h' ⟨hd, s', F', L', q, g, hs'⟩
  exact ⟨hd, s', F', L', hq _ _ q, g, hs'⟩
theorem TX.weak {c : Code} (hw : Wk s s') (hx : TX C P c s' Q) : TX C P c s Q := by
  intro h0 Fz L tm h hs
  obtain ⟨F1, L1, g1, s1⟩ := hw h0 Fz L tm h hs
  refine (hx h0 F1 L1 tm h s1).mono ?_
  rintro e a' h' ⟨hd, s', F', L', q, g, hs'⟩
  exact ⟨hd, s', F', L', q, g1.trans g, hs'⟩
theorem TX.post {c : Code} (hx : TX C P c s (fun e s => ∃ s', Wk s s' ∧ Q e s')) : TX C P c s Q := by
  intro h0 Fz L tm h hs
  refine (hx h0 Fz L tm h hs).mono ?_
  rintro e a' h' ⟨hd, s', F', L', ⟨s2, w, q⟩, g, hs'⟩
  obtain ⟨F2, L2, g2, hs2⟩ := w h0 F' L' a'.tm h' hs'
  exact ⟨hd, s2, F2, L2, q, g.trans g2, hs2⟩
theorem TX.skip (hq : Q .normal s) : TX C P .skip s Q := fun _ Fz L _ _ hs => XP.skip ⟨rfl, s, Fz, L, hq, Grow.refl _ _, hs⟩
theorem TX.exit {id : Nat} (hq : Q (.exit id) s) : TX C P (.exit id) s Q := fun _ Fz L _ _ hs => XP.exit ⟨rfl, s, Fz, L, hq, Grow.refl _ _, hs⟩
theorem TX.ret (hq : Q .ret s) : TX C P .ret s Q := fun _ Fz L _ _ hs => XP.ret ⟨rfl, s, Fz, L, hq, Grow.refl _ _, hs⟩
def seqT (next : TS → Prop) (Q : Exit → TS → Prop) : Exit → TS → Prop
  | .normal, s => next s
  | e, s => Q e s
theorem TX.seq {x y : Code} (hx : TX C P x s (seqT (fun s => TX C P y s Q) Q)) : TX C P (.seq x y) s Q := by
  intro h0 Fz L tm h hs
  refine XP.seq ((hx h0 Fz L tm h hs).mono ?_)
  rintro e ⟨tm', df'⟩ h' ⟨hd, s', F', L', q, g, hs'⟩
  obtain rfl : df' = [] := hd
  cases e with
  | normal =>
    refine seqQ_n ?_
    refine (q h0 F' L' tm' h' hs').mono ?_
    rintro e a' h' ⟨hd, s', F', L', q, g', hs'⟩
    exact ⟨hd, s', F', L', q, g.trans g', hs'⟩
  | _ => exact ⟨rfl, s', F', L', q, g, hs'⟩
def blockT (id : Nat) (Q : Exit → TS → Prop) : Exit → TS → Prop
  | .exit id', s => if id' = id then Q .normal s else Q (.exit id') s
  | e, s => Q e s
theorem TX.block {id : Nat} {b : Code} (hx : TX C P b s (blockT id Q)) : TX C P (.block id b) s Q := by
  intro h0 Fz L tm h hs
  refine XP.block ((hx h0 Fz L tm h hs).mono ?_)
  rintro e ⟨tm', df'⟩ h' ⟨hd, s', F', L', q, g, hs'⟩
  cases e with
  | exit id' =>
    simp only [blockT] at q
    simp only [blockQ]
    split at q
    · rename_i hi; rw [if_pos hi]; exact ⟨hd, s', F', L', q, g, hs'⟩
    · rename_i hi; rw [if_neg hi]; exact ⟨hd, s', F', L', q, g, hs'⟩
  | _ => exact ⟨hd, s', F', L', q, g, hs'⟩
theorem seqT_n {next : TS → Prop} (hq : next s) : seqT next Q .normal s := hq
theorem seqT_e {next : TS → Prop} {id : Nat} (hq : Q (.exit id) s) : seqT next Q (.exit id) s := hq
theorem seqT_r {next : TS → Prop} (hq : Q .ret s) : seqT next Q .ret s := hq
theorem blockT_n {id : Nat} (hq : Q .normal s) : blockT id Q .normal s := hq
theorem blockT_r {id : Nat} (hq : Q .ret s) : blockT id Q .ret s := hq
theorem blockT_e {id : Nat} (hq : Q .normal s) : blockT id Q (.exit id) s := by simpa only [blockT, if_true] using hq
theorem blockT_ne {id id' : Nat} (hn : (id' == id) = false) (hq : Q (.exit id') s) : blockT id Q (.exit id') s := by
  have : ¬ id' = id := by intro e; subst e; simp at hn
  simpa only [blockT, if_neg this] using hq

def tnth : List TV → Nat → TV
  | [], _ => .tuple []
  | v :: _, 0 => v
  | _ :: l, n + 1 => tnth l n
theorem tnth_eq : ∀ (l : List TV) (n : Nat), tnth l n = l[n]?.getD (.tuple [])
  | [], n => by simp [tnth]
  | v :: l, 0 => by simp [tnth]
  | v :: l, n + 1 => by simp [tnth, tnth_eq l n]
def tev (tm : List TV) : Operand → TV
  | .tmp t => tnth tm t
  | .const v => if injOk 3 v = true then inj 3 v else .junk
  | .global _ => .junk
  | .func f => .func f [] []
theorem tev_vl {Fz : Nat → Prop} {h : List Blk} {L : Nat → LI} {tm : List TV} {vm : List Value} (hs : VLs Fz h L tm vm) (x : Operand) : VL Fz h L (tev tm x) (ev vm x) := by
  cases x with
  | tmp t =>
    simp only [tev, ev]
    rw [tnth_eq, nth_eq]
    cases hp : tm[t]? with
    | none =>
      have : vm[t]? = none := by
        rw [List.getElem?_eq_none_iff] at hp ⊢
        rw [hs.len]; exact hp
      rw [this]
      exact .tuple L [] [] rfl (fun i p x h => by simp at h)
    | some p =>
      obtain ⟨x, hx, hv⟩ := hs.at hp
      rw [hx]; exact hv
  | const v =>
    simp only [tev, ev]
    split
    · rename_i hi; exact VL.inj 3 hi
    · exact .junk L _
  | global g => exact .junk L _
  | func f => exact .func L f [] [] [] [] rfl (fun i p x h => by simp at h) rfl (fun i p x h => by simp at h)
def tput (tm : List TV) (dst : Option Tmp) (v : TV) : List TV :=
  match dst with
  | some d => tm.set d v
  | none => tm
theorem tput_vl {Fz : Nat → Prop} {h : List Blk} {L : Nat → LI} {tm : List TV} {vm : List Value} (hs : VLs Fz h L tm vm) (dst : Option Tmp) {p : TV} {x : Value} (hp : VL Fz h L p x) : VLs Fz h L (tput tm dst p) (putL vm dst x) := by
  cases dst with
  | none => exact hs
  | some d => exact hs.set d hp

theorem VL.bool_inv {Fz : Nat → Prop} {h : List Blk} {L : Nat → LI} {x y : Value} (hp : VL Fz h L (.v x) y) : y = x := by cases hp; rfl
theorem TX.cond_true {c : Operand} {x y : Code} (ho : opndOk c = true) (hc : tev s.tm c = .v (.bool true)) (hx : TX C P x s Q) : TX C P (.cond c x y) s Q := by
  intro h0 Fz L tm h hs
  have := tev_vl hs.tmr c
  rw [hc] at this
  exact XP.cond_true ho this.bool_inv (hx h0 Fz L tm h hs)
theorem TX.cond_false {c : Operand} {x y : Code} (ho : opndOk c = true) (hc : tev s.tm c = .v (.bool false)) (hx : TX C P y s Q) : TX C P (.cond c x y) s Q := by
  intro h0 Fz L tm h hs
  have := tev_vl hs.tmr c
  rw [hc] at this
  exact XP.cond_false ho this.bool_inv (hx h0 Fz L tm h hs)

/-! ### loops: a step over and over -/
inductive Runs {σ ε : Type} (step : σ → Option (σ ⊕ ε)) : σ → ε → Prop
  | stop {s : σ} {e : ε} (h : step s = some (.inr e)) : Runs step s e
  | next {s s' : σ} {e : ε} (h : step s = some (.inl s')) (hr : Runs step s' e) : Runs step s e
theorem Runs.det {σ ε : Type} {step : σ → Option (σ ⊕ ε)} {s : σ} {e e' : ε} (h : Runs step s e) (h' : Runs step s e') : e = e' := by
  induction h with
  | stop h => cases h' with
    | stop g => rw [h] at g; injection g with g; injection g
    | next g _ => rw [h] at g; injection g with g; cases g
  | next h _ ih => cases h' with
    | stop g => rw [h] at g; injection g with g; cases g
    | next g gr => rw [h] at g; injection g with g; injection g with g; subst g; exact ih gr
open Classical in
noncomputable def run {σ ε : Type} (step : σ → Option (σ ⊕ ε)) (s : σ) : Option ε := if h : ∃ e, Runs step s e then some (Classical.choose h) else none
theorem run_iff {σ ε : Type} {step : σ → Option (σ ⊕ ε)} {s : σ} {e : ε} : run step s = some e ↔ Runs step s e := by
  unfold run
  constructor
  · intro h
    split at h
    · rename_i hx
      obtain rfl := Option.some.inj h
      exact Classical.choose_spec hx
    · cases h
  · intro h
    have hx : ∃ e, Runs step s e := ⟨e, h⟩
    rw [dif_pos hx]
    exact congrArg some (Runs.det (Classical.choose_spec hx) h)
theorem run_stop {σ ε : Type} {step : σ → Option (σ ⊕ ε)} {s : σ} {e : ε} (h : step s = some (.inr e)) : run step s = some e := run_iff.2 (.stop h)
theorem run_next {σ ε : Type} {step : σ → Option (σ ⊕ ε)} {s s' : σ} (h : step s = some (.inl s')) : run step s = run step s' := by
  cases hr : run step s' with
  | none =>
    cases hs : run step s with
    | none => rfl
    | some e =>
      have := run_iff.1 hs
      cases this with
      | stop g => rw [h] at g; injection g with g; cases g
      | next g gr => rw [h] at g; injection g with g; injection g with g; subst g; rw [run_iff.2 gr] at hr; cases hr
  | some e => exact run_iff.2 (.next h (run_iff.1 hr))
theorem TX.loop {σ ε : Type} {b : Code} {step : σ → Option (σ ⊕ ε)} {x : σ} {e : ε} (hr : run step x = some e) (I : σ → TS) (J : ε → Exit → TS → Prop)
    (hI : ∀ x x', step x = some (.inl x') → TX C P b (I x) (fun ex st => ex = .normal ∧ Wk st (I x'))) (hJ : ∀ x e, step x = some (.inr e) → TX C P b (I x) (fun ex st => ex ≠ .normal ∧ J e ex st)) : TX C P (.loop b) (I x) (J e) := by
  have hr' := run_iff.1 hr
  clear hr
  induction hr' with
  | @stop x e h =>
    intro h0 Fz L tm hh hs
    obtain ⟨K, ex, a', h', wr, h1, h2, hd, s', F', L', ⟨hne, q⟩, g, hs'⟩ := hJ _ _ h h0 Fz L tm hh hs
    cases ex with
    | normal => exact absurd rfl hne
    | _ => exact ⟨K + 1, _, a', h', wr, by simp only [exec, h1], h2, hd, s', F', L', q, g, hs'⟩
  | @next x x1 e h hr ih =>
    intro h0 Fz L tm hh hs
    obtain ⟨K, ex, ⟨tm', df'⟩, h', wr, h1, h2, hd, s', F', L', ⟨rfl, hw⟩, g, hs'⟩ := hI _ _ h h0 Fz L tm hh hs
    obtain rfl : df' = [] := hd
    obtain ⟨F2, L2, g2, hs2⟩ := hw h0 F' L' tm' h' hs'
    obtain ⟨K2, ex, a2, h2', wr2, k1, k2, kd, s3, F3, L3, q, g3, hs3⟩ := ih h0 F2 L2 tm' h' hs2
    refine ⟨max K K2 + 1, ex, a2, h2', wmin wr wr2, ?_, wge_min h2 k2, kd, s3, F3, L3, q, (g.trans g2).trans g3, hs3⟩
    simp only [exec]
    rw [exec_le (Nat.le_max_left K K2) h1]
    simp only
    rw [exec_le (Nat.le_max_right K K2) k1]
    rfl
end
end Go.Rex
