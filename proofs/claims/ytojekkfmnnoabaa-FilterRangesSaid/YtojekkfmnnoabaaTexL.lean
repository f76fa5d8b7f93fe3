/- An executor of the program's functions on trees of values, proved sound. -/
import Derived.Test.YtojekkfmnnoabaaTexK
import Derived.KernelRfl
set_option linter.unusedSimpArgs false
set_option linter.unusedVariables false
set_option linter.defProp false
namespace Go.Rex
open Go.RowKit
section
/-! ### states that say less: renamed, forgotten, nil as a row of nothing -/
inductive RN (fl : List (Option Nat)) : TV → TV → Prop
  | junk {p : TV} : RN fl p .junk
  | keep {p q : TV} (e : p = q) (h : lf 4 q = true) : RN fl p q
  | lsl {n o len j len' : Nat} (h : fl[j]? = some (some n)) (e : len = len') : RN fl (.lsl n o len) (.lsl j o len')
  | lptr {n r o j : Nat} (h : fl[j]? = some (some n)) : RN fl (.lptr n r o) (.lptr j r o)
  | nil {j : Nat} (h : fl[j]? = some none) : RN fl (.v (.slice none 0 0)) (.lsl j 0 0)
  | nl {es : Nat} : RN fl (.v (.slice none 0 0)) (.list es [])
  | agg {l l' : List TV} (hl : l'.length = l.length) (h : ∀ (i : Nat) p q, l[i]? = some p → l'[i]? = some q → RN fl p q) : RN fl (.agg l) (.agg l')
  | tuple {l l' : List TV} (hl : l'.length = l.length) (h : ∀ (i : Nat) p q, l[i]? = some p → l'[i]? = some q → RN fl p q) : RN fl (.tuple l) (.tuple l')
structure RNs (fl : List (Option Nat)) (l l' : List TV) : Prop where
  len : l'.length = l.length
  at' : ∀ (i : Nat) p q, l[i]? = some p → l'[i]? = some q → RN fl p q
theorem RNs.nil {fl : List (Option Nat)} : RNs fl [] [] := ⟨rfl, fun i p q h => by simp at h⟩
theorem RNs.cons {fl : List (Option Nat)} {p q : TV} {l l' : List TV} (h : RN fl p q) (hs : RNs fl l l') : RNs fl (p :: l) (q :: l') := by
  refine ⟨by simp [hs.len], fun i p q hp hq => ?_⟩
  cases i with
  | zero => simp at hp hq; subst hp hq; exact h
  | succ i => simp at hp hq; exact hs.at' i _ _ hp hq
theorem RN.agg' {fl : List (Option Nat)} {l l' : List TV} (h : RNs fl l l') : RN fl (.agg l) (.agg l') := .agg h.len h.at'
theorem RN.tuple' {fl : List (Option Nat)} {l l' : List TV} (h : RNs fl l l') : RN fl (.tuple l) (.tuple l') := .tuple h.len h.at'
variable {Fz : Nat → Prop} {h : List Blk} {L L' : Nat → LI}
theorem RN.vl {fl : List (Option Nat)} (hL : ∀ j n, fl[j]? = some (some n) → L' j = L n) (hV : ∀ j, fl[j]? = some none → (L' j).ok = true ∧ (L' j).nm = none) {p q : TV} (hr : RN fl p q) : ∀ {x : Value}, VL Fz h L p x → VL Fz h L' q x := by
  induction hr with
  | junk => intro x _; exact .junk L' x
  | keep e hl => intro x hp; subst e; exact VL.toNo 4 hl hp
  | lsl hj e =>
    intro x hp
    subst e
    have e := hL _ _ hj
    cases hp with
    | lslnil _ _ ok hn => rw [← e] at ok hn; exact .lslnil L' _ ok hn
    | lsl _ _ _ _ nm ok hn hle => rw [← e] at ok hn hle ⊢; exact .lsl L' _ _ _ nm ok hn hle
  | lptr hj =>
    intro x hp
    have e := hL _ _ hj
    cases hp with
    | lptr _ _ _ _ nm ok hn => rw [← e] at ok hn ⊢; exact .lptr L' _ _ _ nm ok hn
  | nil hj =>
    intro x hp
    obtain rfl := hp.bool_inv
    exact .lslnil L' _ (hV _ hj).1 (hV _ hj).2
  | nl =>
    intro x hp
    obtain rfl := hp.bool_inv
    exact .nillist L' _
  | @agg l l' hl hh ih =>
    intro x hp
    cases hp with
    | agg _ _ l2 hl2 ha =>
      refine .agg L' l' l2 (by omega) fun i p y h1 h2 => ?_
      have hlt := (List.getElem?_eq_some_iff.1 h1).1
      have h0 : l[i]? = some l[i] := List.getElem?_eq_getElem (by omega)
      exact ih i _ _ h0 h1 (ha i _ _ h0 h2)
  | @tuple l l' hl hh ih =>
    intro x hp
    cases hp with
    | tuple _ _ l2 hl2 ha =>
      refine .tuple L' l' l2 (by omega) fun i p y h1 h2 => ?_
      have hlt := (List.getElem?_eq_some_iff.1 h1).1
      have h0 : l[i]? = some l[i] := List.getElem?_eq_getElem (by omega)
      exact ih i _ _ h0 h1 (ha i _ _ h0 h2)
def renOk : List (Option Nat) → Bool
  | [] => true
  | none :: l => renOk l
  | some n :: l => l.all (fun x => x != some n) && renOk l
theorem renOk_inj : ∀ {fl : List (Option Nat)}, renOk fl = true → ∀ (i j n : Nat), fl[i]? = some (some n) → fl[j]? = some (some n) → i = j
  | [], _, i, j, n, h, _ => by simp at h
  | none :: l, hr, i, j, n, h1, h2 => by
    cases i with
    | zero => simp at h1
    | succ i => cases j with
      | zero => simp at h2
      | succ j => rw [renOk_inj (fl := l) (by simpa [renOk] using hr) i j n (by simpa using h1) (by simpa using h2)]
  | some m :: l, hr, i, j, n, h1, h2 => by
    simp only [renOk, Bool.and_eq_true] at hr
    have hne : ∀ k, l[k]? ≠ some (some m) := fun k hk => by
      have := List.all_eq_true.1 hr.1 _ (List.mem_of_getElem? hk)
      simp at this
    cases i with
    | zero => cases j with
      | zero => rfl
      | succ j => simp at h1; subst h1; exact absurd (by simpa using h2) (hne j)
    | succ i => cases j with
      | zero => simp at h2; subst h2; exact absurd (by simpa using h1) (hne i)
      | succ j => rw [renOk_inj (fl := l) hr.2 i j n (by simpa using h1) (by simpa using h2)]
/-- blocks under new numbers -/
inductive RB (fl : List (Option Nat)) (hp : List TB) : List TB → List (Option Nat) → Prop
  | nil : RB fl hp [] []
  | virt {es : Nat} {hp' : List TB} {l : List (Option Nat)} (h : RB fl hp hp' l) : RB fl hp (.rows es [] :: hp') (none :: l)
  | rows {n es : Nat} {rows rows' : List (List TV)} {hp' : List TB} {l : List (Option Nat)} (h : RB fl hp hp' l) (hb : hp[n]? = some (.rows es rows)) (e : rows = rows') : RB fl hp (.rows es rows' :: hp') (some n :: l)
  | var {n : Nat} {row row' : List TV} {hp' : List TB} {l : List (Option Nat)} (h : RB fl hp hp' l) (hb : hp[n]? = some (.var row)) (hr : RNs fl row row') : RB fl hp (.var row' :: hp') (some n :: l)
theorem RB.at {fl : List (Option Nat)} {hp hp' : List TB} {l : List (Option Nat)} (hb : RB fl hp hp' l) : hp'.length = l.length ∧ ∀ (j : Nat) (b : TB), hp'[j]? = some b → (l[j]? = some none ∧ ∃ es, b = .rows es []) ∨ ∃ n, l[j]? = some (some n) ∧ ((∃ es rows, b = .rows es rows ∧ hp[n]? = some b) ∨ ∃ row row', b = .var row' ∧ hp[n]? = some (.var row) ∧ RNs fl row row') := by
  induction hb with
  | nil => exact ⟨rfl, fun j b h => by simp at h⟩
  | virt h ih =>
    refine ⟨by simp [ih.1], fun j b hj => ?_⟩
    cases j with
    | zero => simp at hj; subst hj; exact .inl ⟨rfl, _, rfl⟩
    | succ j => exact ih.2 j b (by simpa using hj)
  | rows h hb e ih =>
    subst e
    refine ⟨by simp [ih.1], fun j b hj => ?_⟩
    cases j with
    | zero => simp at hj; subst hj; exact .inr ⟨_, rfl, .inl ⟨_, _, rfl, hb⟩⟩
    | succ j => exact ih.2 j b (by simpa using hj)
  | var h hb hr ih =>
    refine ⟨by simp [ih.1], fun j b hj => ?_⟩
    cases j with
    | zero => simp at hj; subst hj; exact .inr ⟨_, rfl, .inr ⟨_, _, rfl, hb, hr⟩⟩
    | succ j => exact ih.2 j b (by simpa using hj)
theorem Wk.ren {tm tm' : List TV} {hp hp' : List TB} (fl : List (Option Nat)) (hok : renOk fl = true) (hB : RB fl hp hp' fl) (hT : RNs fl tm tm') : Wk ⟨tm, hp⟩ ⟨tm', hp'⟩ := by
  intro h0 Fz L vm h hs
  obtain ⟨hlen, hat⟩ := hB.at
  have esOf' : ∀ j : Nat, ∃ es : Nat, fl[j]? = some none → hp'[j]? = some (TB.rows es []) := by
    intro j
    cases hb : hp'[j]? with
    | none =>
      refine ⟨0, fun hf => ?_⟩
      have h1 := (List.getElem?_eq_some_iff.1 hf).1
      rw [List.getElem?_eq_none_iff] at hb
      omega
    | some b =>
      rcases hat j b hb with ⟨_, es, rfl⟩ | ⟨n, h1, _⟩
      · exact ⟨es, fun _ => rfl⟩
      · exact ⟨0, fun hf => by rw [h1] at hf; cases hf⟩
  let es : Nat → Nat := fun j => Classical.choose (esOf' j)
  have hes : ∀ j : Nat, fl[j]? = some none → hp'[j]? = some (TB.rows (es j) []) := fun j => Classical.choose_spec (esOf' j)
  let L' : Nat → LI := fun j => match fl[j]? with
    | some (some n) => L n
    | some none => ⟨true, none, es j, 0⟩
    | none => ⟨false, none, 0, 0⟩
  have hL : ∀ j n : Nat, fl[j]? = some (some n) → L' j = L n := fun j n hj => by simp only [L', hj]
  have hV' : ∀ j : Nat, fl[j]? = some none → L' j = ⟨true, none, es j, 0⟩ := fun j hj => by simp only [L', hj]
  have hV : ∀ j : Nat, fl[j]? = some none → (L' j).ok = true ∧ (L' j).nm = none := fun j hj => by rw [hV' j hj]; exact ⟨rfl, rfl⟩
  have hN : ∀ j : Nat, fl[j]? = none → (L' j).ok = false := fun j hj => by simp only [L', hj]
  clear_value L'
  have hmap : ∀ (l l' : List TV) (x : List Value), RNs fl l l' → VLs Fz h L l x → VLs Fz h L' l' x := by
    intro l l' x hr hx
    refine ⟨by have := hr.len; have := hx.len; omega, fun i q y hq hy => ?_⟩
    have hlt := (List.getElem?_eq_some_iff.1 hq).1
    have hll := hr.len
    have h0 : l[i]? = some l[i] := List.getElem?_eq_getElem (by omega)
    exact (hr.at' i _ _ h0 hq).vl hL hV (hx.at' i _ _ h0 hy)
  refine ⟨Fz, L', Grow.refl _ _, ⟨hmap _ _ _ hT hs.tmr, ?_, ?_, ?_, hs.fz, hs.ext⟩⟩
  · intro j b hb
    rcases hat j b hb with ⟨hj, es', rfl⟩ | ⟨n, hj, h1⟩
    · have := hes j hj
      rw [hb] at this
      injection this with this
      injection this with this _
      refine ⟨(hV j hj).1, by rw [hV' j hj]; exact this.symm, by rw [hV' j hj]; rfl, by simp, .inl ⟨(hV j hj).2, rfl⟩⟩
    · rcases h1 with ⟨es', rows, rfl, hn⟩ | ⟨row, row', rfl, hn, hr⟩
      · have := hs.blk n _ hn
        unfold BR at this ⊢
        rw [hL j n hj]
        exact this
      · obtain ⟨q1, nm, cs, e1, e2, e3, e4, e5⟩ := hs.blk n _ hn
        unfold BR
        rw [hL j n hj]
        exact ⟨q1, nm, cs, e1, e2, e3, e4, hmap _ _ _ hr e5⟩
  · intro j hj
    show j < hp'.length
    rcases Nat.lt_or_ge j fl.length with hlt | hge
    · omega
    · rw [hN j (List.getElem?_eq_none_iff.2 hge)] at hj; cases hj
  · intro j j' b b' nm hb hb' l1 l2 e1 e2
    have f : ∀ (j : Nat) (b : TB), hp'[j]? = some b → b.live = true → (L' j).nm = some nm → ∃ (n : Nat) (b0 : TB), fl[j]? = some (some n) ∧ hp[n]? = some b0 ∧ b0.live = true ∧ (L n).nm = some nm := by
      intro j b hb hl he
      rcases hat j b hb with ⟨hj, es', rfl⟩ | ⟨n, hj, h1⟩
      · rw [(hV j hj).2] at he; cases he
      · rw [hL j n hj] at he
        rcases h1 with ⟨es', rows, rfl, hn⟩ | ⟨row, row', rfl, hn, hr⟩
        · exact ⟨n, _, hj, hn, rfl, he⟩
        · exact ⟨n, _, hj, hn, rfl, he⟩
    obtain ⟨n, b0, g1, g2, g3, g4⟩ := f j b hb l1 e1
    obtain ⟨n', b0', k1, k2, k3, k4⟩ := f j' b' hb' l2 e2
    obtain rfl := hs.inj n n' b0 b0' nm g2 k2 g3 k3 g4 k4
    exact renOk_inj hok j j' n g1 k1
end

section
variable {C : Ctx} {P : Program} {ops : Array Oper} {rest : List Oper} {tm tm2 : List TV} {hp hp2 : List TB} {Q : TS → Prop} {o : Oper}
variable {dst : Option Tmp} {ty : TypeId} {pos : String} {aft : Array Edge} {gd : Option (Nat × Bool)}
/-! ### the shallow side -/
def getI {α : Type} (xs : List α) (i : Int) : Option α := if 0 ≤ i then xs[i.toNat]? else none
def mkI {α : Type} (bytes : Nat) (n : Int) (z : α) : Option (List α) := if 0 ≤ n ∧ n < 2 ^ 63 ∧ (bytes : Int) * n ≤ 2 ^ 48 then some (List.replicate n.toNat z) else none
def appI {α : Type} (bytes : Nat) (xs ys : List α) : Option (List α) := if xs.length + ys.length ≤ 2 ^ 40 ∧ (xs.length + ys.length) * bytes ≤ 140737488355328 then some (xs ++ ys) else none
def subI {α : Type} (xs : List α) (l k : Int) : Option (List α) := if 0 ≤ l ∧ l ≤ k ∧ k ≤ xs.length ∧ xs ≠ [] ∧ (l = 0 ∨ l < xs.length) then some ((xs.drop l.toNat).take (k.toNat - l.toNat)) else none
theorem getI_lt {α : Type} {xs : List α} {i : Int} {x : α} (h : getI xs i = some x) : 0 ≤ i ∧ i < xs.length := by
  unfold getI at h
  split at h
  · have := (List.getElem?_eq_some_iff.1 h).1; omega
  · cases h
theorem getI_at {α : Type} {xs : List α} {i : Int} {x : α} (h : getI xs i = some x) : xs[i.toNat]? = some x := by
  unfold getI at h
  split at h
  · exact h
  · cases h
theorem tidx_map {α : Type} {xs : List α} {f : α → List TV} {i : Int} {x : α} (h : getI xs i = some x) : tidx (xs.map f) i = some (f x) := by
  unfold tidx
  rw [if_pos (getI_lt h).1, List.getElem?_map, getI_at h]
  rfl

/-! ### operations, with the state as it is -/
theorem TO.pop1 {p : TV} (hw : twant ops tm o = some true) (hv : tpop P hp tm o = some p) (ht : tput tm o.dst p = tm2) (hq : TO C P ops rest ⟨tm2, hp⟩ Q) : TO C P ops (o :: rest) ⟨tm, hp⟩ Q := by
  subst ht; exact TO.p hw (OpP.of hv) hq
theorem TO.skip1 (hw : twant ops tm o = some false) (ht : tput tm o.dst (.tuple []) = tm2) (hq : TO C P ops rest ⟨tm2, hp⟩ Q) : TO C P ops (o :: rest) ⟨tm, hp⟩ Q := by
  subst ht; exact TO.skip hw hq
theorem TO.g1 {s2 : TS} (hw : twant ops tm o = some true) (ho : OpG C P o ⟨tm, hp⟩ s2) (hs : s2 = ⟨tm2, hp2⟩) (hq : TO C P ops rest ⟨tm2, hp2⟩ Q) : TO C P ops (o :: rest) ⟨tm, hp⟩ Q := by
  subst hs; exact TO.g hw ho hq
theorem TO.w1 {s2 : TS} (hw : twant ops tm o = some true) (ho : OpW C P o ⟨tm, hp⟩ s2) (hs : s2 = ⟨tm2, hp2⟩) (hq : TO C P ops rest ⟨tm2, hp2⟩ Q) : TO C P ops (o :: rest) ⟨tm, hp⟩ Q := by
  subst hs; exact TO.w hw ho hq
variable {ms : List Nat} {i : Nat} {np : List Nat} {c : Bool}
theorem TD.pop1 {p : TV} (hw : twant ops tm o = some true) (hv : tpop P hp tm o = some p) (ht : tput tm o.dst p = tm2) (hq : TD C P ops ms rest (i + 1) np c ⟨tm2, hp⟩ Q) : TD C P ops ms (o :: rest) i np c ⟨tm, hp⟩ Q := by
  subst ht; exact TD.p hw (OpP.of hv) hq
theorem TD.skip1 (hw : twant ops tm o = some false) (ht : tput tm o.dst (.tuple []) = tm2) (hq : TD C P ops ms rest (i + 1) np c ⟨tm2, hp⟩ Q) : TD C P ops ms (o :: rest) i np c ⟨tm, hp⟩ Q := by
  subst ht; exact TD.skip hw hq
theorem TD.g1 {s2 : TS} (hw : twant ops tm o = some true) (ho : OpG C P o ⟨tm, hp⟩ s2) (hs : s2 = ⟨tm2, hp2⟩) (hq : TD C P ops ms rest (i + 1) (i :: np) false ⟨tm2, hp2⟩ Q) : TD C P ops ms (o :: rest) i np false ⟨tm, hp⟩ Q := by
  subst hs; exact TD.g hw ho hq
theorem TD.w1 {s2 : TS} (hw : twant ops tm o = some true) (ho : OpW C P o ⟨tm, hp⟩ s2) (hnp : np.all (fun j => (nthN ms i).testBit j) = true) (hs : s2 = ⟨tm2, hp2⟩) (hq : TD C P ops ms rest (i + 1) (i :: np) true ⟨tm2, hp2⟩ Q) : TD C P ops ms (o :: rest) i np c ⟨tm, hp⟩ Q := by
  subst hs; exact TD.w hw ho hnp hq
/-! ### loops, with all that follows -/
theorem TX.loopE {σ ε : Type} {b : Code} {step : σ → Option (σ ⊕ ε)} {x : σ} {e : ε} {Q : Exit → TS → Prop} (hr : run step x = some e) (I : σ → TS) (J : ε → Exit × TS)
    (hB : ∀ x y, step x = some y → TX C P b (I x) (fun ex st => match y with | .inl x' => ex = .normal ∧ Wk st (I x') | .inr e => ex = (J e).1 ∧ Wk st (J e).2)) (hne : ∀ e, (J e).1 ≠ .normal) (hq : Q (J e).1 (J e).2) {s : TS} (hw : Wk s (I x)) : TX C P (.loop b) s Q := by
  refine TX.weak hw (TX.post ((TX.loop hr I (fun e ex st => ex = (J e).1 ∧ Wk st (J e).2) (fun x x' h => hB x _ h) (fun x e h => ?_)).mono ?_))
  · exact (hB x _ h).mono fun ex st hh => ⟨by rw [hh.1]; exact hne e, hh⟩
  · rintro ex st ⟨rfl, hh⟩
    exact ⟨_, hh, hq⟩
end
end Go.Rex
