/- What these functions return: facts on lists and numbers. -/
import Derived.Test.YtnjbkoobeobfiaaGreatRexG8
import Derived.Test.YtnjbkoobeobfiaaGreatS
import Derived.Test.YtnjbkoobeobfiaaGreatRexG9
import Derived.ProofKit
import Derived.OpenShut
import Derived.ShutString
import Derived.ChangeOld
import Derived.Below
import Derived.Lib.SmallJoins
import Derived.ChangeShapes
import Derived.ChangeArms
import Derived.WideShapes
set_option linter.unusedSimpArgs false
set_option linter.unusedVariables false
set_option linter.defProp false
namespace Go.Rex
/-! ### plain facts for shallow functions -/
theorem w64 {x : Int} (h : -9223372036854775808 ≤ x ∧ x ≤ 9223372036854775807) : IntKind.i64.wrap x = x:=IntWalk.i64_in x (by omega)
end Go.Rex

namespace Go.Rex
/-! ### a loop that walks a list,gathers,and may end early -/
def walk {α β ε : Type} (f : β → α → β ⊕ ε) (fin : β → ε) : β → List α → ε
  | b,[]=>fin b
  | b,x :: t=>match f b x with
    | .inl b'=>walk f fin b' t
    | .inr e=>e
theorem run_walk {α β σ ε : Type} {step : σ → Option (σ ⊕ ε)} (st : Nat → β → σ) (f : β → α → β ⊕ ε) (fin : β → ε) (Inv : Nat → β → Prop) (l : List α)
    (hs : ∀ (k : Nat) (x : α) (b : β),l[k]? = some x → Inv k b → step (st k b) = some (match f b x with|.inl b'=>.inl (st (k + 1) b')|.inr e=>.inr e) ∧ ∀ b',f b x = .inl b' → Inv (k + 1) b')
    (he : ∀ b,Inv l.length b → step (st l.length b) = some (.inr (fin b))) {b0 : β} (h0 : Inv 0 b0) : run step (st 0 b0) = some (walk f fin b0 l):=by
  suffices H : ∀ (t : List α) (k : Nat) (b : β),l.drop k = t → k ≤ l.length → Inv k b → run step (st k b) = some (walk f fin b t) from H l 0 b0 rfl (Nat.zero_le _) h0
  intro t
  induction t with
  | nil =>
    intro k b hk hkl hI
    have : k = l.length:=by
      have:=congrArg List.length hk
      simp at this
      omega
    subst this
    exact run_stop (he b hI)
  | cons x t ih =>
    intro k b hk hkl hI
    have hx : l[k]? = some x:=by
      have:=congrArg (fun l=>l[0]?) hk
      simpa using this
    have hlt:=(List.getElem?_eq_some_iff.1 hx).1
    obtain ⟨h1,h2⟩:=hs k x b hx hI
    have ht : l.drop (k + 1) = t:=by
      have:=congrArg List.tail hk
      simpa using this
    cases hf : f b x with
    | inl b' =>
      rw [hf] at h1
      rw [run_next h1,ih (k + 1) b' ht (by omega) (h2 b' hf)]
      simp only [walk,hf]
    | inr e =>
      rw [hf] at h1
      rw [run_stop h1]
      simp only [walk,hf]
end Go.Rex

open Go Go.Rex
namespace Go.Rex
set_option maxRecDepth 100000
/-! ### echoes -/
abbrev Ec := List Int × Int × Int × Int × Int
theorem wsucc {k : Nat} {n : Nat} (h : k ≤ n) (hn : n ≤ 2 ^ 62) : IntKind.i64.wrap ((k : Int) + 1) = ((k + 1 : Nat) : Int) := by rw [w64 (by omega)]; omega
theorem within_eq (a b c : Int) : base_Within a b c = some (decide (b ≤ a ∧ a ≤ c)) := by
  unfold base_Within
  by_cases h1 : b ≤ a <;> by_cases h2 : a ≤ c <;> simp [h1, h2]
theorem eRefuse (b : Bool) (e : Int) : energy_refuse_c1_11f9 b e = some (if b = true then e else 0) := by
  unfold energy_refuse_c1_11f9; cases b <;> rfl
theorem eWithin (n a b : Int) : energy_within n a b = some (decide (n < a ∨ n > b), 2) := by
  unfold energy_within energy_refuse
  by_cases h : n < a
  · simp [h]
  · simp [h]
theorem getI_k {α : Type} {l : List α} {k : Nat} {x : α} (h : l[k]? = some x) : getI l (k : Int) = some x := by
  unfold getI; rw [if_pos (by omega)]; exact h
theorem copyI {l : List Int} (h : l.length ≤ 1048576) : base_CopyInts l = some l := by
  unfold base_CopyInts appI
  rw [if_pos (by simp; omega)]
  simp
def shortB (l : List Ec) : Bool := l.all fun x => decide (x.1.length ≤ 6)
theorem short_walk {step : Int → Option (Int ⊕ (Unit ⊕ Unit))} (l : List Ec) (hl : l.length ≤ 502) (h1 : step = law03_echoes_l1 l ∨ step = law03_echoes_l2 l) : run step 0 = some (if shortB l = true then .inr () else .inl ()) := by
  have := run_walk (step := step) (fun k (_ : Unit) => (k : Int)) (fun _ (x : Ec) => (if x.1.length ≤ 6 then .inl () else .inr (.inl ()) : Unit ⊕ (Unit ⊕ Unit))) (fun _ => .inr ()) (fun k _ => True) l (fun k x b hk _ => by
    have hlt := (List.getElem?_eq_some_iff.1 hk).1
    refine ⟨?_, fun b' _ => trivial⟩
    have hg := getI_k hk
    rcases h1 with rfl | rfl
    · unfold law03_echoes_l1
      rw [if_pos (by simp only [decide_eq_true_eq]; omega), hg, Option.bind_some]
      simp only
      rw [wsucc (n := l.length) (by omega) (by omega)]
      by_cases hx : x.1.length ≤ 6
      · have hx' : ¬ (x.1.length : Int) > 6 := by omega
        simp [hx, hx']
      · have hx' : (x.1.length : Int) > 6 := by omega
        simp [hx, hx']
    · unfold law03_echoes_l2
      rw [if_pos (by simp only [decide_eq_true_eq]; omega), hg, Option.bind_some]
      simp only
      rw [wsucc (n := l.length) (by omega) (by omega)]
      by_cases hx : x.1.length ≤ 6
      · have hx' : ¬ (x.1.length : Int) > 6 := by omega
        simp [hx, hx']
      · have hx' : (x.1.length : Int) > 6 := by omega
        simp [hx, hx']) (fun b _ => by
    rcases h1 with rfl | rfl
    · unfold law03_echoes_l1
      rw [if_neg (by simp)]
    · unfold law03_echoes_l2
      rw [if_neg (by simp)]) (b0 := ()) trivial
  have e : ∀ (t : List Ec), walk (fun (_ : Unit) (x : Ec) => (if x.1.length ≤ 6 then .inl () else .inr (.inl ()) : Unit ⊕ (Unit ⊕ Unit))) (fun _ => .inr ()) () t = if shortB t = true then .inr () else .inl () := by
    intro t
    induction t with
    | nil => rfl
    | cons x t ih =>
      unfold walk shortB
      by_cases hx : x.1.length ≤ 6
      · rw [if_pos hx]
        simp only
        rw [ih]
        unfold shortB
        rw [List.all_cons, decide_eq_true hx, Bool.true_and]
      · rw [if_neg hx]
        simp [hx]
  rw [e] at this
  exact this
/-- lists that the statements speak of -/
def Few (l : List Ec) : Prop := l.length ≤ 502 ∧ ∀ x ∈ l, x.1.length ≤ 6
theorem echoes_eq (l : List Ec) : ∃ b : Bool, law03_echoes l = some b ∧ (b = true → Few l) := by
  have fin : ∀ (hl : l.length ≤ 502) (step : Int → Option (Int ⊕ (Unit ⊕ Unit))), (step = law03_echoes_l1 l ∨ step = law03_echoes_l2 l) → ∃ b : Bool, ((run step 0).bind fun v => match v with | (.inl _) => some false | (.inr _) => some true) = some b ∧ (b = true → Few l) := by
    intro hl step hs
    rw [short_walk l hl hs, Option.bind_some]
    by_cases hb : shortB l = true
    · rw [if_pos hb]
      exact ⟨true, rfl, fun _ => ⟨hl, fun x hx => by simpa using List.all_eq_true.1 hb x hx⟩⟩
    · rw [if_neg hb]
      exact ⟨false, rfl, fun h => by cases h⟩
  unfold law03_echoes
  by_cases h1 : (l.length : Int) > 12
  · rw [if_pos (by simpa using h1)]
    by_cases h2 : (l.length : Int) ≤ 500
    · rw [if_pos (by simpa using h2)]; exact ⟨false, rfl, fun h => by cases h⟩
    · rw [if_neg (by simpa using h2)]
      by_cases h3 : (l.length : Int) > 502
      · rw [if_pos (by simpa using h3)]; exact ⟨false, rfl, fun h => by cases h⟩
      · rw [if_neg (by simpa using h3)]
        exact fin (by omega) _ (.inl rfl)
  · rw [if_neg (by simpa using h1)]
    by_cases h3 : (l.length : Int) > 502
    · rw [if_pos (by simpa using h3)]; exact ⟨false, rfl, fun h => by cases h⟩
    · rw [if_neg (by simpa using h3)]
      exact fin (by omega) _ (.inr rfl)
theorem copyE {l : List Ec} (h : Few l) : ref03_CopyEchoes l = some l := by
  have h1 := h.1
  unfold ref03_CopyEchoes appI
  rw [if_pos (by simp; omega), Option.bind_some, List.nil_append]
  have := run_walk (step := ref03_CopyEchoes_l1 l) (fun k (_ : Unit) => (l, (k : Int))) (fun _ (_ : Ec) => (.inl () : Unit ⊕ List Ec)) (fun _ => l) (fun _ _ => True) l (fun k x b hk _ => by
    have hlt := (List.getElem?_eq_some_iff.1 hk).1
    refine ⟨?_, fun _ _ => trivial⟩
    have hg := getI_k hk
    have hs := h.2 x (List.mem_of_getElem? hk)
    unfold ref03_CopyEchoes_l1
    simp only
    rw [if_pos (by simp only [decide_eq_true_eq]; omega), hg, Option.bind_some]
    simp only [copyI (show x.1.length ≤ 1048576 by omega), hg, Option.bind_some]
    rw [wsucc (n := l.length) (by omega) (by omega), Int.toNat_natCast]
    have e : l.set k (x.1, x.2.1, x.2.2.1, x.2.2.2.1, x.2.2.2.2) = l := by
      apply List.ext_getElem?
      intro i
      rw [List.getElem?_set]
      split
      · rename_i hi
        subst hi
        exact hk.symm
      · rfl
    rw [e]) (fun b _ => by
    unfold ref03_CopyEchoes_l1
    simp only
    rw [if_neg (by simp)]) (b0 := ()) trivial
  have e : ∀ (t : List Ec), walk (fun (_ : Unit) (_ : Ec) => (.inl () : Unit ⊕ List Ec)) (fun _ => l) () t = l := by
    intro t
    induction t with
    | nil => rfl
    | cons x t ih => simpa [walk] using ih
  rw [e] at this
  have h0 : run (ref03_CopyEchoes_l1 l) (l, 0) = some l := this
  rw [h0]
  rfl
/-! ### which echoes are right -/
def rng (a b m : Int) : Int := if 0 ≤ a ∧ a ≤ m then (if 0 ≤ b ∧ b ≤ m then (if a > b then 9 else 0) else 2) else 2
theorem rng0 {a b m : Int} : rng a b m = 0 ↔ 0 ≤ a ∧ a ≤ b ∧ b ≤ m := by
  unfold rng
  by_cases h1 : 0 ≤ a ∧ a ≤ m
  · rw [if_pos h1]
    by_cases h2 : 0 ≤ b ∧ b ≤ m
    · rw [if_pos h2]
      by_cases h3 : a > b
      · rw [if_pos h3]; exact ⟨fun h => (by cases h), fun h => by omega⟩
      · rw [if_neg h3]; exact ⟨fun _ => by omega, fun _ => rfl⟩
    · rw [if_neg h2]; exact ⟨fun h => (by cases h), fun h => by omega⟩
  · rw [if_neg h1]; exact ⟨fun h => (by cases h), fun h => by omega⟩
theorem rngP (a b m : Int) : energy_ends_within_c1_9cbd a b m = some (rng a b m) := by
  unfold energy_ends_within_c1_9cbd energy_firstError_b825 energy_refuse rng
  simp only [eWithin, eRefuse, Option.bind_some]
  by_cases h1 : 0 ≤ a ∧ a ≤ m
  · have n1 : ¬ (a < 0 ∨ a > m) := by omega
    by_cases h2 : 0 ≤ b ∧ b ≤ m
    · have n2 : ¬ (b < 0 ∨ b > m) := by omega
      by_cases h3 : a > b <;> simp [h1, h2, n1, n2, h3]
    · have n2 : b < 0 ∨ b > m := by omega
      simp [h1, h2, n1, n2]
  · have n1 : a < 0 ∨ a > m := by omega
    simp [h1, n1]
theorem rngR (a b m : Int) : ref03_rangeErr a b m = some (rng a b m) := by
  unfold ref03_rangeErr rng
  simp only [within_eq, Option.bind_some]
  by_cases h1 : 0 ≤ a ∧ a ≤ m
  · by_cases h2 : 0 ≤ b ∧ b ≤ m
    · by_cases h3 : a > b <;> simp [h1, h2, h3]
    · simp [h1, h2]
  · simp [h1]
def codeE (p : Option Ec) (x : Ec) : Int := if rng x.2.1 x.2.2.1 10000000 ≠ 0 then rng x.2.1 x.2.2.1 10000000 else if rng x.2.2.2.1 x.2.2.2.2 1000000000000 ≠ 0 then rng x.2.2.2.1 x.2.2.2.2 1000000000000 else
  match p with
  | some q => if x.2.1 < q.2.1 then 9 else 0
  | none => 0
def chkF (b : Nat × Option Ec) (x : Ec) : (Nat × Option Ec) ⊕ ((Int × Int) ⊕ Unit) := if codeE b.2 x ≠ 0 then .inr (.inl ((b.1 : Int), codeE b.2 x)) else .inl (b.1 + 1, some x)
def chkW (l : List Ec) : (Int × Int) ⊕ Unit := walk chkF (fun _ => .inr ()) (0, none) l
def ChkI (l : List Ec) (k : Nat) (b : Nat × Option Ec) : Prop := b.1 = k ∧ b.2 = if k = 0 then none else l[k - 1]?
theorem chkF_inv {l : List Ec} {k : Nat} {x : Ec} {b b' : Nat × Option Ec} (hk : l[k]? = some x) (hI : ChkI l k b) (h : chkF b x = .inl b') : ChkI l (k + 1) b' := by
  unfold chkF at h
  split at h
  · cases h
  · cases h
    refine ⟨by simp [hI.1], ?_⟩
    rw [if_neg (by omega), show k + 1 - 1 = k by omega, hk]
theorem codeP {l : List Ec} {k : Nat} {x : Ec} {b : Nat × Option Ec} (hl : l.length ≤ 502) (hk : l[k]? = some x) (hI : ChkI l k b) : energy_CheckEchoes_c1_c35a (k : Int) l = some (codeE b.2 x) := by
  have hlt := (List.getElem?_eq_some_iff.1 hk).1
  unfold energy_CheckEchoes_c1_c35a energy_ends_within energy_refuse energy_firstError_fcea
  rw [getI_k hk, Option.bind_some]
  simp only [Option.bind_some, rngP, eRefuse]
  rw [hI.2]
  unfold codeE
  by_cases h0 : k = 0
  · subst h0
    rw [if_neg (by simp), if_pos rfl]
    simp only [Bool.false_eq_true, if_false]
    by_cases h1 : rng x.2.1 x.2.2.1 10000000 = 0
    · by_cases h2 : rng x.2.2.2.1 x.2.2.2.2 1000000000000 = 0 <;> simp [h1, h2]
    · simp [h1]
  · obtain ⟨q, hq⟩ : ∃ q, l[k - 1]? = some q := ⟨_, List.getElem?_eq_getElem (by omega)⟩
    have hg : getI l (IntKind.i64.wrap ((k : Int) - 1)) = some q := by
      rw [w64 (by omega), show (k : Int) - 1 = ((k - 1 : Nat) : Int) by omega]
      exact getI_k hq
    rw [if_pos (by simp only [decide_eq_true_eq]; omega), if_neg h0, hg, hq, Option.bind_some]
    simp only
    by_cases h1 : rng x.2.1 x.2.2.1 10000000 = 0
    · by_cases h2 : rng x.2.2.2.1 x.2.2.2.2 1000000000000 = 0
      · by_cases h3 : x.2.1 < q.2.1 <;> simp [h1, h2, h3]
      · simp [h1, h2]
    · simp [h1]
theorem prog_chk {l : List Ec} (hl : l.length ≤ 502) : run (energy_firstWrong_0991_l1 (l.length : Int) l) 0 = some (chkW l) := by
  refine run_walk (step := energy_firstWrong_0991_l1 (l.length : Int) l) (fun k (_ : Nat × Option Ec) => (k : Int)) chkF (fun _ => .inr ()) (ChkI l) l (fun k x b hk hI => ?_) (fun b hI => ?_) ⟨rfl, rfl⟩
  · have hlt := (List.getElem?_eq_some_iff.1 hk).1
    refine ⟨?_, fun b' hb' => chkF_inv hk hI hb'⟩
    unfold energy_firstWrong_0991_l1
    rw [if_pos (by simp only [decide_eq_true_eq]; omega), codeP hl hk hI, Option.bind_some, wsucc (n := l.length) (by omega) (by omega)]
    unfold chkF
    rw [hI.1]
    by_cases h : codeE b.2 x = 0 <;> simp [h]
  · unfold energy_firstWrong_0991_l1
    rw [if_neg (by simp)]
theorem ref_chk {l : List Ec} (hl : l.length ≤ 502) : run (ref03_CheckEchoes_l1 l) 0 = some (chkW l) := by
  refine run_walk (step := ref03_CheckEchoes_l1 l) (fun k (_ : Nat × Option Ec) => (k : Int)) chkF (fun _ => .inr ()) (ChkI l) l (fun k x b hk hI => ?_) (fun b hI => ?_) ⟨rfl, rfl⟩
  · have hlt := (List.getElem?_eq_some_iff.1 hk).1
    refine ⟨?_, fun b' hb' => chkF_inv hk hI hb'⟩
    unfold ref03_CheckEchoes_l1
    rw [if_pos (by simp only [decide_eq_true_eq]; omega), getI_k hk, Option.bind_some]
    simp only [rngR, Option.bind_some]
    rw [wsucc (n := l.length) (by omega) (by omega)]
    unfold chkF
    rw [hI.1, hI.2]
    unfold codeE
    by_cases h0 : k = 0
    · subst h0
      have e0 : ¬ ((0 : Nat) : Int) > 0 := by omega
      rw [if_pos rfl]
      by_cases h1 : rng x.2.1 x.2.2.1 10000000 = 0
      · by_cases h2 : rng x.2.2.2.1 x.2.2.2.2 1000000000000 = 0 <;> simp [h1, h2]
      · simp [h1]
    · obtain ⟨q, hq⟩ : ∃ q, l[k - 1]? = some q := ⟨_, List.getElem?_eq_getElem (by omega)⟩
      have hg : getI l (IntKind.i64.wrap ((k : Int) - 1)) = some q := by
        rw [w64 (by omega), show (k : Int) - 1 = ((k - 1 : Nat) : Int) by omega]
        exact getI_k hq
      have e0 : ((k : Nat) : Int) > 0 := by omega
      rw [if_neg h0, hg, hq, Option.bind_some]
      by_cases h1 : rng x.2.1 x.2.2.1 10000000 = 0
      · by_cases h2 : rng x.2.2.2.1 x.2.2.2.2 1000000000000 = 0
        · have e1 : ¬ (k : Int) = 0 := by omega
          by_cases h3 : x.2.1 < q.2.1 <;> simp [h1, h2, h3, h0, e1]
        · simp [h1, h2]
      · simp [h1]
  · unfold ref03_CheckEchoes_l1
    rw [if_neg (by simp)]
def chkE (l : List Ec) : Int × Int := if l.length > 500 then (0, 8) else match chkW l with
  | .inl p => p
  | .inr _ => (0, 0)
theorem progChk {l : List Ec} (hl : l.length ≤ 502) : energy_CheckEchoes l = some (chkE l) := by
  unfold energy_CheckEchoes chkE energy_firstWrong_0991
  by_cases h : l.length > 500
  · rw [if_pos (by simp only [decide_eq_true_eq]; omega), if_pos h]
  · rw [if_neg (by simp only [decide_eq_true_eq]; omega), if_neg h, prog_chk hl, Option.bind_some]
    cases chkW l <;> rfl
theorem refChk {l : List Ec} (hl : l.length ≤ 502) : ref03_CheckEchoes l = some (chkE l) := by
  unfold ref03_CheckEchoes chkE
  by_cases h : l.length > 500
  · rw [if_pos (by simp only [decide_eq_true_eq]; omega), if_pos h]
  · rw [if_neg (by simp only [decide_eq_true_eq]; omega), if_neg h, ref_chk hl, Option.bind_some]
    cases chkW l <;> rfl
/-- right echoes -/
def RightE (x : Ec) : Prop := (0 ≤ x.2.1 ∧ x.2.1 ≤ x.2.2.1 ∧ x.2.2.1 ≤ 10000000) ∧ 0 ≤ x.2.2.2.1 ∧ x.2.2.2.1 ≤ x.2.2.2.2 ∧ x.2.2.2.2 ≤ 1000000000000
theorem chkW_right {l : List Ec} {b : Nat × Option Ec} (h : ∀ p, walk chkF (fun _ => .inr ()) b l = (.inl p : (Int × Int) ⊕ Unit) → p.2 = 0) : ∀ x ∈ l, RightE x := by
  induction l generalizing b with
  | nil => intro x hx; simp at hx
  | cons y t ih =>
    simp only [walk] at h
    unfold chkF at h
    by_cases hc : codeE b.2 y = 0
    · have e : ¬ codeE b.2 y ≠ 0 := fun hh => hh hc
      simp only [e, if_false] at h
      intro x hx
      rcases List.mem_cons.1 hx with rfl | hx
      · unfold codeE at hc
        by_cases h1 : rng x.2.1 x.2.2.1 10000000 = 0
        · by_cases h2 : rng x.2.2.2.1 x.2.2.2.2 1000000000000 = 0
          · exact ⟨rng0.1 h1, rng0.1 h2⟩
          · simp [h1, h2] at hc
        · simp [h1] at hc
      · exact ih h x hx
    · simp only [ne_eq, hc, not_false_eq_true, if_true] at h
      exact absurd (h _ rfl) hc
theorem chkE_right {l : List Ec} (h : (chkE l).2 = 0) : l.length ≤ 500 ∧ ∀ x ∈ l, RightE x := by
  unfold chkE at h
  split at h
  · cases h
  · rename_i hl
    refine ⟨by omega, chkW_right (b := (0, none)) fun p hp => ?_⟩
    unfold chkW at h
    rw [hp] at h
    exact h
end Go.Rex

open Go Go.Rex
namespace Go.Rex
set_option maxRecDepth 100000
/-! ### what has arrived -/
abbrev W (x : Int) : Int := IntKind.i64.wrap x
def upF (m : Int) (b : Int × Int) (x : Ec) : Int × Int := (if x.2.2.1 ≤ m then W (b.1 + x.2.2.2.1) else b.1, if x.2.1 ≤ m then W (b.2 + x.2.2.2.2) else b.2)
theorem walk_fold {α β : Type} (f : β → α → β) : ∀ (l : List α) (b : β), walk (fun b x => (.inl (f b x) : β ⊕ β)) id b l = l.foldl f b
  | [], b => rfl
  | x :: t, b => by simp only [walk, List.foldl_cons]; exact walk_fold f t (f b x)
theorem up_run {l : List Ec} (hl : l.length ≤ 502) (m : Int) {step : (Int × Int × Int) → Option ((Int × Int × Int) ⊕ (Int × Int))} (hs : step = energy_UpTo_l1 l m ∨ step = ref03_UpTo_l1 l m) : run step (0, 0, 0) = some (l.foldl (upF m) (0, 0)) := by
  have := run_walk (step := step) (fun k (b : Int × Int) => (b.1, b.2, (k : Int))) (fun b x => (.inl (upF m b x) : (Int × Int) ⊕ (Int × Int))) id (fun k _ => True) l (fun k x b hk _ => by
    have hlt := (List.getElem?_eq_some_iff.1 hk).1
    refine ⟨?_, fun b' _ => trivial⟩
    have hg := getI_k hk
    rcases hs with rfl | rfl
    · unfold energy_UpTo_l1 upF
      simp only
      rw [if_pos (by simp only [decide_eq_true_eq]; omega), hg, Option.bind_some]
      rw [wsucc (n := l.length) (by omega) (by omega)]
      by_cases h1 : x.2.2.1 ≤ m <;> by_cases h2 : x.2.1 ≤ m <;> simp [h1, h2]
    · unfold ref03_UpTo_l1 upF
      simp only
      rw [if_pos (by simp only [decide_eq_true_eq]; omega), hg, Option.bind_some]
      rw [wsucc (n := l.length) (by omega) (by omega)]
      by_cases h1 : x.2.2.1 ≤ m <;> by_cases h2 : x.2.1 ≤ m <;> simp [h1, h2]) (fun b _ => by
    rcases hs with rfl | rfl
    · unfold energy_UpTo_l1
      simp only
      rw [if_neg (by simp)]
      rfl
    · unfold ref03_UpTo_l1
      simp only
      rw [if_neg (by simp)]
      rfl) (b0 := (0, 0)) trivial
  rw [walk_fold] at this
  exact this
/-! ### bursts -/
def inF (lo w : Int) (b : Int × Int) (x : Ec) : Int × Int := if W (x.2.2.1 - lo) ≤ w then (W (b.1 + 1), W (b.2 + x.2.2.2.1)) else b
def inn (l : List Ec) (k : Nat) (w : Int) : Int × Int := (l.drop k).foldl (inF ((l[k]?.map (·.2.1)).getD 0) w) (0, 0)
theorem burst_from {l : List Ec} (hl : l.length ≤ 502) {k : Nat} (hk : k < l.length) (w : Int) : energy_burstFrom l (k : Int) w = some ((k : Int), (inn l k w).1, (inn l k w).2) := by
  have hx : l[k]? = some l[k] := List.getElem?_eq_getElem hk
  have hsub : subI l (k : Int) (l.length : Int) = some (l.drop k) := by
    unfold subI
    rw [if_pos (by omega)]
    simp only [Int.toNat_natCast]
    rw [List.take_of_length_le (by simp)]
  unfold energy_burstFrom
  rw [hsub, Option.bind_some]
  have := run_walk (step := energy_burstFrom_l1 l (k : Int) w (l.drop k)) (fun j (b : Int × Int) => (b.1, b.2, (j : Int))) (fun b x => (.inl (inF l[k].2.1 w b x) : (Int × Int) ⊕ (Int × Int))) id (fun _ _ => True) (l.drop k) (fun j x b hj _ => by
    have hlt := (List.getElem?_eq_some_iff.1 hj).1
    refine ⟨?_, fun b' _ => trivial⟩
    have hg := getI_k hj
    unfold energy_burstFrom_l1 inF
    simp only
    rw [if_pos (by simp only [decide_eq_true_eq]; omega), hg, Option.bind_some]
    rw [getI_k hx, Option.bind_some]
    rw [wsucc (n := (l.drop k).length) (by omega) (by simp; omega)]
    by_cases h1 : W (x.2.2.1 - l[k].2.1) ≤ w
    · rw [if_pos (by simpa using h1), if_pos h1]
    · rw [if_neg (by simpa using h1), if_neg h1]) (fun b _ => by
    unfold energy_burstFrom_l1
    simp only
    rw [if_neg (by simp)]
    rfl) (b0 := (0, 0)) trivial
  rw [walk_fold] at this
  have h0 : run (energy_burstFrom_l1 l (k : Int) w (l.drop k)) (0, 0, 0) = some (inn l k w) := by
    unfold inn
    rw [hx]
    exact this
  rw [h0]
  rfl
theorem ref_inner {l : List Ec} (hl : l.length ≤ 502) {k : Nat} (hk : k < l.length) (w : Int) : run (ref03_BurstOf_l2 l w (k : Int)) (0, 0, (k : Int)) = some (inn l k w) := by
  have hx : l[k]? = some l[k] := List.getElem?_eq_getElem hk
  have := run_walk (step := ref03_BurstOf_l2 l w (k : Int)) (fun j (b : Int × Int) => (b.1, b.2, ((k + j : Nat) : Int))) (fun b x => (.inl (inF l[k].2.1 w b x) : (Int × Int) ⊕ (Int × Int))) id (fun _ _ => True) (l.drop k) (fun j x b hj _ => by
    have hlt := (List.getElem?_eq_some_iff.1 hj).1
    rw [List.length_drop] at hlt
    refine ⟨?_, fun b' _ => trivial⟩
    rw [List.getElem?_drop] at hj
    have hg := getI_k hj
    unfold ref03_BurstOf_l2 inF
    simp only
    rw [if_pos (by simp only [decide_eq_true_eq]; omega), hg, Option.bind_some]
    rw [getI_k hx, Option.bind_some]
    rw [wsucc (n := l.length) (by omega) (by omega)]
    by_cases h1 : W (x.2.2.1 - l[k].2.1) ≤ w
    · rw [if_pos (by simpa using h1), if_pos h1]; rfl
    · rw [if_neg (by simpa using h1), if_neg h1]; rfl) (fun b _ => by
    unfold ref03_BurstOf_l2
    simp only
    rw [if_neg (by simp; omega)]
    rfl) (b0 := (0, 0)) trivial
  rw [walk_fold] at this
  unfold inn
  rw [hx]
  exact this
def outF (l : List Ec) (w : Int) (b : Nat × Int × Int × Int) (_ : Ec) : Nat × Int × Int × Int := if (inn l b.1 w).2 > b.2.2.2 then (b.1 + 1, (b.1 : Int), (inn l b.1 w).1, (inn l b.1 w).2) else (b.1 + 1, b.2)
theorem walk_foldO {α β ε : Type} (f : β → α → β) (g : β → ε) : ∀ (l : List α) (b : β), walk (fun b x => (.inl (f b x) : β ⊕ ε)) g b l = g (l.foldl f b)
  | [], b => rfl
  | x :: t, b => by simp only [walk, List.foldl_cons]; exact walk_foldO f g t (f b x)
theorem out_prog {l : List Ec} (hl : l.length ≤ 502) (w : Int) (p : Int × Int × Int) : run (energy_BurstOf_l1 l w) (p.1, p.2.1, p.2.2, 0) = some ((l.foldl (outF l w) (0, p)).2) := by
  have := run_walk (step := energy_BurstOf_l1 l w) (fun k (b : Nat × Int × Int × Int) => (b.2.1, b.2.2.1, b.2.2.2, (k : Int))) (fun b x => (.inl (outF l w b x) : (Nat × Int × Int × Int) ⊕ (Int × Int × Int))) (fun b => b.2) (fun k b => b.1 = k) l (fun k x b hk hI => by
    have hlt := (List.getElem?_eq_some_iff.1 hk).1
    subst hI
    refine ⟨?_, fun b' hb' => ?_⟩
    · unfold energy_BurstOf_l1 outF
      simp only
      rw [if_pos (by simp only [decide_eq_true_eq]; omega), burst_from hl hlt, Option.bind_some]
      simp only
      rw [wsucc (n := l.length) (by omega) (by omega)]
      by_cases h1 : (inn l b.1 w).2 > b.2.2.2
      · rw [if_pos (by simpa using h1), if_pos h1]
      · rw [if_neg (by simpa using h1), if_neg h1]
    · obtain rfl := Sum.inl.inj hb'
      unfold outF
      split <;> rfl) (fun b hI => by
    unfold energy_BurstOf_l1
    simp only
    rw [if_neg (by simp)]
    ) (b0 := (0, p)) rfl
  rw [walk_foldO] at this
  exact this
theorem out_ref {l : List Ec} (hl : l.length ≤ 502) (w : Int) : run (ref03_BurstOf_l1 l w) (0, 0, (-1), 0) = some ((l.foldl (outF l w) (0, 0, 0, -1)).2) := by
  have := run_walk (step := ref03_BurstOf_l1 l w) (fun k (b : Nat × Int × Int × Int) => (b.2.1, b.2.2.1, b.2.2.2, (k : Int))) (fun b x => (.inl (outF l w b x) : (Nat × Int × Int × Int) ⊕ (Int × Int × Int))) (fun b => b.2) (fun k b => b.1 = k) l (fun k x b hk hI => by
    have hlt := (List.getElem?_eq_some_iff.1 hk).1
    subst hI
    refine ⟨?_, fun b' hb' => ?_⟩
    · unfold ref03_BurstOf_l1 outF
      simp only
      rw [if_pos (by simp only [decide_eq_true_eq]; omega), ref_inner hl hlt, Option.bind_some]
      rw [wsucc (n := l.length) (by omega) (by omega)]
      by_cases h1 : (inn l b.1 w).2 > b.2.2.2
      · rw [if_pos (by simpa using h1), if_pos h1]
      · rw [if_neg (by simpa using h1), if_neg h1]
    · obtain rfl := Sum.inl.inj hb'
      unfold outF
      split <;> rfl) (fun b hI => by
    unfold ref03_BurstOf_l1
    simp only
    rw [if_neg (by simp)]
    ) (b0 := (0, 0, 0, -1)) rfl
  rw [walk_foldO] at this
  exact this
/-- sums of least energies stay in range -/
theorem inn_nn {l : List Ec} (hr : ∀ x ∈ l, RightE x) (lo w : Int) : ∀ (t : List Ec) (k : Nat) (b : Int × Int), (∀ x ∈ t, RightE x) → k + t.length ≤ 502 → 0 ≤ b.2 → b.2 ≤ 1000000000000 * (k : Int) → 0 ≤ (t.foldl (inF lo w) b).2 ∧ (t.foldl (inF lo w) b).2 ≤ 1000000000000 * ((k + t.length : Nat) : Int)
  | [], k, b, _, _, h0, h1 => ⟨h0, by simpa using h1⟩
  | x :: t, k, b, hx, hk, h0, h1 => by
    have hR := (hx x (by simp)).2
    have hlen : (x :: t).length = t.length + 1 := rfl
    rw [List.foldl_cons]
    have h2 : 0 ≤ (inF lo w b x).2 ∧ (inF lo w b x).2 ≤ 1000000000000 * ((k + 1 : Nat) : Int) := by
      unfold inF
      split
      · simp only [W]
        rw [w64 (x := b.2 + x.2.2.2.1) (by omega)]
        omega
      · omega
    have := inn_nn hr lo w t (k + 1) _ (fun y hy => hx y (by simp [hy])) (by omega) h2.1 h2.2
    rw [hlen, show k + (t.length + 1) = k + 1 + t.length by omega]
    exact this
theorem inn_ge {l : List Ec} (hl : l.length ≤ 502) (hr : ∀ x ∈ l, RightE x) (k : Nat) (w : Int) : 0 ≤ (inn l k w).2 ∧ (inn l k w).2 ≤ 502000000000000 := by
  have := inn_nn hr ((l[k]?.map (·.2.1)).getD 0) w (l.drop k) 0 (0, 0) (fun x hx => hr x (List.mem_of_mem_drop hx)) (by simp; omega) (Int.le_refl _) (by simp)
  have h2 : (l.drop k).length ≤ 502 := by simp; omega
  unfold inn
  omega
def burst (l : List Ec) (w : Int) : Int × Int × Int := (l.foldl (outF l w) (0, 0, (inn l 0 w).1, (inn l 0 w).2)).2
theorem burst_same {l : List Ec} (hl : l.length ≤ 502) (hr : ∀ x ∈ l, RightE x) (hne : l ≠ []) (w : Int) : (l.foldl (outF l w) (0, 0, 0, -1)).2 = burst l w := by
  unfold burst
  cases l with
  | nil => exact absurd rfl hne
  | cons x t =>
    have h0 := inn_ge hl hr 0 w
    rw [List.foldl_cons, List.foldl_cons]
    have e1 : outF (x :: t) w (0, 0, 0, -1) x = (1, 0, (inn (x :: t) 0 w).1, (inn (x :: t) 0 w).2) := by
      unfold outF
      rw [if_pos (by simp only; omega)]
      rfl
    have e2 : outF (x :: t) w (0, 0, (inn (x :: t) 0 w).1, (inn (x :: t) 0 w).2) x = (1, 0, (inn (x :: t) 0 w).1, (inn (x :: t) 0 w).2) := by
      unfold outF
      rw [if_neg (by simp only; omega)]
    rw [e1, e2]
/-! ### the functions -/
def micE (m : Int) : Int := if 0 ≤ m ∧ m ≤ 10000000 then 0 else 2
theorem micR (m : Int) : ref03_MicroErr m = some (micE m) := by
  unfold ref03_MicroErr micE
  rw [within_eq, Option.bind_some]
  by_cases h : 0 ≤ m ∧ m ≤ 10000000 <;> simp [h]
theorem heardR {l : List Ec} (hl : l.length ≤ 502) (m : Int) : energy_heard_c1_3e46 l m = some (if (chkE l).2 ≠ 0 then (chkE l).2 else micE m) := by
  unfold energy_heard_c1_3e46 energy_unnumbered energy_firstError_7ee8 energy_unnumbered_c1_662c
  rw [progChk hl, Option.bind_some]
  simp only [eWithin, eRefuse, Option.bind_some]
  unfold micE
  by_cases h1 : (chkE l).2 = 0
  · by_cases h : 0 ≤ m ∧ m ≤ 10000000
    · have : ¬ (m < 0 ∨ m > 10000000) := by omega
      simp [h1, h, this]
    · have : m < 0 ∨ m > 10000000 := by omega
      simp [h1, h, this]
  · simp [h1]
theorem upTo {l : List Ec} (hl : l.length ≤ 502) (m : Int) : energy_UpTo l m = some (if (chkE l).2 ≠ 0 then (0, 0, (chkE l).2) else if micE m ≠ 0 then (0, 0, micE m) else ((l.foldl (upF m) (0, 0)).1, (l.foldl (upF m) (0, 0)).2, 0)) := by
  unfold energy_UpTo energy_heard
  simp only [heardR hl, Option.bind_some, up_run hl m (.inl rfl)]
  by_cases h1 : (chkE l).2 = 0
  · by_cases h2 : micE m = 0 <;> simp [h1, h2]
  · simp [h1]
theorem burstOf {l : List Ec} (hl : l.length ≤ 502) (w : Int) : energy_BurstOf l w = some (if (chkE l).2 ≠ 0 then (0, 0, 0, (chkE l).2) else if micE w ≠ 0 then (0, 0, 0, micE w) else if l.length = 0 then (0, 0, 0, 12) else ((burst l w).1, (burst l w).2.1, (burst l w).2.2, 0)) := by
  unfold energy_BurstOf energy_heard energy_refuse energy_firstError_81c8
  simp only [heardR hl, Option.bind_some, eRefuse]
  by_cases h1 : (chkE l).2 = 0
  · by_cases h2 : micE w = 0
    · by_cases h3 : l.length = 0
      · have h3' : (l.length : Int) = 0 := by omega
        simp [h1, h2, h3]
      · have h3' : ¬ (l.length : Int) = 0 := by omega
        have hb := burst_from hl (k := 0) (by omega) w
        have hb : energy_burstFrom l 0 w = _ := hb
        simp only [h1, h2, h3, h3', ne_eq, not_true_eq_false, if_false, decide_false, Bool.false_eq_true, decide_true, if_true, not_false_eq_true, hb, Option.bind_some]
        have := out_prog hl w (0, (inn l 0 w).1, (inn l 0 w).2)
        simp only at this
        show ((run (energy_BurstOf_l1 l w) (0, (inn l 0 w).1, (inn l 0 w).2, 0)).bind _) = _
        rw [this]
        rfl
    · simp [h1, h2]
  · simp [h1]
theorem arrives_true (l : List Ec) (m w : Int) : law03_EnergyArrives l m w = some true := by
  unfold law03_EnergyArrives
  obtain ⟨b, hb, hF⟩ := echoes_eq l
  rw [hb, Option.bind_some]
  cases b with
  | false => rfl
  | true =>
    have hF := hF rfl
    have hl := hF.1
    simp only [if_true, copyE hF, Option.bind_some, progChk hl, upTo hl, burstOf hl, refChk hl, micR]
    by_cases h1 : (chkE l).2 = 0
    · obtain ⟨hl5, hR⟩ := chkE_right h1
      have hu : ref03_UpTo l m = some (l.foldl (upF m) (0, 0)) := by
        unfold ref03_UpTo
        rw [up_run hl m (.inr rfl)]
        rfl
      by_cases h2 : micE m = 0
      · by_cases h3 : micE w = 0
        · by_cases h4 : l.length = 0
          · have h4' : (l.length : Int) = 0 := by omega
            simp [h1, h2, h3, h4, h4', hu]
          · have h4' : ¬ (l.length : Int) = 0 := by omega
            have hbu : ref03_BurstOf l w = some (burst l w) := by
              unfold ref03_BurstOf
              rw [out_ref hl w, burst_same hl hR (fun h => h4 (by rw [h]; rfl)) w]
              rfl
            simp [h1, h2, h3, h4, h4', hu, hbu]
        · simp [h1, h2, h3, hu]
      · by_cases h3 : micE w = 0
        · by_cases h4 : l.length = 0
          · have h4' : (l.length : Int) = 0 := by omega
            simp [h1, h2, h3, h4, h4']
          · have h4' : ¬ (l.length : Int) = 0 := by omega
            have hbu : ref03_BurstOf l w = some (burst l w) := by
              unfold ref03_BurstOf
              rw [out_ref hl w, burst_same hl hR (fun h => h4 (by rw [h]; rfl)) w]
              rfl
            simp [h1, h2, h3, h4, h4', hbu]
        · simp [h1, h2, h3]
    · simp [h1]
end Go.Rex

namespace Go.Rex
open Go Go.ChangeShapes Go.WideShapes Go.ChangeAt Go.RowKit Go.Joins Go.Proofs
/-! ### arguments: what they are as trees,and the names of their blocks -/
structure Arg (W : World) (v' : Value) (p : TV) (bs : List Blk) (is : List Info) (av : Nat → Value) : Prop where
  vr : ∀ (D : Nat → Prop) (m : NMap) n,(∀ j,j < bs.length → D (n + j)) → (∀ (j : Nat) i,is[j]? = some i → m (n + j) = i) → VR D m (av n) v'
  vl : ∀ (Fz : Nat → Prop) (h : List Blk) n,(∀ j,j < bs.length → Fz (n + j)) → (∀ (j : Nat) b,bs[j]? = some b → h[n + j]? = some b) → VL Fz h noL p (av n)
  ok : ∀ (D : Nat → Prop) (m : NMap) n,(∀ j,j < bs.length → D (n + j)) → (∀ (j : Nat) i,is[j]? = some i → m (n + j) = i) → ∀ (j : Nat) b,bs[j]? = some b → BlkOk D m W (n + j) b
  lt : ∀ (j : Nat) b i,bs[j]? = some b → is[j]? = some i → b ≠ .dead → i.block < W.heap.size
  len : is.length = bs.length
structure Args (W : World) (vs' : List Value) (ps : List TV) (bs : List Blk) (is : List Info) (av : Nat → List Value) : Prop where
  vr : ∀ (D : Nat → Prop) (m : NMap) n,(∀ j,j < bs.length → D (n + j)) → (∀ (j : Nat) i,is[j]? = some i → m (n + j) = i) → VRs D m (av n) vs'
  vl : ∀ (Fz : Nat → Prop) (h : List Blk) n,(∀ j,j < bs.length → Fz (n + j)) → (∀ (j : Nat) b,bs[j]? = some b → h[n + j]? = some b) → VLs Fz h noL ps (av n)
  ok : ∀ (D : Nat → Prop) (m : NMap) n,(∀ j,j < bs.length → D (n + j)) → (∀ (j : Nat) i,is[j]? = some i → m (n + j) = i) → ∀ (j : Nat) b,bs[j]? = some b → BlkOk D m W (n + j) b
  lt : ∀ (j : Nat) b i,bs[j]? = some b → is[j]? = some i → b ≠ .dead → i.block < W.heap.size
  len : is.length = bs.length
theorem Args.nil (W : World) : Args W [] [] [] [] (fun _=>[]) :=
  ⟨fun _ _ _ _ _=>⟨rfl,fun i a a' h=>by simp at h⟩,fun _ _ _ _ _=>.nil,fun _ _ _ _ _ j b h=>by simp at h,fun j b i h=>by simp at h,rfl⟩
theorem Args.cons {W : World} {v' : Value} {p : TV} {bs bs2 : List Blk} {is is2 : List Info} {av : Nat → Value} {vs' : List Value} {ps : List TV} {avs : Nat → List Value}
    (a : Arg W v' p bs is av) (az : Args W vs' ps bs2 is2 avs) : Args W (v' :: vs') (p :: ps) (bs ++ bs2) (is ++ is2) (fun n=>av n :: avs (n + bs.length)):=by
  have cD : ∀ (D : Nat → Prop) n,(∀ j,j < (bs ++ bs2).length → D (n + j)) → (∀ j,j < bs.length → D (n + j)) ∧ (∀ j,j < bs2.length → D (n + bs.length + j)):=by
    intro D n h
    refine ⟨fun j hj=>h j (by simp;omega),fun j hj=>?_⟩
    have:=h (bs.length + j) (by simp;omega)
    rwa [← Nat.add_assoc] at this
  have cI : ∀ (m : NMap) n,(∀ (j : Nat) i,(is ++ is2)[j]? = some i → m (n + j) = i) → (∀ (j : Nat) i,is[j]? = some i → m (n + j) = i) ∧ (∀ (j : Nat) i,is2[j]? = some i → m (n + bs.length + j) = i):=by
    intro m n h
    refine ⟨fun j i hj=>h j i (by rw [List.getElem?_append_left (List.getElem?_eq_some_iff.1 hj).1];exact hj),fun j i hj=>?_⟩
    have:=h (bs.length + j) i (by rw [List.getElem?_append_right (by rw [a.len];omega),a.len,Nat.add_sub_cancel_left];exact hj)
    rwa [← Nat.add_assoc] at this
  refine ⟨fun D m n hD hm=>?_,fun Fz h n hF hh=>?_,fun D m n hD hm j b hb=>?_,fun j b i hb hi hd=>?_,by simp [a.len,az.len]⟩
  · have h1:=a.vr D m n (cD D n hD).1 (cI m n hm).1
    have h2:=az.vr D m (n + bs.length) (cD D n hD).2 (cI m n hm).2
    refine ⟨by simp [h2.len],fun i x x' hx hx'=>?_⟩
    cases i with
    | zero=>simp at hx hx';subst hx hx';exact h1
    | succ i=>simp at hx hx';exact h2.at' i x x' hx hx'
  · refine .cons (a.vl Fz h n (cD Fz n hF).1 fun j b hb=>hh j b (by rw [List.getElem?_append_left (List.getElem?_eq_some_iff.1 hb).1];exact hb)) (az.vl Fz h (n + bs.length) (cD Fz n hF).2 fun j b hb=>?_)
    have:=hh (bs.length + j) b (by rw [List.getElem?_append_right (by omega),Nat.add_sub_cancel_left];exact hb)
    rwa [← Nat.add_assoc] at this
  · rcases Nat.lt_or_ge j bs.length with hj|hj
    · rw [List.getElem?_append_left hj] at hb
      exact a.ok D m n (cD D n hD).1 (cI m n hm).1 j b hb
    · rw [List.getElem?_append_right hj] at hb
      have:=az.ok D m (n + bs.length) (cD D n hD).2 (cI m n hm).2 _ b hb
      rwa [show n + bs.length + (j - bs.length) = n + j by omega] at this
  · rcases Nat.lt_or_ge j bs.length with hj|hj
    · rw [List.getElem?_append_left hj] at hb
      rw [List.getElem?_append_left (by rw [a.len];exact hj)] at hi
      exact a.lt j b i hb hi hd
    · rw [List.getElem?_append_right hj] at hb
      rw [List.getElem?_append_right (by rw [a.len];exact hj),a.len] at hi
      exact az.lt _ b i hb hi hd
/-- the names of the arguments -/
def nm (is : List Info) : NMap:=fun n=>is.getD n ⟨0,0,0,0⟩
theorem nm_at {is : List Info} {j : Nat} {i : Info} (h : is[j]? = some i) : nm is (0 + j) = i:=by
  unfold nm
  rw [Nat.zero_add,List.getD_eq_getElem?_getD,h]
  rfl
section
variable {W : World} {vs' : List Value} {ps : List TV} {bs : List Blk} {is : List Info} {av : Nat → List Value}
theorem Args.vls (a : Args W vs' ps bs is av) : VLs (fun k=>k < bs.length) bs noL ps (av 0):=a.vl _ _ 0 (fun j hj=>by omega) (fun j b hb=>by rw [Nat.zero_add];exact hb)
theorem Args.vrs (a : Args W vs' ps bs is av) : VRs (fun k=>k < bs.length) (nm is) (av 0) vs':=a.vr _ _ 0 (fun j hj=>by omega) (fun j i hi=>nm_at hi)
end
theorem len1 {α : Type} {l : List α} (h : l.length = 1) : ∃ x0,l = [x0]:=by
  match l,h with
  | [x0],_=>exact ⟨_,rfl⟩
theorem len2 {α : Type} {l : List α} (h : l.length = 2) : ∃ x0 x1,l = [x0,x1]:=by
  match l,h with
  | [x0,x1],_=>exact ⟨_,_,rfl⟩
theorem len5 {α : Type} {l : List α} (h : l.length = 5) : ∃ x0 x1 x2 x3 x4,l = [x0,x1,x2,x3,x4]:=by
  match l,h with
  | [x0,x1,x2,x3,x4],_=>exact ⟨_,_,_,_,_,rfl⟩
/-! ### arguments without names -/
def AtomV (c : Value) : Prop:=isAtom c = true ∧ ∀ D m,VR D m c c
theorem atomV_int (k : IntKind) (n : Int) : AtomV (.int k n):=⟨rfl,fun _ _=>.int _ _⟩
theorem Arg.atom {W : World} {v : Value} (h : AtomV v) : Arg W v (.v v) [] [] (fun _=>v) :=
  ⟨fun _ _ _ _ _=>h.2 _ _,fun _ _ _ _ _=>.v _ _ h.1,fun _ _ _ _ _ j b h=>by simp at h,fun j b i h=>by simp at h,rfl⟩
theorem Arg.agg {W : World} {l : List Value} (h : ∀ c ∈ l,AtomV c) : Arg W (.agg ⟨l⟩) (.agg (l.map .v)) [] [] (fun _=>.agg ⟨l⟩):=by
  refine ⟨fun _ _ _ _ _=>.agg _ _ rfl fun i v v' hv hv'=>?_,fun _ _ _ _ _=>.agg _ _ _ (by simp) fun i p x hp hx=>?_,fun _ _ _ _ _ j b h=>by simp at h,fun j b i h=>by simp at h,rfl⟩
  · obtain rfl : v = v':=Option.some.inj (hv.symm.trans hv')
    exact (h v (List.mem_of_getElem? hv)).2 _ _
  · rw [List.getElem?_map,hx] at hp
    obtain rfl:=Option.some.inj hp
    exact .v _ _ (h x (List.mem_of_getElem? hx)).1
/-! ### a slice of rows -/
theorem choose_list {α : Type} {Q : Nat → α → Prop} : ∀ n,(∀ i,i < n → ∃ x,Q i x) → ∃ xs : List α,xs.length = n ∧ ∀ (i : Nat) x,xs[i]? = some x → Q i x
  | 0,_=>⟨[],rfl,fun i x h=>by simp at h⟩
  | n + 1,h=>by
    obtain ⟨xs,hl,hq⟩:=choose_list n (fun i hi=>h i (by omega))
    obtain ⟨x,hx⟩:=h n (by omega)
    refine ⟨xs ++ [x],by simp [hl],fun i y hy=>?_⟩
    rcases Nat.lt_or_ge i n with hi|hi
    · rw [List.getElem?_append_left (by omega)] at hy
      exact hq i y hy
    · rw [List.getElem?_append_right (by omega),hl] at hy
      have : i = n:=by
        rcases Nat.lt_or_ge 0 (i - n) with g|g
        · rw [List.getElem?_eq_none (by simp;omega)] at hy;cases hy
        · omega
      subst this
      simp at hy
      subst hy
      exact hx
section
variable {H : Type} {enc : TypeId × Value → H} {W : World} {base : Nat} {spare : Nat → Bool} {held : Bool}
/-! ### aggregates of ints -/
def AI (cs : List Value) : Prop:=∀ c ∈ cs,∃ n : Int,c = .int .i64 n
theorem AI.list {cs : List Value} (h : AI cs) : ∃ l : List Int,cs = l.map (.int .i64):=by
  induction cs with
  | nil=>exact ⟨[],rfl⟩
  | cons c t ih =>
    obtain ⟨n,rfl⟩:=h c (by simp)
    obtain ⟨l,rfl⟩:=ih fun c hc=>h c (by simp [hc])
    exact ⟨n :: l,rfl⟩
variable {P : Program}
theorem okW_int {t : TypeId} (ht : P.underlying t = some (.int .i64)) {r : Reach} {b : Nat} {v : Value} (w : Cell.okWide P W r b t v) : ∃ n : Int,v = .int .i64 n:=by
  unfold Cell.okWide at w
  simp only [ht] at w
  unfold Cell.ok at w
  simp only [ht] at w
  cases v<;>first|exact ⟨_,by rw [w.1]⟩|exact absurd w (by simp)
theorem open_int {t : TypeId} (ht : P.underlying t = some (.int .i64)) {r : Reach} {b : Nat} {v : Value} (w : Value.okWide P W r b t v) : ∃ n : Int,v = .int .i64 n:=by
  unfold Value.okWide at w
  simp only [ht] at w
  exact okW_int ht w
theorem Arg.ofArgs {cs : List Value} {ps : List TV} {bs : List Blk} {is : List Info} {av : Nat → List Value} (a : Args W cs ps bs is av) : Arg W (.agg ⟨cs⟩) (.agg ps) bs is (fun n=>.agg ⟨av n⟩) :=
  ⟨fun D m n hD hm=>.agg' (a.vr D m n hD hm),fun Fz h n hF hh=>.agg' (a.vl Fz h n hF hh),a.ok,a.lt,a.len⟩
theorem st_field {t : TypeId} {fs : Array Field} {i : Nat} {f : Field} (ht : P.underlying t = some (.struct fs)) (hf : fs[i]? = some f) {fuel : Nat} {cs : List Value} {x : DataW H × List MemPlace} (h : DataW.trod enc P W base spare held fuel t cs = some x) :
    ∃ n y,DataW.trod enc P W base spare held n f.type ((cs.drop f.offset).take (P.cellsOf f.type)) = some y:=by
  obtain ⟨xs,n,_,_,hl,hx,hi⟩:=DataW.trod_struct ht h
  have:=hi i f hf
  have hil : i < fs.size:=(Array.getElem?_eq_some_iff.1 hf).1
  rw [List.getElem?_eq_getElem (by omega)] at this
  exact ⟨n,_,this⟩
end
end Go.Rex

namespace Go.Rex
open Go Go.ChangeShapes Go.WideShapes Go.ChangeAt Go.RowKit Go.Joins Go.Proofs
/-! ### arguments whose blocks name one another: lists of lists -/
structure NArg (W : World) (v' : Value) (p : TV) (bs : Nat → List Blk) (is : List Info) (av : Nat → Value) : Prop where
  vr : ∀ (D : Nat → Prop) (m : NMap) n,(∀ j,j < is.length → D (n + j)) → (∀ (j : Nat) i,is[j]? = some i → m (n + j) = i) → VR D m (av n) v'
  vl : ∀ (Fz : Nat → Prop) (h : List Blk) n,(∀ j,j < is.length → Fz (n + j)) → (∀ (j : Nat) b,(bs n)[j]? = some b → h[n + j]? = some b) → VL Fz h noL p (av n)
  ok : ∀ (D : Nat → Prop) (m : NMap) n,(∀ j,j < is.length → D (n + j)) → (∀ (j : Nat) i,is[j]? = some i → m (n + j) = i) → ∀ (j : Nat) b,(bs n)[j]? = some b → BlkOk D m W (n + j) b
  lt : ∀ n (j : Nat) b i,(bs n)[j]? = some b → is[j]? = some i → b ≠ .dead → i.block < W.heap.size
  len : ∀ n,(bs n).length = is.length
structure NArgs (W : World) (vs' : List Value) (ps : List TV) (bs : Nat → List Blk) (is : List Info) (av : Nat → List Value) : Prop where
  vr : ∀ (D : Nat → Prop) (m : NMap) n,(∀ j,j < is.length → D (n + j)) → (∀ (j : Nat) i,is[j]? = some i → m (n + j) = i) → VRs D m (av n) vs'
  vl : ∀ (Fz : Nat → Prop) (h : List Blk) n,(∀ j,j < is.length → Fz (n + j)) → (∀ (j : Nat) b,(bs n)[j]? = some b → h[n + j]? = some b) → VLs Fz h noL ps (av n)
  ok : ∀ (D : Nat → Prop) (m : NMap) n,(∀ j,j < is.length → D (n + j)) → (∀ (j : Nat) i,is[j]? = some i → m (n + j) = i) → ∀ (j : Nat) b,(bs n)[j]? = some b → BlkOk D m W (n + j) b
  lt : ∀ n (j : Nat) b i,(bs n)[j]? = some b → is[j]? = some i → b ≠ .dead → i.block < W.heap.size
  len : ∀ n,(bs n).length = is.length
theorem Arg.n {W : World} {v' : Value} {p : TV} {bs : List Blk} {is : List Info} {av : Nat → Value} (a : Arg W v' p bs is av) : NArg W v' p (fun _=>bs) is av :=
  ⟨fun D m n hD hm=>a.vr D m n (by rw [← a.len];exact hD) hm,fun Fz h n hF hh=>a.vl Fz h n (by rw [← a.len];exact hF) hh,fun D m n hD hm=>a.ok D m n (by rw [← a.len];exact hD) hm,fun _=>a.lt,fun _=>a.len.symm⟩
theorem NArgs.nil (W : World) : NArgs W [] [] (fun _=>[]) [] (fun _=>[]) :=
  ⟨fun _ _ _ _ _=>⟨rfl,fun i a a' h=>by simp at h⟩,fun _ _ _ _ _=>.nil,fun _ _ _ _ _ j b h=>by simp at h,fun _ j b i h=>by simp at h,fun _=>rfl⟩
theorem NArgs.cons {W : World} {v' : Value} {p : TV} {bs bs2 : Nat → List Blk} {is is2 : List Info} {av : Nat → Value} {vs' : List Value} {ps : List TV} {avs : Nat → List Value}
    (a : NArg W v' p bs is av) (az : NArgs W vs' ps bs2 is2 avs) : NArgs W (v' :: vs') (p :: ps) (fun n=>bs n ++ bs2 (n + is.length)) (is ++ is2) (fun n=>av n :: avs (n + is.length)):=by
  have cD : ∀ (D : Nat → Prop) n,(∀ j,j < (is ++ is2).length → D (n + j)) → (∀ j,j < is.length → D (n + j)) ∧ (∀ j,j < is2.length → D (n + is.length + j)):=by
    intro D n h
    refine ⟨fun j hj=>h j (by simp;omega),fun j hj=>?_⟩
    have:=h (is.length + j) (by simp;omega)
    rwa [← Nat.add_assoc] at this
  have cI : ∀ (m : NMap) n,(∀ (j : Nat) i,(is ++ is2)[j]? = some i → m (n + j) = i) → (∀ (j : Nat) i,is[j]? = some i → m (n + j) = i) ∧ (∀ (j : Nat) i,is2[j]? = some i → m (n + is.length + j) = i):=by
    intro m n h
    refine ⟨fun j i hj=>h j i (by rw [List.getElem?_append_left (List.getElem?_eq_some_iff.1 hj).1];exact hj),fun j i hj=>?_⟩
    have:=h (is.length + j) i (by rw [List.getElem?_append_right (by omega),Nat.add_sub_cancel_left];exact hj)
    rwa [← Nat.add_assoc] at this
  refine ⟨fun D m n hD hm=>?_,fun Fz h n hF hh=>?_,fun D m n hD hm j b hb=>?_,fun n j b i hb hi hd=>?_,fun n=>by simp [a.len,az.len]⟩
  · have h1:=a.vr D m n (cD D n hD).1 (cI m n hm).1
    have h2:=az.vr D m (n + is.length) (cD D n hD).2 (cI m n hm).2
    refine ⟨by simp [h2.len],fun i x x' hx hx'=>?_⟩
    cases i with
    | zero=>simp at hx hx';subst hx hx';exact h1
    | succ i=>simp at hx hx';exact h2.at' i x x' hx hx'
  · refine .cons (a.vl Fz h n (cD Fz n hF).1 fun j b hb=>hh j b (by rw [List.getElem?_append_left (List.getElem?_eq_some_iff.1 hb).1];exact hb)) (az.vl Fz h (n + is.length) (cD Fz n hF).2 fun j b hb=>?_)
    have:=hh (is.length + j) b (by rw [List.getElem?_append_right (by rw [a.len];omega),a.len,Nat.add_sub_cancel_left];exact hb)
    rwa [← Nat.add_assoc] at this
  · rcases Nat.lt_or_ge j is.length with hj|hj
    · rw [List.getElem?_append_left (by rw [a.len];exact hj)] at hb
      exact a.ok D m n (cD D n hD).1 (cI m n hm).1 j b hb
    · rw [List.getElem?_append_right (by rw [a.len];exact hj),a.len] at hb
      have:=az.ok D m (n + is.length) (cD D n hD).2 (cI m n hm).2 _ b hb
      rwa [show n + is.length + (j - is.length) = n + j by omega] at this
  · rcases Nat.lt_or_ge j is.length with hj|hj
    · rw [List.getElem?_append_left (by rw [a.len];exact hj)] at hb
      rw [List.getElem?_append_left hj] at hi
      exact a.lt n j b i hb hi hd
    · rw [List.getElem?_append_right (by rw [a.len];exact hj),a.len] at hb
      rw [List.getElem?_append_right hj] at hi
      exact az.lt _ _ b i hb hi hd
section
variable {W : World} {vs' : List Value} {ps : List TV} {bs : Nat → List Blk} {is : List Info} {av : Nat → List Value}
/-- the names of the variables of packages come first -/
def gnm (is : List Info) : NMap:=fun k=>if k < NG then gm k else is.getD (k - NG) ⟨0,0,0,0⟩
theorem gnm_at {is : List Info} {j : Nat} {i : Info} (h : is[j]? = some i) : gnm is (NG + j) = i:=by
  unfold gnm
  rw [if_neg (by omega),Nat.add_sub_cancel_left,List.getD_eq_getElem?_getD,h]
  rfl
theorem gh_len : GH.length = NG:=rfl
theorem NArgs.rel (a : NArgs W vs' ps bs is av) (hw : GW W) (hs : NG ≤ W.heap.size) : Rel W.heap.size (GH ++ bs NG).length (fun k=>k < (GH ++ bs NG).length) (gnm is) (GH ++ bs NG) W:=by
  have hl:=a.len NG
  have hn : (GH ++ bs NG).length = NG + is.length:=by rw [List.length_append,gh_len,hl]
  have old : ∀ k,k < NG → gnm is k = gm k:=fun k hk=>if_pos hk
  have parts : ∀ n b,n < (GH ++ bs NG).length → (GH ++ bs NG)[n]? = some b → (n < NG ∧ GH[n]? = some b) ∨ ∃ j,n = NG + j ∧ (bs NG)[j]? = some b:=by
    intro n b hn' hb
    rcases Nat.lt_or_ge n NG with h|h
    · rw [List.getElem?_append_left h] at hb;exact .inl ⟨h,hb⟩
    · rw [List.getElem?_append_right h,gh_len] at hb;exact .inr ⟨n - NG,by omega,hb⟩
  have st:=Rel.start W hw hs
  have lt : ∀ n b,n < (GH ++ bs NG).length → (GH ++ bs NG)[n]? = some b → b ≠ .dead → (gnm is n).block < W.heap.size:=by
    intro n b hn' hb hd
    rcases parts n b hn' hb with ⟨h1,h2⟩|⟨j,rfl,h2⟩
    · rw [old n h1];exact st.lt n b h1 h2 hd
    · have hj : j < is.length:=by omega
      rw [gnm_at (List.getElem?_eq_getElem hj)]
      exact a.lt NG j b _ h2 (List.getElem?_eq_getElem hj) hd
  refine ⟨Nat.le_refl _,fun _ h=>h,fun n b hn' hb=>?_,lt,fun n b hD hl=>absurd hD (by omega),fun n b hn' _ hb hd=>lt n b hn' hb hd,fun n b hD hl=>absurd hD (by omega),fun n n' b b' hD _ hl=>absurd hD (by omega),⟨fun g hg=>⟨?_,?_⟩,hs,hw⟩⟩
  · rcases parts n b hn' hb with ⟨h1,h2⟩|⟨j,rfl,h2⟩
    · exact (st.ok n b h1 h2).mono (fun k hk=>by have hk' : k < NG:=hk;show k < (GH ++ bs NG).length;omega) (fun k hk=>old k hk) (old n h1)
    · exact a.ok (fun k=>k < (GH ++ bs NG).length) (gnm is) NG (fun j hj=>by omega) (fun j i hi=>gnm_at hi) j b h2
  · show g < (GH ++ bs NG).length;omega
  · rw [old g hg];exact gm_at g
theorem NArgs.vls (a : NArgs W vs' ps bs is av) : VLs (fun k=>k < (GH ++ bs NG).length) (GH ++ bs NG) noL ps (av NG):=by
  have hn : (GH ++ bs NG).length = NG + is.length:=by rw [List.length_append,gh_len,a.len NG]
  exact a.vl _ _ NG (fun j hj=>by omega) (fun j b hb=>by rw [List.getElem?_append_right (by rw [gh_len];omega),gh_len,Nat.add_sub_cancel_left];exact hb)
theorem NArgs.vrs (a : NArgs W vs' ps bs is av) : VRs (fun k=>k < (GH ++ bs NG).length) (gnm is) (av NG) vs':=by
  have hn : (GH ++ bs NG).length = NG + is.length:=by rw [List.length_append,gh_len,a.len NG]
  exact a.vr _ _ NG (fun j hj=>by omega) (fun j i hi=>gnm_at hi)
theorem NArg.ofArgs (a : NArgs W vs' ps bs is av) : NArg W (.agg ⟨vs'⟩) (.agg ps) bs is (fun n=>.agg ⟨av n⟩) :=
  ⟨fun D m n hD hm=>.agg' (a.vr D m n hD hm),fun Fz h n hF hh=>.agg' (a.vl Fz h n hF hh),a.ok,a.lt,a.len⟩
/-- many arguments of a kind -/
theorem nargs_list {α : Type} {F : α → TV} : ∀ (vs' : List Value), (∀ c ∈ vs', ∃ (x : α) (bs : Nat → List Blk) (is : List Info) (av : Nat → Value), NArg W c (F x) bs is av) →
    ∃ (xs : List α) (bs : Nat → List Blk) (is : List Info) (av : Nat → List Value),xs.length = vs'.length ∧ NArgs W vs' (xs.map F) bs is av
  | [],_=>⟨[],_,_,_,rfl,NArgs.nil W⟩
  | c :: t,h=>by
    obtain ⟨xs,_,_,_,hl,a⟩:=nargs_list t (fun c hc=>h c (by simp [hc]))
    obtain ⟨x,_,_,_,b⟩:=h c (by simp)
    exact ⟨x :: xs,_,_,_,by simp [hl],NArgs.cons b a⟩
end
section
variable {H : Type} {enc : TypeId × Value → H} {W : World} {base : Nat} {spare : Nat → Bool} {held : Bool}
theorem cells_spot {gb : Nat} {o : Nat} {s : Option Nat} {k : Nat} {v : Value} (h : W.cell? ⟨gb,o + k,s⟩ = some v) : s = none ∧ gb < W.heap.size:=by
  unfold World.cell? at h
  split at h
  · rename_i hb
    refine ⟨?_,?_⟩
    · cases s with
      | none=>rfl
      | some s=>simp at h
    · rcases Nat.lt_or_ge gb W.heap.size with hg|hg
      · exact hg
      · rw [Array.getElem?_eq_none hg] at hb
        cases hb
  · cases h
/-- a slice that can be read: a row of values that can be read -/
theorem open_any {P : Program} {t te : TypeId} (ht : P.underlying t = some (.slice te)) {es : Nat} (he : 0 < es) (hC : P.cellsOf te = es) {v' : Value} {fuel : Nat} {x : DataW H × List MemPlace} (h : DataW.trod enc P W base spare held fuel t [v'] = some x) :
    v' = .slice none 0 0 ∨ (∃ a c,v' = .slice (some a) 0 c) ∨ ∃ gb o len cap n,v' = .slice (some ⟨gb,o,none⟩) len cap ∧ 0 < len ∧ len ≤ cap ∧ gb < W.heap.size ∧
      ∀ i,i < len → ∃ cs y,cs.length = es ∧ DataW.trod enc P W base spare held n te cs = some y ∧ ∀ j,j < es → W.cell? ⟨gb,o + i * es + j,none⟩ = cs[j]?:=by
  rcases DataW.trod_slice ht h with ⟨hv,_⟩|⟨a,len,cap,elems,rest,n,_,hv,_,hb,hlc,hcm,hel,hel2,_,_⟩
  · exact .inl (by simpa using hv)
  · obtain rfl : v' = .slice (some a) len cap:=by simpa using hv
    rcases Nat.eq_zero_or_pos len with h0|h0
    · subst h0
      exact .inr (.inl ⟨a,cap,rfl⟩)
    · obtain ⟨gb,o,s⟩:=a
      have first : s = none ∧ gb < W.heap.size:=by
        have h1:=hel2 0 h0
        rw [List.getElem?_eq_getElem (by omega),Option.bind_eq_some_iff] at h1
        obtain ⟨cs,hcs,htr⟩:=h1
        rw [hC] at hcs
        unfold World.cells? at hcs
        split at hcs
        · have hlen:=mapM_some_length hcs
          simp at hlen
          have h2:=mapM_some_get hcs 0 0 (by simp [he])
          have e : ((⟨gb,o,s⟩ : Addr).add (0 * es)).add 0 = ⟨gb,o + 0,s⟩:=by simp [Addr.add]
          rw [e] at h2
          exact cells_spot (h2.trans (List.getElem?_eq_getElem (by omega)))
        · cases hcs
      obtain ⟨rfl,hgb⟩:=first
      refine .inr (.inr ⟨gb,o,len,cap,n,rfl,h0,hlc,hgb,fun i hi=>?_⟩)
      have h1:=hel2 i hi
      rw [List.getElem?_eq_getElem (by omega),Option.bind_eq_some_iff] at h1
      obtain ⟨cs,hcs,htr⟩:=h1
      rw [hC] at hcs
      unfold World.cells? at hcs
      split at hcs
      · have hlen:=mapM_some_length hcs
        simp at hlen
        refine ⟨cs,_,hlen,htr,fun j hj=>?_⟩
        have:=mapM_some_get hcs j j (by simp [hj])
        have e : ((⟨gb,o,none⟩ : Addr).add (i * es)).add j = ⟨gb,o + i * es + j,none⟩:=by
          unfold Addr.add
          split<;>split<;>simp_all
        rw [← e]
        exact this
      · cases hcs
/-- a slice of what can be read az trees -/
theorem open_lists {α : Type} {F : α → TV} {P : Program} {t te : TypeId} (ht : P.underlying t = some (.slice te)) (hC : P.cellsOf te = 1)
    (elem : ∀ n c y,DataW.trod enc P W base spare held n te [c] = some y → ∃ (x : α) (bs : Nat → List Blk) (is : List Info) (av : Nat → Value),NArg W c (F x) bs is av)
    {v' : Value} {fuel : Nat} {x : DataW H × List MemPlace} (h : DataW.trod enc P W base spare held fuel t [v'] = some x) : ∃ (xs : List α) (bs : Nat → List Blk) (is : List Info) (av : Nat → Value),NArg W v' (.list 1 (xs.map fun x=>[F x])) bs is av:=by
  rcases open_any ht (by decide) hC h with rfl|⟨a,c,rfl⟩|⟨gb,o,len,cap,n,rfl,h0,hlc,hgb,key⟩
  · exact ⟨[],fun _=>[],[],fun _=>.slice none 0 0,fun _ _ _ _ _=>.nilSlice 0 0,fun _ _ _ _ _=>.nillist _ _,fun _ _ _ _ _ j b h=>by simp at h,fun _ j b i h=>by simp at h,fun _=>rfl⟩
  · exact ⟨[],fun _=>[],[],fun _=>vag,fun _ _ _ _ _=>.vague a c,fun _ _ _ _ _=>.vague _ _,fun _ _ _ _ _ j b h=>by simp at h,fun _ j b i h=>by simp at h,fun _=>rfl⟩
  · have key2 : ∀ i, i < len → ∃ c : Value, W.cell? ⟨gb, o + i, none⟩ = some c ∧ ∃ y, DataW.trod enc P W base spare held n te [c] = some y := fun i hi => by
      obtain ⟨cs,y,hl,htr,hcell⟩:=key i hi
      obtain ⟨c,rfl⟩:=len1 hl
      refine ⟨c,?_,y,htr⟩
      have:=hcell 0 (by decide)
      simpa using this
    obtain ⟨cs,hcl,hq⟩:=choose_list len key2
    obtain ⟨xs,bs,is,avs,hxl,az⟩:=nargs_list (W:=W) (F:=F) cs (fun c hc=>by
      obtain ⟨i,hi,rfl⟩:=List.mem_iff_getElem.1 hc
      obtain ⟨_,y,hy⟩:=hq i _ (List.getElem?_eq_getElem hi)
      exact elem n _ y hy)
    subst hcl
    have sD : ∀ (D : Nat → Prop) n,(∀ j,j < is.length + 1 → D (n + j)) → D n ∧ ∀ j,j < is.length → D (n + 1 + j):=by
      intro D n hD
      refine ⟨by simpa using hD 0 (by omega),fun j hj=>?_⟩
      have:=hD (j + 1) (by omega)
      rwa [show n + 1 + j = n + (j + 1) by omega]
    have sI : ∀ (m : NMap) n,(∀ (j : Nat) i,((⟨gb,o,cap * 1,1⟩ : Info) :: is)[j]? = some i → m (n + j) = i) → m n = ⟨gb,o,cap * 1,1⟩ ∧ ∀ (j : Nat) i,is[j]? = some i → m (n + 1 + j) = i:=by
      intro m n hm
      refine ⟨by simpa using hm 0 _ rfl,fun j i hi=>?_⟩
      have:=hm (j + 1) i (by simpa using hi)
      rwa [show n + 1 + j = n + (j + 1) by omega]
    refine ⟨xs,fun n=>.cells 1 (avs (n + 1)) :: bs (n + 1),⟨gb,o,cap * 1,1⟩ :: is,fun n=>.slice (some ⟨n,0,none⟩) xs.length xs.length,fun D m n hD hm=>?_,fun Fz h n hF hh=>?_,fun D m n hD hm j b hb=>?_,fun n j b i hb hi hd=>?_,fun n=>by simp [az.len]⟩
    · have e:=(sI m n hm).1
      have:=VR.slice (D:=D) (m:=m) n 0 xs.length xs.length cap (sD D n (by simpa using hD)).1 (Nat.le_refl _) (by omega) (.inr (by rw [e];simp))
      rw [e] at this
      rw [hxl] at this ⊢
      exact this
    · have hs := az.vl Fz h (n + 1) (sD Fz n (by simpa using hF)).2 (fun j b hb => by
        have:=hh (j + 1) b (by simpa using hb)
        rwa [show n + 1 + j = n + (j + 1) by omega])
      have hlen:=hs.len
      have hflat : (xs.map fun x=>[F x]).flatten = xs.map F:=by
        clear hlen hs az hxl
        induction xs with
        | nil=>rfl
        | cons a t ih=>simp [ih]
      have h0':=hh 0 (.cells 1 (avs (n + 1))) rfl
      have:=VL.list (Fz:=Fz) (h:=h) noL 1 (xs.map fun x=>[F x]) n 0 xs.length (avs (n + 1)) 1 (sD Fz n (by simpa using hF)).1 h0' (.inl rfl) (fun r hr=>by obtain ⟨x,_,rfl⟩:=List.mem_map.1 hr;rfl) (by simp) (by simp only [List.length_map] at hlen ⊢;omega) (fun j p x hp hx=>by
        rw [hflat] at hp
        rw [Nat.zero_add] at hx
        exact hs.at' j p x hp hx)
      rw [List.length_map] at this
      exact this
    · cases j with
      | zero =>
        obtain rfl:=Option.some.inj hb
        have e:=(sI m n hm).1
        have hv:=az.vr D m (n + 1) (sD D n (by simpa using hD)).2 (sI m n hm).2
        rw [Nat.add_zero]
        refine ⟨by rw [e],fun i v hi=>?_⟩
        obtain ⟨v',h1,h2⟩:=hv.at hi
        refine ⟨v',?_,h2⟩
        rw [e]
        exact (hq i v' h1).1
      | succ j =>
        have:=az.ok D m (n + 1) (sD D n (by simpa using hD)).2 (sI m n hm).2 j b (by simpa using hb)
        rwa [show n + 1 + j = n + (j + 1) by omega] at this
    · cases j with
      | zero =>
        obtain rfl:=Option.some.inj hi
        exact hgb
      | succ j=>exact az.lt _ j b i (by simpa using hb) (by simpa using hi) hd
/-- a slice of ints that can be read -/
theorem open_ints {P : Program} {t te : TypeId} (ht : P.underlying t = some (.slice te)) (hte : P.underlying te = some (.int .i64)) (hC : P.cellsOf te = 1) {f : Int → List TV} (hf : ∀ x, f x = [.v (.int .i64 x)])
    {v' : Value} {fuel : Nat} {x : DataW H × List MemPlace} (h : DataW.trod enc P W base spare held fuel t [v'] = some x) : ∃ (xs : List Int) (bs : Nat → List Blk) (is : List Info) (av : Nat → Value),NArg W v' (.list 1 (xs.map f)) bs is av:=by
  obtain rfl : f = fun x=>[.v (.int .i64 x)]:=funext hf
  exact open_lists (F:=fun x : Int=>.v (.int .i64 x)) ht hC (fun n c y hy=>by
    obtain ⟨z,hz,_⟩:=DataW.trod_int hte hy
    obtain rfl : c = .int .i64 z:=by simpa using hz
    exact ⟨z,_,_,_,(Arg.atom (atomV_int .i64 z)).n⟩) h
end

theorem NArgs.append {W : World} {vs1 : List Value} {ps1 : List TV} {bs bs2 : Nat → List Blk} {is is2 : List Info} {av avs : Nat → List Value} {vs' : List Value} {ps : List TV}
    (a : NArgs W vs1 ps1 bs is av) (az : NArgs W vs' ps bs2 is2 avs) : NArgs W (vs1 ++ vs') (ps1 ++ ps) (fun n=>bs n ++ bs2 (n + is.length)) (is ++ is2) (fun n=>av n ++ avs (n + is.length)):=by
  have cD : ∀ (D : Nat → Prop) n,(∀ j,j < (is ++ is2).length → D (n + j)) → (∀ j,j < is.length → D (n + j)) ∧ (∀ j,j < is2.length → D (n + is.length + j)):=by
    intro D n h
    refine ⟨fun j hj=>h j (by simp;omega),fun j hj=>?_⟩
    have:=h (is.length + j) (by simp;omega)
    rwa [← Nat.add_assoc] at this
  have cI : ∀ (m : NMap) n,(∀ (j : Nat) i,(is ++ is2)[j]? = some i → m (n + j) = i) → (∀ (j : Nat) i,is[j]? = some i → m (n + j) = i) ∧ (∀ (j : Nat) i,is2[j]? = some i → m (n + is.length + j) = i):=by
    intro m n h
    refine ⟨fun j i hj=>h j i (by rw [List.getElem?_append_left (List.getElem?_eq_some_iff.1 hj).1];exact hj),fun j i hj=>?_⟩
    have:=h (is.length + j) i (by rw [List.getElem?_append_right (by omega),Nat.add_sub_cancel_left];exact hj)
    rwa [← Nat.add_assoc] at this
  refine ⟨fun D m n hD hm=>?_,fun Fz h n hF hh=>?_,fun D m n hD hm j b hb=>?_,fun n j b i hb hi hd=>?_,fun n=>by simp [a.len,az.len]⟩
  · exact (a.vr D m n (cD D n hD).1 (cI m n hm).1).append (az.vr D m (n + is.length) (cD D n hD).2 (cI m n hm).2)
  · refine (a.vl Fz h n (cD Fz n hF).1 fun j b hb=>hh j b (by rw [List.getElem?_append_left (List.getElem?_eq_some_iff.1 hb).1];exact hb)).append (az.vl Fz h (n + is.length) (cD Fz n hF).2 fun j b hb=>?_)
    have:=hh (is.length + j) b (by rw [List.getElem?_append_right (by rw [a.len];omega),a.len,Nat.add_sub_cancel_left];exact hb)
    rwa [← Nat.add_assoc] at this
  · rcases Nat.lt_or_ge j is.length with hj|hj
    · rw [List.getElem?_append_left (by rw [a.len];exact hj)] at hb
      exact a.ok D m n (cD D n hD).1 (cI m n hm).1 j b hb
    · rw [List.getElem?_append_right (by rw [a.len];exact hj),a.len] at hb
      have:=az.ok D m (n + is.length) (cD D n hD).2 (cI m n hm).2 _ b hb
      rwa [show n + is.length + (j - is.length) = n + j by omega] at this
  · rcases Nat.lt_or_ge j is.length with hj|hj
    · rw [List.getElem?_append_left (by rw [a.len];exact hj)] at hb
      rw [List.getElem?_append_left hj] at hi
      exact a.lt n j b i hb hi hd
    · rw [List.getElem?_append_right (by rw [a.len];exact hj),a.len] at hb
      rw [List.getElem?_append_right hj] at hi
      exact az.lt _ _ b i hb hi hd
/-- rows of values that can be read -/
theorem nargs_rows {W : World} {α : Type} {F : α → List TV} : ∀ (rows : List (List Value)), (∀ r ∈ rows, ∃ (x : α) (bs : Nat → List Blk) (is : List Info) (av : Nat → List Value), NArgs W r (F x) bs is av) →
    ∃ (xs : List α) (bs : Nat → List Blk) (is : List Info) (av : Nat → List Value),xs.length = rows.length ∧ NArgs W rows.flatten (xs.map F).flatten bs is av
  | [],_=>⟨[],_,_,_,rfl,NArgs.nil W⟩
  | r :: t,h=>by
    obtain ⟨xs,_,_,_,hl,a⟩:=nargs_rows t (fun c hc=>h c (by simp [hc]))
    obtain ⟨x,_,_,_,b⟩:=h r (by simp)
    exact ⟨x :: xs,_,_,_,by simp [hl],NArgs.append b a⟩
theorem flatN_at {α : Type} {es : Nat} : ∀ (rows : List (List α)) (_ : ∀ r ∈ rows,r.length = es) (i j : Nat),j < es → rows.flatten[i * es + j]? = (rows[i]?).bind (·[j]?)
  | [],_,i,j,_=>by simp
  | r :: t,h,0,j,hj=>by
    have:=h r (by simp)
    rw [Nat.zero_mul,Nat.zero_add,List.flatten_cons,List.getElem?_append_left (by omega)]
    rfl
  | r :: t,h,i + 1,j,hj=>by
    have hr:=h r (by simp)
    rw [List.flatten_cons,List.getElem?_append_right (by rw [Nat.add_mul];omega),show (i + 1) * es + j - r.length = i * es + j by rw [Nat.add_mul];omega]
    exact flatN_at t (fun r hr=>h r (by simp [hr])) i j hj
section
variable {H : Type} {enc : TypeId × Value → H} {W : World} {base : Nat} {spare : Nat → Bool} {held : Bool}
/-- a slice of structures that can be read az trees -/
theorem open_rowsN {α : Type} {F : α → List TV} {es : Nat} (he : 0 < es) (hF : ∀ x, (F x).length = es) {P : Program} {t te : TypeId} (ht : P.underlying t = some (.slice te)) (hC : P.cellsOf te = es)
    (elem : ∀ n cs y,cs.length = es → DataW.trod enc P W base spare held n te cs = some y → ∃ (x : α) (bs : Nat → List Blk) (is : List Info) (av : Nat → List Value),NArgs W cs (F x) bs is av)
    {v' : Value} {fuel : Nat} {x : DataW H × List MemPlace} (h : DataW.trod enc P W base spare held fuel t [v'] = some x) : ∃ (xs : List α) (bs : Nat → List Blk) (is : List Info) (av : Nat → Value),NArg W v' (.list es (xs.map F)) bs is av:=by
  rcases open_any ht he hC h with rfl|⟨a,c,rfl⟩|⟨gb,o,len,cap,n,rfl,h0,hlc,hgb,key⟩
  · exact ⟨[],fun _=>[],[],fun _=>.slice none 0 0,fun _ _ _ _ _=>.nilSlice 0 0,fun _ _ _ _ _=>.nillist _ _,fun _ _ _ _ _ j b h=>by simp at h,fun _ j b i h=>by simp at h,fun _=>rfl⟩
  · exact ⟨[],fun _=>[],[],fun _=>vag,fun _ _ _ _ _=>.vague a c,fun _ _ _ _ _=>.vague _ _,fun _ _ _ _ _ j b h=>by simp at h,fun _ j b i h=>by simp at h,fun _=>rfl⟩
  · obtain ⟨rows,hrl,hq⟩:=choose_list len key
    have hw : ∀ r ∈ rows,r.length = es:=fun r hr=>by
      obtain ⟨i,hi,rfl⟩:=List.mem_iff_getElem.1 hr
      obtain ⟨y,h1,_⟩:=hq i _ (List.getElem?_eq_getElem hi)
      exact h1
    obtain ⟨xs,bs,is,avs,hxl,az⟩:=nargs_rows (W:=W) (F:=F) rows (fun c hc=>by
      obtain ⟨i,hi,rfl⟩:=List.mem_iff_getElem.1 hc
      obtain ⟨y,h1,h2,_⟩:=hq i _ (List.getElem?_eq_getElem hi)
      exact elem n _ y h1 h2)
    have hcell : ∀ i v,rows.flatten[i]? = some v → W.cell? ⟨gb,o + i,none⟩ = some v:=fun i v hv=>by
      have e : i = i / es * es + i % es:=by rw [Nat.mul_comm];exact (Nat.div_add_mod i es).symm
      rw [e,flatN_at rows hw _ _ (Nat.mod_lt _ he)] at hv
      obtain ⟨r,hr,hv⟩:=Option.bind_eq_some_iff.1 hv
      obtain ⟨y,h1,h2,h3⟩:=hq _ _ hr
      have:=h3 (i % es) (Nat.mod_lt _ he)
      rw [hv] at this
      rw [← this]
      congr 2
      omega
    subst hrl
    have sD : ∀ (D : Nat → Prop) n,(∀ j,j < is.length + 1 → D (n + j)) → D n ∧ ∀ j,j < is.length → D (n + 1 + j):=by
      intro D n hD
      refine ⟨by simpa using hD 0 (by omega),fun j hj=>?_⟩
      have:=hD (j + 1) (by omega)
      rwa [show n + 1 + j = n + (j + 1) by omega]
    have sI : ∀ (m : NMap) n,(∀ (j : Nat) i,((⟨gb,o,cap * es,es⟩ : Info) :: is)[j]? = some i → m (n + j) = i) → m n = ⟨gb,o,cap * es,es⟩ ∧ ∀ (j : Nat) i,is[j]? = some i → m (n + 1 + j) = i:=by
      intro m n hm
      refine ⟨by simpa using hm 0 _ rfl,fun j i hi=>?_⟩
      have:=hm (j + 1) i (by simpa using hi)
      rwa [show n + 1 + j = n + (j + 1) by omega]
    refine ⟨xs,fun n=>.cells es (avs (n + 1)) :: bs (n + 1),⟨gb,o,cap * es,es⟩ :: is,fun n=>.slice (some ⟨n,0,none⟩) xs.length xs.length,fun D m n hD hm=>?_,fun Fz h n hF' hh=>?_,fun D m n hD hm j b hb=>?_,fun n j b i hb hi hd=>?_,fun n=>by simp [az.len]⟩
    · have e:=(sI m n hm).1
      have:=VR.slice (D:=D) (m:=m) n 0 xs.length xs.length cap (sD D n (by simpa using hD)).1 (Nat.le_refl _) (by omega) (.inr (by rw [e];simp))
      rw [e] at this
      rw [hxl] at this ⊢
      exact this
    · have hs := az.vl Fz h (n + 1) (sD Fz n (by simpa using hF')).2 (fun j b hb => by
        have:=hh (j + 1) b (by simpa using hb)
        rwa [show n + 1 + j = n + (j + 1) by omega])
      have hlen:=hs.len
      have hfl : ((xs.map F).flatten).length = xs.length * es:=by
        clear hlen hs az hxl
        induction xs with
        | nil=>simp
        | cons a t ih=>simp only [List.map_cons,List.flatten_cons,List.length_append,hF,ih,List.length_cons,Nat.add_mul];omega
      have h0':=hh 0 (.cells es (avs (n + 1))) rfl
      have:=VL.list (Fz:=Fz) (h:=h) noL es (xs.map F) n 0 xs.length (avs (n + 1)) es (sD Fz n (by simpa using hF')).1 h0' (.inl rfl) (fun r hr=>by obtain ⟨x,_,rfl⟩:=List.mem_map.1 hr;exact hF x) (by simp) (by simp only [List.length_map] at hlen ⊢;omega) (fun j p x hp hx=>by
        rw [Nat.zero_add] at hx
        exact hs.at' j p x hp hx)
      rw [List.length_map] at this
      exact this
    · cases j with
      | zero =>
        obtain rfl:=Option.some.inj hb
        have e:=(sI m n hm).1
        have hv:=az.vr D m (n + 1) (sD D n (by simpa using hD)).2 (sI m n hm).2
        rw [Nat.add_zero]
        refine ⟨by rw [e],fun i v hi=>?_⟩
        obtain ⟨v',h1,h2⟩:=hv.at hi
        refine ⟨v',?_,h2⟩
        rw [e]
        exact hcell i v' h1
      | succ j =>
        have:=az.ok D m (n + 1) (sD D n (by simpa using hD)).2 (sI m n hm).2 j b (by simpa using hb)
        rwa [show n + 1 + j = n + (j + 1) by omega] at this
    · cases j with
      | zero =>
        obtain rfl:=Option.some.inj hi
        exact hgb
      | succ j=>exact az.lt _ j b i (by simpa using hb) (by simpa using hi) hd
end
end Go.Rex
