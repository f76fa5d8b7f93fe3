/- What these functions return: facts on lists and numbers. -/
import Derived.Test.YtojekkfmnnoabaaTexR
import Derived.Test.YtojekkfmnnoabaaS
import Derived.Test.YtojekkfmnnoabaaTexU
import Derived.ProofKit
import Derived.OpenShut
import Derived.ShutString
import Derived.ChangeOld
import Derived.Below
import Derived.Lib.SmallJoins
import Derived.ChangeShapes
import Derived.ChangeArms
import Derived.WideShapes
set_option linter.unusedSimpArgs false
set_option linter.unusedVariables false
set_option linter.defProp false
namespace Go.Rex
/-! ### plain facts for shallow functions -/
theorem w64 {x : Int} (h : -9223372036854775808 ≤ x ∧ x ≤ 9223372036854775807) : IntKind.i64.wrap x = x := IntWalk.i64_in x (by omega)
/-- a loop that counts -/
theorem run_count {σ ε : Type} {step : σ → Option (σ ⊕ ε)} (f : Nat → σ) {n : Nat} {e : ε} (h : ∀ k, k < n → step (f k) = some (.inl (f (k + 1)))) (hn : step (f n) = some (.inr e)) : run step (f 0) = some e := by
  suffices H : ∀ j k, n - k = j → k ≤ n → run step (f k) = some e from H n 0 (by omega) (Nat.zero_le _)
  intro j
  induction j with
  | zero => intro k hj hk; obtain rfl : k = n := by omega
            exact run_stop hn
  | succ j ih => intro k hj hk; rw [run_next (h k (by omega))]; exact ih (k + 1) (by omega) (by omega)
/-- a loop that ends early -/
theorem run_until {σ ε : Type} {step : σ → Option (σ ⊕ ε)} (f : Nat → σ) {m : Nat} {e : ε} (h : ∀ k, k < m → step (f k) = some (.inl (f (k + 1)))) (hm : step (f m) = some (.inr e)) : run step (f 0) = some e := run_count f h hm
theorem getI_nat {α : Type} {xs : List α} {k : Nat} : getI xs (k : Int) = xs[k]? := by
  unfold getI
  rw [if_pos (by omega), Int.toNat_natCast]
theorem getI_of {α : Type} {xs : List α} {i : Int} {k : Nat} (h : i = (k : Int)) : getI xs i = xs[k]? := by subst h; exact getI_nat
theorem appI_one {α : Type} {b : Nat} {xs : List α} {y : α} (h : xs.length < 2 ^ 40) (hb : b ≤ 128) : appI b xs [y] = some (xs ++ [y]) := by
  unfold appI
  rw [if_pos]
  refine ⟨by simp; omega, ?_⟩
  have h1 : (xs.length + [y].length) * b ≤ 2 ^ 40 * 128 := Nat.mul_le_mul (by simp; omega) hb
  omega
end Go.Rex

namespace Go.Rex
/-! ### loops that look for the first one of a list -/
def firstOr {α ε : Type} (P : α → Bool) (ex : Nat → α → ε) (en : ε) : Nat → List α → ε
  | _, [] => en
  | k, x :: t => if P x = true then ex k x else firstOr P ex en (k + 1) t
theorem run_first_from {α σ ε : Type} {step : σ → Option (σ ⊕ ε)} (st : Nat → σ) (P : α → Bool) (ex : Nat → α → ε) (en : ε) :
    ∀ (xs ys : List α), (∀ (k : Nat) x, (ys ++ xs)[k]? = some x → step (st k) = some (if P x = true then .inr (ex k x) else .inl (st (k + 1)))) → step (st (ys ++ xs).length) = some (.inr en) → run step (st ys.length) = some (firstOr P ex en ys.length xs)
  | [], ys, _, he => by rw [List.append_nil] at he; exact run_stop he
  | x :: t, ys, hs, he => by
    have h1 := hs ys.length x (by simp)
    by_cases hp : P x = true
    · rw [if_pos hp] at h1
      rw [run_stop h1, firstOr, if_pos hp]
    · rw [if_neg hp] at h1
      rw [run_next h1, firstOr, if_neg hp]
      have := run_first_from st P ex en t (ys ++ [x]) (fun k y hk => hs k y (by simpa using hk)) (by simpa using he)
      simpa using this
theorem run_first {α σ ε : Type} {step : σ → Option (σ ⊕ ε)} (st : Nat → σ) (P : α → Bool) (ex : Nat → α → ε) (en : ε) (xs : List α) (hs : ∀ (k : Nat) x, xs[k]? = some x → step (st k) = some (if P x = true then .inr (ex k x) else .inl (st (k + 1)))) (he : step (st xs.length) = some (.inr en)) {s : σ} (h0 : s = st 0) : run step s = some (firstOr P ex en 0 xs) := by
  subst h0
  exact run_first_from st P ex en xs [] hs he
theorem firstOr_map {α β γ : Type} (f : β → γ) (P : α → Bool) (ex : Nat → α → β) (en : β) : ∀ (xs : List α) k, f (firstOr P ex en k xs) = firstOr P (fun k x => f (ex k x)) (f en) k xs
  | [], _ => rfl
  | x :: t, k => by
    unfold firstOr
    split
    · rfl
    · exact firstOr_map f P ex en t (k + 1)
theorem firstOr_all {α β : Type} (P : α → Bool) (c en : β) : ∀ (xs : List α) k, firstOr P (fun _ _ => c) en k xs = if (xs.all fun x => !P x) = true then en else c
  | [], _ => rfl
  | x :: t, k => by
    unfold firstOr
    rw [firstOr_all P c en t (k + 1)]
    cases h : P x <;> simp [h]
theorem firstOr_congr {α β : Type} {P Q : α → Bool} {ex ex' : Nat → α → β} {en : β} : ∀ (xs : List α) k, (∀ x, x ∈ xs → P x = Q x) → (∀ j x, x ∈ xs → P x = true → ex j x = ex' j x) → firstOr P ex en k xs = firstOr Q ex' en k xs
  | [], _, _, _ => rfl
  | x :: t, k, h1, h2 => by
    unfold firstOr
    rw [← h1 x (by simp), firstOr_congr t (k + 1) (fun y hy => h1 y (by simp [hy])) (fun j y hy => h2 j y (by simp [hy]))]
    split
    · rename_i hp
      exact h2 k x (by simp) hp
    · rfl
theorem bind_first {α σ ε β : Type} {step : σ → Option (σ ⊕ ε)} {s : σ} {F : ε → Option β} (st : Nat → σ) (P : α → Bool) (ex : Nat → α → ε) (en : ε) (xs : List α) (K : ε → β) (h0 : s = st 0) (hF : ∀ e, F e = some (K e)) (hs : ∀ (k : Nat) x, xs[k]? = some x → step (st k) = some (if P x = true then .inr (ex k x) else .inl (st (k + 1)))) (he : step (st xs.length) = some (.inr en)) :
    (run step s).bind F = some (firstOr P (fun k x => K (ex k x)) (K en) 0 xs) := by
  rw [run_first st P ex en xs hs he h0, Option.bind_some, hF, firstOr_map K]
/-! ### numbers -/
theorem wneg {x : Int} (h : -9223372036854775807 ≤ x ∧ x ≤ 9223372036854775807) : IntKind.i64.wrap (0 - x) = -x := by rw [w64 (by omega)]; omega
theorem wsucc {k : Nat} {n : Nat} (h : k ≤ n) (hn : n ≤ 2 ^ 62) : IntKind.i64.wrap ((k : Int) + 1) = ((k + 1 : Nat) : Int) := by rw [w64 (by omega)]; omega
theorem fsize_eq {x : Int} (h : -9223372036854775807 ≤ x ∧ x ≤ 9223372036854775807) : filter_size x = some (x.natAbs : Int) := by
  unfold filter_size
  rw [wneg h]
  split <;> (congr 1; omega)
theorem bsize_eq {x : Int} (h : -9223372036854775807 ≤ x ∧ x ≤ 9223372036854775807) : base_Size x = some (x.natAbs : Int) := by
  unfold base_Size
  rw [wneg h]
  split <;> (congr 1; omega)
theorem tmod_emod {x y : Int} (hy : 0 < y) : x.tmod y = if x.tmod y < 0 then x % y - y else x % y := by
  have h1 := Int.tmod_lt_of_pos x hy
  have h2 : -y < x.tmod y := by
    have h3 := Int.natAbs_tmod x y
    have h4 : (x.tmod y).natAbs < y.natAbs := by rw [h3]; exact Nat.mod_lt _ (by omega)
    omega
  have hdm := Int.tmod_add_mul_tdiv x y
  split
  · have : x % y = x.tmod y + y := by
      have e : x = (x.tmod y + y) + y * (x.tdiv y - 1) := by rw [Int.mul_sub, Int.mul_one]; omega
      rw [e, Int.add_mul_emod_self_left, Int.emod_eq_of_lt (by omega) (by omega)]
      rw [← e]
    omega
  · have : x % y = x.tmod y := by
      conv => lhs; rw [← hdm]
      rw [Int.add_mul_emod_self_left, Int.emod_eq_of_lt (by omega) (by omega)]
    omega
theorem ediv_le {x y b : Int} (hy : 0 < y) (hb : 0 ≤ b) (h : -b ≤ x ∧ x ≤ b) : -b ≤ x / y ∧ x / y ≤ b := by
  have h1 := Int.emod_add_mul_ediv x y
  have h2 := Int.emod_nonneg x (show y ≠ 0 by omega)
  have h3 := Int.emod_lt_of_pos x hy
  constructor
  · refine Int.le_ediv_of_mul_le hy ?_
    have : -b * y ≤ -b * 1 := Int.mul_le_mul_of_nonpos_left (by omega) (by omega)
    omega
  · refine Int.ediv_le_of_le_mul hy ?_
    have : b * 1 ≤ b * y := Int.mul_le_mul_of_nonneg_left (by omega) hb
    omega
theorem tdiv_ediv {x y : Int} (hy : 0 < y) : x.tdiv y = if x.tmod y < 0 then x / y + 1 else x / y := by
  have hdm := Int.tmod_add_mul_tdiv x y
  have h1 := Int.emod_add_mul_ediv x y
  have h2 := tmod_emod (x := x) hy
  refine Int.eq_of_mul_eq_mul_left (show y ≠ 0 by omega) ?_
  split
  · rename_i h
    rw [if_pos h] at h2
    rw [Int.mul_add, Int.mul_one]
    omega
  · rename_i h
    rw [if_neg h] at h2
    omega
/-! ### sections -/
def smallB (m x : Int) : Bool := decide (-m ≤ x ∧ x ≤ m)
theorem isSmall_eq {x m : Int} (hm : 0 ≤ m ∧ m ≤ 9223372036854775807) : filter_isSmall x m = some (smallB m x) := by
  unfold filter_isSmall smallB
  rw [wneg (by omega)]
  by_cases h : -m ≤ x <;> simp [h]
theorem within_eq (x a b : Int) : base_Within x a b = some (decide (a ≤ x ∧ x ≤ b)) := by
  unfold base_Within
  by_cases h : a ≤ x <;> simp [h]
theorem allSmall_eq (l : List Int) {m : Int} (hl : l.length ≤ 2 ^ 62) (hm : 0 ≤ m ∧ m ≤ 9223372036854775807) : filter_allSmall l m = some (if (l.all (smallB m)) = true then 0 else 2) := by
  unfold filter_allSmall
  refine (bind_first (fun k : Nat => (k : Int)) (fun x => !smallB m x) (fun _ _ => .inl ()) (.inr ()) l (Sum.elim (fun _ => 2) fun _ => 0) rfl (fun e => by rcases e with _ | _ <;> rfl) (fun k x hk => ?_) ?_).trans ?_
  · have hk2 := (List.getElem?_eq_some_iff.1 hk).1
    dsimp only [filter_allSmall_l1]
    rw [if_pos (by simpa using hk2), getI_nat, hk, Option.bind_some, isSmall_eq hm, Option.bind_some, wsucc (n := l.length) (by omega) hl]
    cases smallB m x <;> rfl
  · dsimp only [filter_allSmall_l1]
    rw [if_neg (by simp)]
  · simp only [Sum.elim_inl, Sum.elim_inr, firstOr_all, Bool.not_not]
theorem firstError_eq (l : List Int) (hl : l.length ≤ 2 ^ 62) : filter_firstError l = some (firstOr (fun x => decide (x ≠ 0)) (fun _ x => x) 0 0 l) := by
  unfold filter_firstError
  refine (bind_first (fun k : Nat => (k : Int)) (fun x => decide (x ≠ 0)) (fun _ x => .inl x) (.inr ()) l (Sum.elim id fun _ => 0) rfl (fun e => by rcases e with x | _ <;> rfl) (fun k x hk => ?_) ?_).trans rfl
  · have hk2 := (List.getElem?_eq_some_iff.1 hk).1
    dsimp only [filter_firstError_l1]
    rw [if_pos (by simpa using hk2), getI_nat, hk, Option.bind_some, wsucc (n := l.length) (by omega) hl]
    by_cases h : x = 0 <;> simp [h]
  · dsimp only [filter_firstError_l1]
    rw [if_neg (by simp)]
theorem refuse_eq (b : Bool) (e : Int) : filter_refuse b e = some (if b = true then e else 0) := by
  unfold filter_refuse
  cases b <;> rfl
theorem first2 (a b : Int) : filter_firstError [a, b] = some (if a ≠ 0 then a else b) := by
  rw [firstError_eq _ (by simp)]
  unfold firstOr firstOr firstOr
  by_cases h : a = 0 <;> by_cases h2 : b = 0 <;> simp [h, h2]
end Go.Rex

namespace Go.Rex
theorem getI_some {α : Type} {xs : List α} {i : Int} (h : 0 ≤ i ∧ i < xs.length) : ∃ x, getI xs i = some x := by
  unfold getI
  rw [if_pos h.1]
  exact ⟨_, List.getElem?_eq_getElem (by omega)⟩
theorem copyInts_eq {l : List Int} (h : l.length ≤ 1024) : base_CopyInts l = some l := by
  unfold base_CopyInts appI
  rw [if_pos (by simp; omega)]
  rfl
theorem ints_refl (l : List Int) (h : l.length ≤ 2 ^ 62) : base_Ints l l = some true := by
  unfold base_Ints
  rw [if_neg (by simp)]
  refine (bind_first (fun k : Nat => (k : Int)) (fun _ => false) (fun _ _ => .inl ()) (.inr ()) l (Sum.elim (fun _ => false) fun _ => true) rfl (fun e => by rcases e with _ | _ <;> rfl) (fun k x hk => ?_) ?_).trans ?_
  · have hk2 := (List.getElem?_eq_some_iff.1 hk).1
    dsimp only [base_Ints_l1]
    rw [if_pos (by simpa using hk2), getI_nat, hk, Option.bind_some, Option.bind_some, wsucc (n := l.length) (by omega) h]
    simp
  · dsimp only [base_Ints_l1]
    rw [if_neg (by simp)]
  · simp [firstOr_all]
theorem step_eq (l : List Int) : filter_stepDown l = ref06_StepDown l := rfl
theorem schur_l (x : List Int × Int) : filter_Schur_l1 x = ref06_Schur_l1 x := rfl
theorem step_run {l : List Int} {n : Nat} (hl : l.length = n + 1) (hn : n ≤ 1024) : ∀ (j k : Nat) (q : List Int), n - k = j → k ≤ n → q.length = k → ∃ r, run (ref06_StepDown_l1 l) (q, (k : Int)) = some r ∧ r.length = n
  | 0, k, q, hj, hk, hq => by
    refine ⟨q, run_stop ?_, by omega⟩
    dsimp only [ref06_StepDown_l1]
    rw [w64 (x := (l.length : Int) - 1) (by omega), if_neg (by simp; omega)]
  | j + 1, k, q, hj, hk, hq => by
    obtain ⟨a, ha⟩ := getI_some (xs := l) (i := 0) (by omega)
    obtain ⟨b, hb⟩ := getI_some (xs := l) (i := (k : Int)) (by omega)
    obtain ⟨c, hc⟩ := getI_some (xs := l) (i := (l.length : Int) - 1) (by omega)
    obtain ⟨d, hd⟩ := getI_some (xs := l) (i := (l.length : Int) - 1 - k) (by omega)
    have h1 : ref06_StepDown_l1 l (q, (k : Int)) = some (.inl (q ++ [IntKind.i64.wrap (IntKind.i64.wrap (a * b) - IntKind.i64.wrap (c * d))], ((k + 1 : Nat) : Int))) := by
      dsimp only [ref06_StepDown_l1]
      rw [w64 (x := (l.length : Int) - 1) (by omega), w64 (x := (l.length : Int) - 1 - k) (by omega), if_pos (by simp; omega), ha, hb, hc, hd]
      simp only [Option.bind_some]
      rw [appI_one (by omega) (by omega), Option.bind_some, wsucc (n := n) (by omega) (by omega)]
    rw [run_next h1]
    exact step_run hl hn j (k + 1) _ (by omega) (by omega) (by simp [hq])
theorem step_some {l : List Int} {n : Nat} (hl : l.length = n + 1) (hn : n ≤ 1024) : ∃ r, ref06_StepDown l = some r ∧ r.length = n := by
  obtain ⟨r, r1, r2⟩ := step_run hl hn n 0 [] (by omega) (by omega) rfl
  refine ⟨r, ?_, r2⟩
  unfold ref06_StepDown
  rw [show (0 : Int) = ((0 : Nat) : Int) from rfl, r1]
  rfl
theorem bsize_some (x : Int) : ∃ y, base_Size x = some y := ⟨_, rfl⟩
theorem schur_run : ∀ (n : Nat) (l : List Int) (k : Int), l.length = n + 2 → n ≤ 1000 → ∃ r, run ref06_Schur_l1 (l, k) = some r
  | n, l, k, hl, hn => by
    obtain ⟨a, ha⟩ := getI_some (xs := l) (i := 0) (by omega)
    obtain ⟨b, hb⟩ := getI_some (xs := l) (i := (l.length : Int) - 1) (by omega)
    obtain ⟨c, hc⟩ := bsize_some b
    obtain ⟨q, q1, q2⟩ := step_some (l := l) (n := n + 1) hl (by omega)
    have h1 : ref06_Schur_l1 (l, k) = if decide (a > c) = true then (if decide ((l.length : Int) = 2) = true then some (.inr (.inl k)) else some (.inl (q, IntKind.i64.wrap (k + 1)))) else some (.inr (.inr k)) := by
      dsimp only [ref06_Schur_l1]
      rw [w64 (x := (l.length : Int) - 1) (by omega), ha, hb, Option.bind_some, Option.bind_some, hc, Option.bind_some, q1, Option.bind_some]
    by_cases h2 : a > c
    · rw [if_pos (by simpa using h2)] at h1
      by_cases h3 : (l.length : Int) = 2
      · rw [if_pos (by simpa using h3)] at h1
        exact ⟨_, run_stop h1⟩
      · rw [if_neg (by simpa using h3)] at h1
        rw [run_next h1]
        match n, hl, q2 with
        | 0, hl, _ => omega
        | n + 1, hl, q2 => exact schur_run n q _ q2 (by omega)
    · rw [if_neg (by simpa using h2)] at h1
      exact ⟨_, run_stop h1⟩
/-- the error of a polynomial -/
def polE (l : List Int) : Int := if 2 ≤ l.length ∧ l.length ≤ 5 then (if (l.all (smallB 100)) = true then (if l[0]?.getD 0 ≤ 0 then 11 else 0) else 2) else 10
theorem fpol_eq (l : List Int) (hl : l.length ≤ 1024) : filter_polynomialError l = some (polE l) := by
  unfold filter_polynomialError polE
  simp only [refuse_eq, Option.bind_some]
  by_cases h1 : (l.length : Int) < 2
  · have h3 : ¬ (2 ≤ l.length ∧ l.length ≤ 5) := by omega
    rw [if_pos (by simpa using h1), if_neg h3]
    simp
  · rw [if_neg (by simpa using h1)]
    by_cases h2 : (l.length : Int) > 5
    · rw [if_neg (by omega : ¬ (2 ≤ l.length ∧ l.length ≤ 5))]
      simp [h2]
    · rw [if_pos (by omega : 2 ≤ l.length ∧ l.length ≤ 5)]
      obtain ⟨a, ha⟩ := getI_some (xs := l) (i := 0) (by omega)
      have ha2 : l[0]? = some a := by simpa [getI] using ha
      simp only [h2, decide_false, Bool.false_eq_true, if_false, ne_eq, not_true]
      rw [allSmall_eq _ (by omega) (by omega), Option.bind_some, ha, Option.bind_some, first2, Option.bind_some, ha2]
      cases l.all (smallB 100) <;> simp
theorem rpol_eq (l : List Int) (hl : l.length ≤ 1024) : ref06_PolynomialErr l = some (polE l) := by
  unfold ref06_PolynomialErr polE
  rw [within_eq, Option.bind_some]
  by_cases h1 : 2 ≤ l.length ∧ l.length ≤ 5
  · rw [if_pos (by simp; omega), if_pos h1]
    obtain ⟨a, ha⟩ := getI_some (xs := l) (i := 0) (by omega)
    have ha2 : l[0]? = some a := by simpa [getI] using ha
    refine (bind_first (fun k : Nat => (k : Int)) (fun x => !smallB 100 x) (fun _ _ => .inl ()) (.inr ()) l (Sum.elim (fun _ => 2) fun _ => if a ≤ 0 then 11 else 0) rfl (fun e => ?_) (fun k x hk => ?_) ?_).trans ?_
    · rcases e with _ | _
      · rfl
      · simp only [ha, Option.bind_some, Sum.elim_inr]
        by_cases h : a ≤ 0 <;> simp [h]
    · have hk2 := (List.getElem?_eq_some_iff.1 hk).1
      dsimp only [ref06_PolynomialErr_l1]
      rw [if_pos (by simpa using hk2), getI_nat, hk, Option.bind_some, within_eq, Option.bind_some, wsucc (n := l.length) (by omega) (by omega)]
      unfold smallB
      cases (decide (-100 ≤ x ∧ x ≤ 100)) <;> rfl
    · dsimp only [ref06_PolynomialErr_l1]
      rw [if_neg (by simp)]
    · simp only [Sum.elim_inl, Sum.elim_inr, firstOr_all, Bool.not_not, ha2, Option.getD_some]
  · rw [if_neg (by simp; omega), if_neg h1]
theorem fSchur_eq (l : List Int) (hl : l.length ≤ 1024) : filter_Schur l = if polE l ≠ 0 then some (false, 0, polE l) else (ref06_Schur l).map fun x => (x.1, x.2, 0) := by
  unfold filter_Schur ref06_Schur
  rw [fpol_eq l hl, Option.bind_some]
  by_cases h : polE l = 0
  · simp only [h, ne_eq, not_true, decide_false, Bool.false_eq_true, if_false]
    rw [show filter_Schur_l1 = ref06_Schur_l1 from funext schur_l]
    cases run ref06_Schur_l1 (l, 0) with
    | none => rfl
    | some r => rcases r with r | r <;> rfl
  · simp [h]
theorem fStep_eq (l : List Int) (hl : l.length ≤ 1024) : filter_StepDown l = if polE l ≠ 0 then some ([], polE l) else if l.length = 2 then some ([], 10) else (ref06_StepDown l).map fun x => (x, 0) := by
  unfold filter_StepDown
  rw [fpol_eq l hl, refuse_eq]
  simp only [Option.bind_some, first2, step_eq]
  by_cases h : polE l = 0
  · by_cases h2 : l.length = 2
    · simp [h, h2]
    · have : ¬ ((l.length : Int) = 2) := by omega
      simp only [h, h2, this, ne_eq, not_true, decide_false, Bool.false_eq_true, if_false]
      cases ref06_StepDown l <;> rfl
  · simp [h]
theorem schur_true (l : List Int) : law06_FilterSchur l = some true := by
  unfold law06_FilterSchur
  by_cases h8 : (l.length : Int) > 8
  · rw [if_pos (by simpa using h8)]
  · rw [if_neg (by simpa using h8), copyInts_eq (by omega)]
    simp only [Option.bind_some]
    rw [fStep_eq l (by omega), fSchur_eq l (by omega), rpol_eq l (by omega)]
    by_cases h : polE l = 0
    · have hlen : 2 ≤ l.length := by
        unfold polE at h
        split at h
        · omega
        · cases h
      obtain ⟨r, hr⟩ := schur_run (l.length - 2) l 0 (by omega) (by omega)
      obtain ⟨q, q1, q2⟩ := step_some (l := l) (n := l.length - 1) (by omega) (by omega)
      obtain ⟨b, k, hs⟩ : ∃ b k, ref06_Schur l = some (b, k) := by
        unfold ref06_Schur
        rw [hr]
        rcases r with r | r <;> exact ⟨_, _, rfl⟩
      by_cases h2 : l.length = 2
      · have h2' : (l.length : Int) = 2 := by omega
        simp [h, h2, h2', hs]
      · have h2' : ¬ (l.length : Int) = 2 := by omega
        simp only [h, hs, q1, h2, h2', ne_eq, not_true, if_false, Option.map_some, Option.bind_some, decide_false, Bool.false_eq_true, beq_self_eq_true, if_true, decide_true]
        rw [ints_refl q (by omega)]
        rfl
    · simp [h]
end Go.Rex

namespace Go.Rex
open Go Go.ChangeShapes Go.WideShapes Go.ChangeAt Go.RowKit Go.Joins Go.Proofs
/-! ### arguments: what they are as trees, and the names of their blocks -/
structure Arg (W : World) (v' : Value) (p : TV) (bs : List Blk) (is : List Info) (av : Nat → Value) : Prop where
  vr : ∀ (D : Nat → Prop) (m : NMap) n, (∀ j, j < bs.length → D (n + j)) → (∀ (j : Nat) i, is[j]? = some i → m (n + j) = i) → VR D m (av n) v'
  vl : ∀ (Fz : Nat → Prop) (h : List Blk) n, (∀ j, j < bs.length → Fz (n + j)) → (∀ (j : Nat) b, bs[j]? = some b → h[n + j]? = some b) → VL Fz h noL p (av n)
  ok : ∀ (D : Nat → Prop) (m : NMap) n, (∀ j, j < bs.length → D (n + j)) → (∀ (j : Nat) i, is[j]? = some i → m (n + j) = i) → ∀ (j : Nat) b, bs[j]? = some b → BlkOk D m W (n + j) b
  lt : ∀ (j : Nat) b i, bs[j]? = some b → is[j]? = some i → b ≠ .dead → i.block < W.heap.size
  len : is.length = bs.length
structure Args (W : World) (vs' : List Value) (ps : List TV) (bs : List Blk) (is : List Info) (av : Nat → List Value) : Prop where
  vr : ∀ (D : Nat → Prop) (m : NMap) n, (∀ j, j < bs.length → D (n + j)) → (∀ (j : Nat) i, is[j]? = some i → m (n + j) = i) → VRs D m (av n) vs'
  vl : ∀ (Fz : Nat → Prop) (h : List Blk) n, (∀ j, j < bs.length → Fz (n + j)) → (∀ (j : Nat) b, bs[j]? = some b → h[n + j]? = some b) → VLs Fz h noL ps (av n)
  ok : ∀ (D : Nat → Prop) (m : NMap) n, (∀ j, j < bs.length → D (n + j)) → (∀ (j : Nat) i, is[j]? = some i → m (n + j) = i) → ∀ (j : Nat) b, bs[j]? = some b → BlkOk D m W (n + j) b
  lt : ∀ (j : Nat) b i, bs[j]? = some b → is[j]? = some i → b ≠ .dead → i.block < W.heap.size
  len : is.length = bs.length
theorem Args.nil (W : World) : Args W [] [] [] [] (fun _ => []) :=
  ⟨fun _ _ _ _ _ => ⟨rfl, fun i a a' h => by simp at h⟩, fun _ _ _ _ _ => .nil, fun _ _ _ _ _ j b h => by simp at h, fun j b i h => by simp at h, rfl⟩
theorem Args.cons {W : World} {v' : Value} {p : TV} {bs bs2 : List Blk} {is is2 : List Info} {av : Nat → Value} {vs' : List Value} {ps : List TV} {avs : Nat → List Value}
    (a : Arg W v' p bs is av) (as : Args W vs' ps bs2 is2 avs) : Args W (v' :: vs') (p :: ps) (bs ++ bs2) (is ++ is2) (fun n => av n :: avs (n + bs.length)) := by
  have cD : ∀ (D : Nat → Prop) n, (∀ j, j < (bs ++ bs2).length → D (n + j)) → (∀ j, j < bs.length → D (n + j)) ∧ (∀ j, j < bs2.length → D (n + bs.length + j)) := by
    intro D n h
    refine ⟨fun j hj => h j (by simp; omega), fun j hj => ?_⟩
    have := h (bs.length + j) (by simp; omega)
    rwa [← Nat.add_assoc] at this
  have cI : ∀ (m : NMap) n, (∀ (j : Nat) i, (is ++ is2)[j]? = some i → m (n + j) = i) → (∀ (j : Nat) i, is[j]? = some i → m (n + j) = i) ∧ (∀ (j : Nat) i, is2[j]? = some i → m (n + bs.length + j) = i) := by
    intro m n h
    refine ⟨fun j i hj => h j i (by rw [List.getElem?_append_left (List.getElem?_eq_some_iff.1 hj).1]; exact hj), fun j i hj => ?_⟩
    have := h (bs.length + j) i (by rw [List.getElem?_append_right (by rw [a.len]; omega), a.len, Nat.add_sub_cancel_left]; exact hj)
    rwa [← Nat.add_assoc] at this
  refine ⟨fun D m n hD hm => ?_, fun Fz h n hF hh => ?_, fun D m n hD hm j b hb => ?_, fun j b i hb hi hd => ?_, by simp [a.len, as.len]⟩
  · have h1 := a.vr D m n (cD D n hD).1 (cI m n hm).1
    have h2 := as.vr D m (n + bs.length) (cD D n hD).2 (cI m n hm).2
    refine ⟨by simp [h2.len], fun i x x' hx hx' => ?_⟩
    cases i with
    | zero => simp at hx hx'; subst hx hx'; exact h1
    | succ i => simp at hx hx'; exact h2.at' i x x' hx hx'
  · refine .cons (a.vl Fz h n (cD Fz n hF).1 fun j b hb => hh j b (by rw [List.getElem?_append_left (List.getElem?_eq_some_iff.1 hb).1]; exact hb)) (as.vl Fz h (n + bs.length) (cD Fz n hF).2 fun j b hb => ?_)
    have := hh (bs.length + j) b (by rw [List.getElem?_append_right (by omega), Nat.add_sub_cancel_left]; exact hb)
    rwa [← Nat.add_assoc] at this
  · rcases Nat.lt_or_ge j bs.length with hj | hj
    · rw [List.getElem?_append_left hj] at hb
      exact a.ok D m n (cD D n hD).1 (cI m n hm).1 j b hb
    · rw [List.getElem?_append_right hj] at hb
      have := as.ok D m (n + bs.length) (cD D n hD).2 (cI m n hm).2 _ b hb
      rwa [show n + bs.length + (j - bs.length) = n + j by omega] at this
  · rcases Nat.lt_or_ge j bs.length with hj | hj
    · rw [List.getElem?_append_left hj] at hb
      rw [List.getElem?_append_left (by rw [a.len]; exact hj)] at hi
      exact a.lt j b i hb hi hd
    · rw [List.getElem?_append_right hj] at hb
      rw [List.getElem?_append_right (by rw [a.len]; exact hj), a.len] at hi
      exact as.lt _ b i hb hi hd
/-- the names of the arguments -/
def nm (is : List Info) : NMap := fun n => is.getD n ⟨0, 0, 0, 0⟩
theorem nm_at {is : List Info} {j : Nat} {i : Info} (h : is[j]? = some i) : nm is (0 + j) = i := by
  unfold nm
  rw [Nat.zero_add, List.getD_eq_getElem?_getD, h]
  rfl
section
variable {W : World} {vs' : List Value} {ps : List TV} {bs : List Blk} {is : List Info} {av : Nat → List Value}
theorem Args.rel (a : Args W vs' ps bs is av) : Rel W.heap.size bs.length (fun k => k < bs.length) (nm is) bs W := by
  refine ⟨Nat.le_refl _, fun _ h => h, fun n b hn hb => ?_, fun n b hn hb hd => ?_, fun n b hD hl => absurd hD (by omega), fun n b hn _ hb hd => ?_, fun n b hD hl => absurd hD (by omega), fun n n' b b' hD _ hl => absurd hD (by omega)⟩
  · have := a.ok (fun k => k < bs.length) (nm is) 0 (fun j hj => by omega) (fun j i hi => nm_at hi) n b hb
    rwa [Nat.zero_add] at this
  all_goals
    have hi : n < is.length := by rw [a.len]; exact hn
    have e := nm_at (List.getElem?_eq_getElem hi)
    rw [Nat.zero_add] at e
    rw [e]
    exact a.lt n b _ hb (List.getElem?_eq_getElem hi) hd
theorem Args.vls (a : Args W vs' ps bs is av) : VLs (fun k => k < bs.length) bs noL ps (av 0) := a.vl _ _ 0 (fun j hj => by omega) (fun j b hb => by rw [Nat.zero_add]; exact hb)
theorem Args.vrs (a : Args W vs' ps bs is av) : VRs (fun k => k < bs.length) (nm is) (av 0) vs' := a.vr _ _ 0 (fun j hj => by omega) (fun j i hi => nm_at hi)
end
theorem len1 {α : Type} {l : List α} (h : l.length = 1) : ∃ x0, l = [x0] := by
  match l, h with
  | [x0], _ => exact ⟨_, rfl⟩
theorem len2 {α : Type} {l : List α} (h : l.length = 2) : ∃ x0 x1, l = [x0, x1] := by
  match l, h with
  | [x0, x1], _ => exact ⟨_, _, rfl⟩
theorem len3 {α : Type} {l : List α} (h : l.length = 3) : ∃ x0 x1 x2, l = [x0, x1, x2] := by
  match l, h with
  | [x0, x1, x2], _ => exact ⟨_, _, _, rfl⟩
theorem len4 {α : Type} {l : List α} (h : l.length = 4) : ∃ x0 x1 x2 x3, l = [x0, x1, x2, x3] := by
  match l, h with
  | [x0, x1, x2, x3], _ => exact ⟨_, _, _, _, rfl⟩
theorem len5 {α : Type} {l : List α} (h : l.length = 5) : ∃ x0 x1 x2 x3 x4, l = [x0, x1, x2, x3, x4] := by
  match l, h with
  | [x0, x1, x2, x3, x4], _ => exact ⟨_, _, _, _, _, rfl⟩
theorem len6 {α : Type} {l : List α} (h : l.length = 6) : ∃ x0 x1 x2 x3 x4 x5, l = [x0, x1, x2, x3, x4, x5] := by
  match l, h with
  | [x0, x1, x2, x3, x4, x5], _ => exact ⟨_, _, _, _, _, _, rfl⟩
theorem len7 {α : Type} {l : List α} (h : l.length = 7) : ∃ x0 x1 x2 x3 x4 x5 x6, l = [x0, x1, x2, x3, x4, x5, x6] := by
  match l, h with
  | [x0, x1, x2, x3, x4, x5, x6], _ => exact ⟨_, _, _, _, _, _, _, rfl⟩
theorem len8 {α : Type} {l : List α} (h : l.length = 8) : ∃ x0 x1 x2 x3 x4 x5 x6 x7, l = [x0, x1, x2, x3, x4, x5, x6, x7] := by
  match l, h with
  | [x0, x1, x2, x3, x4, x5, x6, x7], _ => exact ⟨_, _, _, _, _, _, _, _, rfl⟩
theorem len9 {α : Type} {l : List α} (h : l.length = 9) : ∃ x0 x1 x2 x3 x4 x5 x6 x7 x8, l = [x0, x1, x2, x3, x4, x5, x6, x7, x8] := by
  match l, h with
  | [x0, x1, x2, x3, x4, x5, x6, x7, x8], _ => exact ⟨_, _, _, _, _, _, _, _, _, rfl⟩
theorem len10 {α : Type} {l : List α} (h : l.length = 10) : ∃ x0 x1 x2 x3 x4 x5 x6 x7 x8 x9, l = [x0, x1, x2, x3, x4, x5, x6, x7, x8, x9] := by
  match l, h with
  | [x0, x1, x2, x3, x4, x5, x6, x7, x8, x9], _ => exact ⟨_, _, _, _, _, _, _, _, _, _, rfl⟩
/-! ### arguments without names -/
def AtomV (c : Value) : Prop := isAtom c = true ∧ ∀ D m, VR D m c c
theorem atomV_int (k : IntKind) (n : Int) : AtomV (.int k n) := ⟨rfl, fun _ _ => .int _ _⟩
theorem Arg.atom {W : World} {v : Value} (h : AtomV v) : Arg W v (.v v) [] [] (fun _ => v) :=
  ⟨fun _ _ _ _ _ => h.2 _ _, fun _ _ _ _ _ => .v _ _ h.1, fun _ _ _ _ _ j b h => by simp at h, fun j b i h => by simp at h, rfl⟩
theorem Arg.agg {W : World} {l : List Value} (h : ∀ c ∈ l, AtomV c) : Arg W (.agg ⟨l⟩) (.agg (l.map .v)) [] [] (fun _ => .agg ⟨l⟩) := by
  refine ⟨fun _ _ _ _ _ => .agg _ _ rfl fun i v v' hv hv' => ?_, fun _ _ _ _ _ => .agg _ _ _ (by simp) fun i p x hp hx => ?_, fun _ _ _ _ _ j b h => by simp at h, fun j b i h => by simp at h, rfl⟩
  · obtain rfl : v = v' := Option.some.inj (hv.symm.trans hv')
    exact (h v (List.mem_of_getElem? hv)).2 _ _
  · rw [List.getElem?_map, hx] at hp
    obtain rfl := Option.some.inj hp
    exact .v _ _ (h x (List.mem_of_getElem? hx)).1
/-! ### a slice of rows -/
theorem flatMap_at {α β : Type} {g : α → List β} {es : Nat} (hg : ∀ x, (g x).length = es) (he : 0 < es) : ∀ (xs : List α) i, (xs.flatMap g)[i]? = (xs[i / es]?).bind fun x => (g x)[i % es]?
  | [], i => by simp
  | x :: t, i => by
    rw [List.flatMap_cons]
    rcases Nat.lt_or_ge i es with h | h
    · rw [List.getElem?_append_left (by rw [hg]; exact h), Nat.div_eq_of_lt h, Nat.mod_eq_of_lt h]
      rfl
    · rw [List.getElem?_append_right (by rw [hg]; exact h), hg, flatMap_at hg he t (i - es)]
      have e1 : i / es = (i - es) / es + 1 := by rw [Nat.div_eq_sub_div he h]
      have e2 : i % es = (i - es) % es := Nat.mod_eq_sub_mod h
      rw [e1, e2]
      rfl
theorem flatMap_len {α β : Type} {g : α → List β} {es : Nat} (hg : ∀ x, (g x).length = es) : ∀ (xs : List α), (xs.flatMap g).length = xs.length * es
  | [] => by simp
  | x :: t => by rw [List.flatMap_cons, List.length_append, hg, flatMap_len hg t, List.length_cons, Nat.add_mul]; omega
theorem flatMap_map {α : Type} {f : α → List TV} {g : α → List Value} (hf : ∀ x, f x = (g x).map .v) : ∀ (xs : List α), (xs.map f).flatten = (xs.flatMap g).map .v
  | [] => rfl
  | x :: t => by rw [List.map_cons, List.flatten_cons, flatMap_map hf t, List.flatMap_cons, List.map_append, hf]
theorem choose_list {α : Type} {Q : Nat → α → Prop} : ∀ n, (∀ i, i < n → ∃ x, Q i x) → ∃ xs : List α, xs.length = n ∧ ∀ (i : Nat) x, xs[i]? = some x → Q i x
  | 0, _ => ⟨[], rfl, fun i x h => by simp at h⟩
  | n + 1, h => by
    obtain ⟨xs, hl, hq⟩ := choose_list n (fun i hi => h i (by omega))
    obtain ⟨x, hx⟩ := h n (by omega)
    refine ⟨xs ++ [x], by simp [hl], fun i y hy => ?_⟩
    rcases Nat.lt_or_ge i n with hi | hi
    · rw [List.getElem?_append_left (by omega)] at hy
      exact hq i y hy
    · rw [List.getElem?_append_right (by omega), hl] at hy
      have : i = n := by
        rcases Nat.lt_or_ge 0 (i - n) with g | g
        · rw [List.getElem?_eq_none (by simp; omega)] at hy; cases hy
        · omega
      subst this
      simp at hy
      subst hy
      exact hx
section
variable {H : Type} {enc : TypeId × Value → H} {W : World} {base : Nat} {spare : Nat → Bool} {held : Bool}
theorem open_rows {α : Type} {f : α → List TV} {g : α → List Value} {es : Nat} (he : 0 < es) (hf : ∀ x, f x = (g x).map .v) (hg : ∀ x, (g x).length = es) (hat : ∀ x, ∀ c ∈ g x, AtomV c)
    {P : Program} {t te : TypeId} (ht : P.underlying t = some (.slice te)) (hC : P.cellsOf te = es) {r : Reach} {b0 : Nat} {v' : Value} (hval : Value.okWide P W r b0 t v')
    (elem : ∀ n cs y, DataW.trod enc P W base spare held n te cs = some y → cs.length = es → ∃ x : α, cs = g x)
    {fuel : Nat} {x : DataW H × List MemPlace} (h : DataW.trod enc P W base spare held fuel t [v'] = some x) : ∃ (xs : List α) (bs : List Blk) (is : List Info) (av : Nat → Value), Arg W v' (.list es (xs.map f)) bs is av := by
  rcases DataW.trod_slice ht h with ⟨hv, _⟩ | ⟨a, len, cap, elems, rest, n, _, hv, _, hb, hlc, hcm, hel, hel2, _, _⟩
  · obtain rfl : v' = .slice none 0 0 := by simpa using hv
    exact ⟨[], [], [], fun _ => .slice none 0 0, fun _ _ _ _ _ => .nilSlice 0 0, fun _ _ _ _ _ => .nillist _ _, fun _ _ _ _ _ j b h => by simp at h, fun j b i h => by simp at h, rfl⟩
  · obtain rfl : v' = .slice (some a) len cap := by simpa using hv
    have hok : len ≤ cap ∧ (cap : Int) ≤ IntKind.i64.max ∧ W.has P r b0 a te cap := by
      unfold Value.okWide at hval
      simp only [ht] at hval
      unfold Cell.okWide at hval
      simp only [ht] at hval
      unfold Cell.ok at hval
      simpa only [ht] using hval
    obtain ⟨gb, o, s⟩ := a
    obtain ⟨_, _, _, hs, row, cells, hsh, _⟩ := hok
    simp only at hs hsh
    subst hs
    have hgb : gb < W.heap.size := by
      unfold World.shape? at hsh
      rcases Nat.lt_or_ge gb W.heap.size with hg | hg
      · exact hg
      · rw [Array.getElem?_eq_none hg] at hsh
        simp at hsh
    have key : ∀ i, i < len → ∃ x : α, ∀ j, j < es → W.cell? ⟨gb, o + i * es + j, none⟩ = (g x)[j]? := fun i hi => by
      have h1 := hel2 i hi
      rw [List.getElem?_eq_getElem (by omega), Option.bind_eq_some_iff] at h1
      obtain ⟨cs, hcs, htr⟩ := h1
      rw [hC] at hcs
      unfold World.cells? at hcs
      split at hcs
      · have hlen := mapM_some_length hcs
        simp at hlen
        obtain ⟨x, rfl⟩ := elem n cs _ htr hlen
        refine ⟨x, fun j hj => ?_⟩
        have := mapM_some_get hcs j j (by simp [hj])
        have e : ((⟨gb, o, none⟩ : Addr).add (i * es)).add j = ⟨gb, o + i * es + j, none⟩ := by
          unfold Addr.add
          split <;> split <;> simp_all
        rw [← e]
        exact this
      · cases hcs
    obtain ⟨xs, hl, hq⟩ := choose_list len key
    subst hl
    have hlen := flatMap_len hg xs
    have hfl := flatMap_map hf xs
    refine ⟨xs, [.cells es (xs.flatMap g)], [⟨gb, o, cap * es, es⟩], fun n => .slice (some ⟨n, 0, none⟩) xs.length xs.length, fun D m n hD hm => ?_, fun Fz h n hF hh => ?_, fun D m n hD hm j b hb => ?_, fun j b i hb hi hd => ?_, rfl⟩
    · have e := hm 0 _ rfl
      rw [Nat.add_zero] at e
      have := VR.slice (D := D) (m := m) n 0 xs.length xs.length cap (hD 0 (by simp)) (Nat.le_refl _) hlc (.inr (by rw [e]; simp))
      rw [e] at this
      exact this
    · have hw : ∀ r ∈ xs.map f, r.length = es := fun r hr => by obtain ⟨x, _, rfl⟩ := List.mem_map.1 hr; rw [hf, List.length_map, hg]
      have := VL.list (Fz := Fz) (h := h) noL es (xs.map f) n 0 xs.length (xs.flatMap g) es (hF 0 (by simp)) (hh 0 _ rfl) (.inl rfl) hw (by simp) (by rw [List.length_map, hlen]; omega) (fun j p x hp hx => by
        rw [hfl, List.getElem?_map, Option.map_eq_some_iff] at hp
        rw [Nat.zero_add] at hx
        obtain ⟨y, h1, rfl⟩ := hp
        obtain rfl : y = x := Option.some.inj (h1.symm.trans hx)
        obtain ⟨z, _, hz⟩ := List.mem_flatMap.1 (List.mem_of_getElem? hx)
        exact .v _ _ (hat z y hz).1)
      rw [List.length_map] at this
      exact this
    · match j, hb with
      | 0, hb =>
        obtain rfl := Option.some.inj hb
        have e := hm 0 _ rfl
        rw [Nat.add_zero] at e ⊢
        refine ⟨by rw [e], fun i v hv => ⟨v, ?_, ?_⟩⟩
        · rw [flatMap_at hg he, Option.bind_eq_some_iff] at hv
          obtain ⟨x, hx, hv⟩ := hv
          rw [e]
          have := hq _ x hx (i % es) (Nat.mod_lt _ he)
          rw [Nat.add_assoc, Nat.mul_comm, Nat.div_add_mod] at this
          rw [this]
          exact hv
        · obtain ⟨z, _, hz⟩ := List.mem_flatMap.1 (List.mem_of_getElem? hv)
          exact (hat z v hz).2 _ _
      | j + 1, hb => simp at hb
    · match j, hb, hi with
      | 0, hb, hi => obtain rfl := Option.some.inj hi
                     exact hgb
      | j + 1, hb, hi => simp at hb
/-! ### aggregates of ints -/
def AI (cs : List Value) : Prop := ∀ c ∈ cs, ∃ n : Int, c = .int .i64 n
theorem AI.list {cs : List Value} (h : AI cs) : ∃ l : List Int, cs = l.map (.int .i64) := by
  induction cs with
  | nil => exact ⟨[], rfl⟩
  | cons c t ih =>
    obtain ⟨n, rfl⟩ := h c (by simp)
    obtain ⟨l, rfl⟩ := ih fun c hc => h c (by simp [hc])
    exact ⟨n :: l, rfl⟩
variable {P : Program}
theorem ai_int {te : TypeId} (ht : P.underlying te = some (.int .i64)) {fuel : Nat} {cs : List Value} {x : DataW H × List MemPlace} (h : DataW.trod enc P W base spare held fuel te cs = some x) : AI cs := by
  obtain ⟨n, rfl, _⟩ := DataW.trod_int ht h
  exact fun c hc => ⟨n, by simpa using hc⟩
theorem ai_arr {t e : TypeId} {m k : Nat} (ht : P.underlying t = some (.array m e)) (hk : P.cellsOf e = k) (hk0 : 0 < k) (hc : P.cellsOf t = m * k) (he : ∀ n cs y, DataW.trod enc P W base spare held n e cs = some y → AI cs)
    {fuel : Nat} {cs : List Value} {x : DataW H × List MemPlace} (h : DataW.trod enc P W base spare held fuel t cs = some x) : AI cs := by
  obtain ⟨xs, n, _, _, hl, hx, hi⟩ := DataW.trod_array ht h
  intro c hcm
  obtain ⟨j, hj, rfl⟩ := List.mem_iff_getElem.1 hcm
  rw [hl, hc] at hj
  have hd : j / k < m := (Nat.div_lt_iff_lt_mul hk0).2 hj
  have h1 := hi _ hd
  rw [List.getElem?_eq_getElem (by omega), hk] at h1
  refine he _ _ _ h1 _ ?_
  refine List.mem_of_getElem? (i := j % k) ?_
  rw [List.getElem?_take, if_pos (Nat.mod_lt _ hk0), List.getElem?_drop, Nat.mul_comm, Nat.div_add_mod, List.getElem?_eq_getElem]
theorem ai_struct {t : TypeId} {fs : Array Field} (ht : P.underlying t = some (.struct fs)) (hcov : ((List.range (P.cellsOf t)).all fun j => fs.toList.any fun f => decide (f.offset ≤ j) && decide (j < f.offset + P.cellsOf f.type)) = true) (he : ∀ f ∈ fs.toList, ∀ n cs y, DataW.trod enc P W base spare held n f.type cs = some y → AI cs)
    {fuel : Nat} {cs : List Value} {x : DataW H × List MemPlace} (h : DataW.trod enc P W base spare held fuel t cs = some x) : AI cs := by
  obtain ⟨xs, n, _, _, hl, hx, hi⟩ := DataW.trod_struct ht h
  intro c hcm
  obtain ⟨j, hj, rfl⟩ := List.mem_iff_getElem.1 hcm
  rw [hl] at hj
  have := List.all_eq_true.1 hcov j (by simpa using hj)
  obtain ⟨f, hf, hf2⟩ := List.any_eq_true.1 this
  simp only [Bool.and_eq_true, decide_eq_true_eq] at hf2
  obtain ⟨i, hil, hif⟩ := List.mem_iff_getElem.1 hf
  have hfi : fs[i]? = some f := by rw [← Array.getElem?_toList, List.getElem?_eq_getElem hil, hif]
  have h1 := hi i f hfi
  have hil2 : i < fs.size := by simpa using hil
  rw [List.getElem?_eq_getElem (by omega)] at h1
  refine he f hf _ _ _ h1 _ ?_
  refine List.mem_of_getElem? (i := j - f.offset) ?_
  rw [List.getElem?_take, if_pos (by omega), List.getElem?_drop, show f.offset + (j - f.offset) = j by omega, List.getElem?_eq_getElem]
theorem okW_int {t : TypeId} (ht : P.underlying t = some (.int .i64)) {r : Reach} {b : Nat} {v : Value} (w : Cell.okWide P W r b t v) : ∃ n : Int, v = .int .i64 n := by
  unfold Cell.okWide at w
  simp only [ht] at w
  unfold Cell.ok at w
  simp only [ht] at w
  cases v <;> first | exact ⟨_, by rw [w.1]⟩ | exact absurd w (by simp)
theorem open_int {t : TypeId} (ht : P.underlying t = some (.int .i64)) {r : Reach} {b : Nat} {v : Value} (w : Value.okWide P W r b t v) : ∃ n : Int, v = .int .i64 n := by
  unfold Value.okWide at w
  simp only [ht] at w
  exact okW_int ht w
theorem open_sti {t ti : TypeId} {fs : Array Field} {n : Nat} (ht : P.underlying t = some (.struct fs)) (hti : P.underlying ti = some (.int .i64)) (hct : P.cellTypes P.depth t = some (List.replicate n ti)) (hn : P.cellsOf t = n)
    {r : Reach} {b : Nat} {v : Value} (w : Value.okWide P W r b t v) : ∃ l : List Int, l.length = n ∧ v = .agg ⟨l.map (.int .i64)⟩ := by
  unfold Value.okWide at w
  simp only [ht] at w
  obtain ⟨cs, rfl, hs, ts, hts, _, hc⟩ := w
  rw [hct] at hts
  obtain rfl := Option.some.inj hts
  obtain ⟨l⟩ := cs
  have : AI l := by
    intro c hcm
    obtain ⟨j, hj, rfl⟩ := List.mem_iff_getElem.1 hcm
    obtain ⟨u, hu, hok⟩ := hc j l[j] (by simp)
    have := List.eq_of_mem_replicate (List.mem_of_getElem? hu)
    subst this
    exact okW_int hti hok
  obtain ⟨l', rfl⟩ := this.list
  refine ⟨l', ?_, rfl⟩
  simpa [hn] using hs
theorem open_ari {t ti e : TypeId} {k n : Nat} (ht : P.underlying t = some (.array k e)) (hti : P.underlying ti = some (.int .i64)) (hct : P.cellTypes P.depth t = some (List.replicate n ti)) (hn : P.cellsOf t = n)
    {r : Reach} {b : Nat} {v : Value} (w : Value.okWide P W r b t v) : ∃ l : List Int, l.length = n ∧ v = .agg ⟨l.map (.int .i64)⟩ := by
  unfold Value.okWide at w
  simp only [ht] at w
  obtain ⟨cs, rfl, hs, ts, hts, _, hc⟩ := w
  rw [hct] at hts
  obtain rfl := Option.some.inj hts
  obtain ⟨l⟩ := cs
  have : AI l := by
    intro c hcm
    obtain ⟨j, hj, rfl⟩ := List.mem_iff_getElem.1 hcm
    obtain ⟨u, hu, hok⟩ := hc j l[j] (by simp)
    have := List.eq_of_mem_replicate (List.mem_of_getElem? hu)
    subst this
    exact okW_int hti hok
  obtain ⟨l', rfl⟩ := this.list
  refine ⟨l', ?_, rfl⟩
  simpa [hn] using hs
theorem arg_ints (l : List Int) : Arg W (.agg ⟨l.map (.int .i64)⟩) (.agg (l.map fun x => .v (.int .i64 x))) [] [] (fun _ => .agg ⟨l.map (.int .i64)⟩) := by
  have := Arg.agg (W := W) (l := l.map (.int .i64)) fun c hc => by obtain ⟨x, _, rfl⟩ := List.mem_map.1 hc; exact atomV_int _ _
  rwa [List.map_map] at this
end
end Go.Rex
