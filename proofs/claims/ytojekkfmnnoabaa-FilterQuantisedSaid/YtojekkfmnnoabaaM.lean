/- What these functions return: facts on lists and numbers. -/
import Derived.Test.YtojekkfmnnoabaaTexR
import Derived.Test.YtojekkfmnnoabaaS
import Derived.Test.YtojekkfmnnoabaaTexU
import Derived.ProofKit
import Derived.OpenShut
import Derived.ShutString
import Derived.ChangeOld
import Derived.Below
import Derived.Lib.SmallJoins
import Derived.ChangeShapes
import Derived.ChangeArms
import Derived.WideShapes
set_option linter.unusedSimpArgs false
set_option linter.unusedVariables false
set_option linter.defProp false
namespace Go.Rex
/-! ### plain facts for shallow functions -/
theorem w64 {x : Int} (h : -9223372036854775808 ≤ x ∧ x ≤ 9223372036854775807) : IntKind.i64.wrap x = x := IntWalk.i64_in x (by omega)
/-- a loop that counts -/
theorem run_count {σ ε : Type} {step : σ → Option (σ ⊕ ε)} (f : Nat → σ) {n : Nat} {e : ε} (h : ∀ k, k < n → step (f k) = some (.inl (f (k + 1)))) (hn : step (f n) = some (.inr e)) : run step (f 0) = some e := by
  suffices H : ∀ j k, n - k = j → k ≤ n → run step (f k) = some e from H n 0 (by omega) (Nat.zero_le _)
  intro j
  induction j with
  | zero => intro k hj hk; obtain rfl : k = n := by omega
            exact run_stop hn
  | succ j ih => intro k hj hk; rw [run_next (h k (by omega))]; exact ih (k + 1) (by omega) (by omega)
/-- a loop that ends early -/
theorem run_until {σ ε : Type} {step : σ → Option (σ ⊕ ε)} (f : Nat → σ) {m : Nat} {e : ε} (h : ∀ k, k < m → step (f k) = some (.inl (f (k + 1)))) (hm : step (f m) = some (.inr e)) : run step (f 0) = some e := run_count f h hm
theorem getI_nat {α : Type} {xs : List α} {k : Nat} : getI xs (k : Int) = xs[k]? := by
  unfold getI
  rw [if_pos (by omega), Int.toNat_natCast]
theorem getI_of {α : Type} {xs : List α} {i : Int} {k : Nat} (h : i = (k : Int)) : getI xs i = xs[k]? := by subst h; exact getI_nat
theorem appI_one {α : Type} {b : Nat} {xs : List α} {y : α} (h : xs.length < 2 ^ 40) (hb : b ≤ 128) : appI b xs [y] = some (xs ++ [y]) := by
  unfold appI
  rw [if_pos]
  refine ⟨by simp; omega, ?_⟩
  have h1 : (xs.length + [y].length) * b ≤ 2 ^ 40 * 128 := Nat.mul_le_mul (by simp; omega) hb
  omega
end Go.Rex

namespace Go.Rex
/-! ### loops that look for the first one of a list -/
def firstOr {α ε : Type} (P : α → Bool) (ex : Nat → α → ε) (en : ε) : Nat → List α → ε
  | _, [] => en
  | k, x :: t => if P x = true then ex k x else firstOr P ex en (k + 1) t
theorem run_first_from {α σ ε : Type} {step : σ → Option (σ ⊕ ε)} (st : Nat → σ) (P : α → Bool) (ex : Nat → α → ε) (en : ε) :
    ∀ (xs ys : List α), (∀ (k : Nat) x, (ys ++ xs)[k]? = some x → step (st k) = some (if P x = true then .inr (ex k x) else .inl (st (k + 1)))) → step (st (ys ++ xs).length) = some (.inr en) → run step (st ys.length) = some (firstOr P ex en ys.length xs)
  | [], ys, _, he => by rw [List.append_nil] at he; exact run_stop he
  | x :: t, ys, hs, he => by
    have h1 := hs ys.length x (by simp)
    by_cases hp : P x = true
    · rw [if_pos hp] at h1
      rw [run_stop h1, firstOr, if_pos hp]
    · rw [if_neg hp] at h1
      rw [run_next h1, firstOr, if_neg hp]
      have := run_first_from st P ex en t (ys ++ [x]) (fun k y hk => hs k y (by simpa using hk)) (by simpa using he)
      simpa using this
theorem run_first {α σ ε : Type} {step : σ → Option (σ ⊕ ε)} (st : Nat → σ) (P : α → Bool) (ex : Nat → α → ε) (en : ε) (xs : List α) (hs : ∀ (k : Nat) x, xs[k]? = some x → step (st k) = some (if P x = true then .inr (ex k x) else .inl (st (k + 1)))) (he : step (st xs.length) = some (.inr en)) {s : σ} (h0 : s = st 0) : run step s = some (firstOr P ex en 0 xs) := by
  subst h0
  exact run_first_from st P ex en xs [] hs he
theorem firstOr_map {α β γ : Type} (f : β → γ) (P : α → Bool) (ex : Nat → α → β) (en : β) : ∀ (xs : List α) k, f (firstOr P ex en k xs) = firstOr P (fun k x => f (ex k x)) (f en) k xs
  | [], _ => rfl
  | x :: t, k => by
    unfold firstOr
    split
    · rfl
    · exact firstOr_map f P ex en t (k + 1)
theorem firstOr_all {α β : Type} (P : α → Bool) (c en : β) : ∀ (xs : List α) k, firstOr P (fun _ _ => c) en k xs = if (xs.all fun x => !P x) = true then en else c
  | [], _ => rfl
  | x :: t, k => by
    unfold firstOr
    rw [firstOr_all P c en t (k + 1)]
    cases h : P x <;> simp [h]
theorem firstOr_congr {α β : Type} {P Q : α → Bool} {ex ex' : Nat → α → β} {en : β} : ∀ (xs : List α) k, (∀ x, x ∈ xs → P x = Q x) → (∀ j x, x ∈ xs → P x = true → ex j x = ex' j x) → firstOr P ex en k xs = firstOr Q ex' en k xs
  | [], _, _, _ => rfl
  | x :: t, k, h1, h2 => by
    unfold firstOr
    rw [← h1 x (by simp), firstOr_congr t (k + 1) (fun y hy => h1 y (by simp [hy])) (fun j y hy => h2 j y (by simp [hy]))]
    split
    · rename_i hp
      exact h2 k x (by simp) hp
    · rfl
theorem bind_first {α σ ε β : Type} {step : σ → Option (σ ⊕ ε)} {s : σ} {F : ε → Option β} (st : Nat → σ) (P : α → Bool) (ex : Nat → α → ε) (en : ε) (xs : List α) (K : ε → β) (h0 : s = st 0) (hF : ∀ e, F e = some (K e)) (hs : ∀ (k : Nat) x, xs[k]? = some x → step (st k) = some (if P x = true then .inr (ex k x) else .inl (st (k + 1)))) (he : step (st xs.length) = some (.inr en)) :
    (run step s).bind F = some (firstOr P (fun k x => K (ex k x)) (K en) 0 xs) := by
  rw [run_first st P ex en xs hs he h0, Option.bind_some, hF, firstOr_map K]
/-! ### numbers -/
theorem wneg {x : Int} (h : -9223372036854775807 ≤ x ∧ x ≤ 9223372036854775807) : IntKind.i64.wrap (0 - x) = -x := by rw [w64 (by omega)]; omega
theorem wsucc {k : Nat} {n : Nat} (h : k ≤ n) (hn : n ≤ 2 ^ 62) : IntKind.i64.wrap ((k : Int) + 1) = ((k + 1 : Nat) : Int) := by rw [w64 (by omega)]; omega
theorem fsize_eq {x : Int} (h : -9223372036854775807 ≤ x ∧ x ≤ 9223372036854775807) : filter_size x = some (x.natAbs : Int) := by
  unfold filter_size
  rw [wneg h]
  split <;> (congr 1; omega)
theorem bsize_eq {x : Int} (h : -9223372036854775807 ≤ x ∧ x ≤ 9223372036854775807) : base_Size x = some (x.natAbs : Int) := by
  unfold base_Size
  rw [wneg h]
  split <;> (congr 1; omega)
theorem tmod_emod {x y : Int} (hy : 0 < y) : x.tmod y = if x.tmod y < 0 then x % y - y else x % y := by
  have h1 := Int.tmod_lt_of_pos x hy
  have h2 : -y < x.tmod y := by
    have h3 := Int.natAbs_tmod x y
    have h4 : (x.tmod y).natAbs < y.natAbs := by rw [h3]; exact Nat.mod_lt _ (by omega)
    omega
  have hdm := Int.tmod_add_mul_tdiv x y
  split
  · have : x % y = x.tmod y + y := by
      have e : x = (x.tmod y + y) + y * (x.tdiv y - 1) := by rw [Int.mul_sub, Int.mul_one]; omega
      rw [e, Int.add_mul_emod_self_left, Int.emod_eq_of_lt (by omega) (by omega)]
      rw [← e]
    omega
  · have : x % y = x.tmod y := by
      conv => lhs; rw [← hdm]
      rw [Int.add_mul_emod_self_left, Int.emod_eq_of_lt (by omega) (by omega)]
    omega
theorem ediv_le {x y b : Int} (hy : 0 < y) (hb : 0 ≤ b) (h : -b ≤ x ∧ x ≤ b) : -b ≤ x / y ∧ x / y ≤ b := by
  have h1 := Int.emod_add_mul_ediv x y
  have h2 := Int.emod_nonneg x (show y ≠ 0 by omega)
  have h3 := Int.emod_lt_of_pos x hy
  constructor
  · refine Int.le_ediv_of_mul_le hy ?_
    have : -b * y ≤ -b * 1 := Int.mul_le_mul_of_nonpos_left (by omega) (by omega)
    omega
  · refine Int.ediv_le_of_le_mul hy ?_
    have : b * 1 ≤ b * y := Int.mul_le_mul_of_nonneg_left (by omega) hb
    omega
theorem tdiv_ediv {x y : Int} (hy : 0 < y) : x.tdiv y = if x.tmod y < 0 then x / y + 1 else x / y := by
  have hdm := Int.tmod_add_mul_tdiv x y
  have h1 := Int.emod_add_mul_ediv x y
  have h2 := tmod_emod (x := x) hy
  refine Int.eq_of_mul_eq_mul_left (show y ≠ 0 by omega) ?_
  split
  · rename_i h
    rw [if_pos h] at h2
    rw [Int.mul_add, Int.mul_one]
    omega
  · rename_i h
    rw [if_neg h] at h2
    omega
/-! ### sections -/
def smallB (m x : Int) : Bool := decide (-m ≤ x ∧ x ≤ m)
theorem isSmall_eq {x m : Int} (hm : 0 ≤ m ∧ m ≤ 9223372036854775807) : filter_isSmall x m = some (smallB m x) := by
  unfold filter_isSmall smallB
  rw [wneg (by omega)]
  by_cases h : -m ≤ x <;> simp [h]
theorem within_eq (x a b : Int) : base_Within x a b = some (decide (a ≤ x ∧ x ≤ b)) := by
  unfold base_Within
  by_cases h : a ≤ x <;> simp [h]
theorem allSmall_eq (l : List Int) {m : Int} (hl : l.length ≤ 2 ^ 62) (hm : 0 ≤ m ∧ m ≤ 9223372036854775807) : filter_allSmall l m = some (if (l.all (smallB m)) = true then 0 else 2) := by
  unfold filter_allSmall
  refine (bind_first (fun k : Nat => (k : Int)) (fun x => !smallB m x) (fun _ _ => .inl ()) (.inr ()) l (Sum.elim (fun _ => 2) fun _ => 0) rfl (fun e => by rcases e with _ | _ <;> rfl) (fun k x hk => ?_) ?_).trans ?_
  · have hk2 := (List.getElem?_eq_some_iff.1 hk).1
    dsimp only [filter_allSmall_l1]
    rw [if_pos (by simpa using hk2), getI_nat, hk, Option.bind_some, isSmall_eq hm, Option.bind_some, wsucc (n := l.length) (by omega) hl]
    cases smallB m x <;> rfl
  · dsimp only [filter_allSmall_l1]
    rw [if_neg (by simp)]
  · simp only [Sum.elim_inl, Sum.elim_inr, firstOr_all, Bool.not_not]
theorem firstError_eq (l : List Int) (hl : l.length ≤ 2 ^ 62) : filter_firstError l = some (firstOr (fun x => decide (x ≠ 0)) (fun _ x => x) 0 0 l) := by
  unfold filter_firstError
  refine (bind_first (fun k : Nat => (k : Int)) (fun x => decide (x ≠ 0)) (fun _ x => .inl x) (.inr ()) l (Sum.elim id fun _ => 0) rfl (fun e => by rcases e with x | _ <;> rfl) (fun k x hk => ?_) ?_).trans rfl
  · have hk2 := (List.getElem?_eq_some_iff.1 hk).1
    dsimp only [filter_firstError_l1]
    rw [if_pos (by simpa using hk2), getI_nat, hk, Option.bind_some, wsucc (n := l.length) (by omega) hl]
    by_cases h : x = 0 <;> simp [h]
  · dsimp only [filter_firstError_l1]
    rw [if_neg (by simp)]
theorem refuse_eq (b : Bool) (e : Int) : filter_refuse b e = some (if b = true then e else 0) := by
  unfold filter_refuse
  cases b <;> rfl
theorem first2 (a b : Int) : filter_firstError [a, b] = some (if a ≠ 0 then a else b) := by
  rw [firstError_eq _ (by simp)]
  unfold firstOr firstOr firstOr
  by_cases h : a = 0 <;> by_cases h2 : b = 0 <;> simp [h, h2]
end Go.Rex

namespace Go.Rex
theorem bfloor_eq {x y : Int} (hy : 0 < y) (hx : -9223372036854775807 ≤ x ∧ x ≤ 9223372036854775807) : base_Floor x y = some (x / y) := by
  unfold base_Floor
  rw [if_neg (by omega)]
  have hb := ediv_le (x := x) (b := 9223372036854775807) hy (by omega) (by omega)
  have ht := tdiv_ediv (x := x) hy
  by_cases h : x.tmod y < 0
  · rw [if_pos h] at ht
    have hb2 : x < 0 := by
      rcases Int.lt_or_le x 0 with hx | hx
      · exact hx
      · have := Int.tmod_nonneg y hx; omega
    have hb3 : x / y < 0 := Int.ediv_neg_of_neg_of_pos hb2 hy
    rw [if_pos (by simpa using h), ht, w64 (x := x / y + 1) (by omega), w64 (by omega)]
    congr 1
    omega
  · rw [if_neg h] at ht
    rw [if_neg (by simpa using h), ht, w64 (by omega)]
theorem ffloor_eq {x y : Int} (hy : 0 < y) (hy2 : y ≤ 4611686018427387904) (hx : -4611686018427387904 ≤ x ∧ x ≤ 9223372036854775807) : filter_floor x y = some (x / y) := by
  unfold filter_floor
  rw [if_neg (by omega)]
  have hm := tmod_emod (x := x) hy
  have h2 := Int.emod_nonneg x (show y ≠ 0 by omega)
  have h3 := Int.emod_lt_of_pos x hy
  have h4 := Int.emod_add_mul_ediv x y
  have e : (IntKind.i64.wrap (x.tmod y + y)).tmod y = x % y := by
    rw [w64 (by split at hm <;> omega)]
    rw [Int.tmod_eq_emod_of_nonneg (by split at hm <;> omega)]
    split at hm
    · rw [hm, Int.sub_add_cancel, Int.emod_emod_of_dvd _ (Int.dvd_refl y)]
    · rw [hm, Int.add_emod_right, Int.emod_emod_of_dvd _ (Int.dvd_refl y)]
  rw [e, w64 (x := x - x % y) (by omega), show x - x % y = y * (x / y) by omega, Int.mul_tdiv_cancel_left _ (by omega)]
  have := ediv_le (x := x) (b := 9223372036854775807) hy (by omega) (by omega)
  rw [w64 (by omega)]
end Go.Rex

namespace Go.Rex
theorem gcd_run : ∀ (n : Nat) (a b : Int), b.natAbs = n → ∃ r, run base_Gcd_l1 (a, b) = some r := by
  intro n
  induction n using Nat.strongRecOn with
  | _ n ih =>
    intro a b hb
    by_cases h : b = 0
    · refine ⟨a, run_stop ?_⟩
      dsimp only [base_Gcd_l1]
      rw [if_neg (by simp [h])]
    · have h1 : base_Gcd_l1 (a, b) = some (.inl (b, a.tmod b)) := by
        dsimp only [base_Gcd_l1]
        rw [if_pos (by simpa using h), if_neg h]
      obtain ⟨r, hr⟩ := ih (a.tmod b).natAbs (by rw [Int.natAbs_tmod, ← hb]; exact Nat.mod_lt _ (by omega)) b (a.tmod b) rfl
      exact ⟨r, by rw [run_next h1]; exact hr⟩
theorem gcd_some (a b : Int) : ∃ g, base_Gcd a b = some g := by
  obtain ⟨r, hr⟩ := gcd_run b.natAbs a b rfl
  unfold base_Gcd
  rw [hr]
  exact ⟨_, rfl⟩
theorem div_gcd (a b : Int) : filter_divisor a b = base_Gcd a b := rfl
/-- the coefficient that is nearest to a fraction, and its error -/
def qN (f : Int × Int) : Int := (2 * (f.1 * 16384) + f.2) / (2 * f.2)
noncomputable def frE (f : Int × Int) : Int := if f.2 ≤ 0 then 3 else if base_Gcd f.1 f.2 ≠ some 1 then 3 else if (smallB 1000000000 f.1 && smallB 1000000000 f.2) = true then 0 else 2
noncomputable def qE (f : Int × Int) : Int := if frE f ≠ 0 then frE f else if smallB 32768 (qN f) = true then 0 else 8
theorem smallB_iff {m x : Int} : smallB m x = true ↔ -m ≤ x ∧ x ≤ m := by
  unfold smallB
  rw [decide_eq_true_eq]
theorem frE_zero {f : Int × Int} (h : frE f = 0) : 0 < f.2 ∧ f.2 ≤ 1000000000 ∧ -1000000000 ≤ f.1 ∧ f.1 ≤ 1000000000 := by
  unfold frE at h
  split at h
  · cases h
  · split at h
    · cases h
    · split at h
      · rename_i h1 _ h2
        rw [Bool.and_eq_true, smallB_iff, smallB_iff] at h2
        omega
      · cases h
theorem form_eq (a b : Int) : filter_formError a b = some (if b ≤ 0 then 3 else if base_Gcd a b ≠ some 1 then 3 else 0) := by
  unfold filter_formError
  simp only [div_gcd, refuse_eq, Option.bind_some]
  by_cases h : b ≤ 0
  · rw [if_pos (by rw [decide_eq_true_eq]; exact h), if_pos h]
    rfl
  · rw [if_neg (by rw [decide_eq_true_eq]; exact h), if_neg h]
    obtain ⟨g, hg⟩ := gcd_some a b
    rw [hg, Option.bind_some]
    by_cases h2 : g = 1 <;> simp [h2]
theorem fquant_eq (a b : Int) : ∃ n, filter_quantised a b = some (n, qE (a, b)) ∧ (qE (a, b) = 0 → n = qN (a, b)) := by
  unfold filter_quantised
  rw [form_eq, allSmall_eq _ (by simp) (by omega)]
  simp only [Option.bind_some, first2]
  have e : (if (if b ≤ 0 then (3 : Int) else if base_Gcd a b ≠ some 1 then 3 else 0) ≠ 0 then (if b ≤ 0 then (3 : Int) else if base_Gcd a b ≠ some 1 then 3 else 0) else if ([a, b].all (smallB 1000000000)) = true then 0 else 2) = frE (a, b) := by
    unfold frE
    simp only [List.all_cons, List.all_nil, Bool.and_true]
    by_cases h : b ≤ 0
    · simp [h]
    · by_cases h2 : base_Gcd a b = some 1 <;> simp [h, h2]
  rw [e]
  by_cases h : frE (a, b) = 0
  · obtain ⟨h1, h2, h3, h4⟩ := frE_zero h
    simp only at h1 h2 h3 h4
    rw [if_neg (by rw [decide_eq_true_eq]; exact fun hc => hc h)]
    refine ⟨qN (a, b), ?_, fun _ => rfl⟩
    unfold filter_nearest
    rw [w64 (x := a * 16384) (by omega), w64 (x := 2 * (a * 16384)) (by omega), w64 (x := 2 * (a * 16384) + b) (by omega), w64 (x := 2 * b) (by omega), ffloor_eq (by omega) (by omega) (by omega), Option.bind_some, Option.bind_some, isSmall_eq (by omega), Option.bind_some, refuse_eq, Option.bind_some]
    show some (qN (a, b), if (!smallB 32768 (qN (a, b))) = true then (8 : Int) else 0) = _
    have : qE (a, b) = if smallB 32768 (qN (a, b)) = true then 0 else 8 := by unfold qE; rw [if_neg (fun hc => hc h)]
    rw [this]
    cases smallB 32768 (qN (a, b)) <;> rfl
  · rw [if_pos (by rw [decide_eq_true_eq]; exact h)]
    have : qE (a, b) = frE (a, b) := by unfold qE; rw [if_pos h]
    exact ⟨0, by rw [this], fun hc => absurd (this ▸ hc) h⟩
theorem rfrac_eq (a b : Int) : ref06_FracErr a b = some (frE (a, b)) := by
  unfold ref06_FracErr base_IsLowest base_IsSmall frE
  by_cases h : b ≤ 0
  · rw [if_neg (by rw [decide_eq_true_eq]; omega), if_pos h]
    rfl
  · rw [if_pos (by rw [decide_eq_true_eq]; omega), if_neg h]
    obtain ⟨g, hg⟩ := gcd_some a b
    rw [hg, within_eq, within_eq]
    simp only [Option.bind_some]
    by_cases h2 : g = 1
    · subst h2
      simp only [decide_true, if_true, ne_eq, not_true, if_false, smallB]
      by_cases h3 : -1000000000 ≤ a ∧ a ≤ 1000000000
      · by_cases h4 : b ≤ 1000000000
        · have h5 : (-1000000000 : Int) ≤ b ∧ b ≤ 1000000000 := by omega
          have h6 : (1 : Int) ≤ b ∧ b ≤ 1000000000 := by omega
          simp [h3, h5, h6]
        · simp [h3, h4]
      · have h3' : -1000000000 ≤ a → 1000000000 < a := by omega
        simp only [h3, decide_false, Bool.false_eq_true, if_false, Bool.false_and, Option.bind_some]
    · have h3 : ¬ (some g = some 1) := by simp [h2]
      simp [h2]
/-- five numbers, one after another -/
noncomputable def QR (f : Nat → Int × Int) : Int ⊕ (Int × Int × Int × Int × Int) :=
  if qE (f 0) ≠ 0 then .inl (qE (f 0)) else if qE (f 1) ≠ 0 then .inl (qE (f 1)) else if qE (f 2) ≠ 0 then .inl (qE (f 2)) else if qE (f 3) ≠ 0 then .inl (qE (f 3)) else if qE (f 4) ≠ 0 then .inl (qE (f 4)) else .inr (qN (f 0), qN (f 1), qN (f 2), qN (f 3), qN (f 4))
abbrev T6 := Int × Int × Int × Int × Int × Int
theorem q_run {step : T6 → Option (T6 ⊕ (Int ⊕ (Int × Int × Int × Int × Int)))} {f : Nat → Int × Int}
    (hs : ∀ (k : Nat) (a b c d e : Int), k < 5 → step (a, b, c, d, e, (k : Int)) = some (if qE (f k) ≠ 0 then .inr (.inl (qE (f k))) else .inl ((if (k : Int) = 0 then qN (f k) else a), (if (k : Int) = 1 then qN (f k) else b), (if (k : Int) = 2 then qN (f k) else c), (if (k : Int) = 3 then qN (f k) else d), (if (k : Int) = 4 then qN (f k) else e), ((k + 1 : Nat) : Int))))
    (he : ∀ a b c d e : Int, step (a, b, c, d, e, 5) = some (.inr (.inr (a, b, c, d, e)))) : run step (0, 0, 0, 0, 0, 0) = some (QR f) := by
  unfold QR
  have s0 : ∀ a b c d e : Int, step (a, b, c, d, e, 0) = some (if qE (f 0) ≠ 0 then .inr (.inl (qE (f 0))) else .inl (qN (f 0), b, c, d, e, 1)) := fun a b c d e => hs 0 a b c d e (by omega)
  have s1 : ∀ a b c d e : Int, step (a, b, c, d, e, 1) = some (if qE (f 1) ≠ 0 then .inr (.inl (qE (f 1))) else .inl (a, qN (f 1), c, d, e, 2)) := fun a b c d e => hs 1 a b c d e (by omega)
  have s2 : ∀ a b c d e : Int, step (a, b, c, d, e, 2) = some (if qE (f 2) ≠ 0 then .inr (.inl (qE (f 2))) else .inl (a, b, qN (f 2), d, e, 3)) := fun a b c d e => hs 2 a b c d e (by omega)
  have s3 : ∀ a b c d e : Int, step (a, b, c, d, e, 3) = some (if qE (f 3) ≠ 0 then .inr (.inl (qE (f 3))) else .inl (a, b, c, qN (f 3), e, 4)) := fun a b c d e => hs 3 a b c d e (by omega)
  have s4 : ∀ a b c d e : Int, step (a, b, c, d, e, 4) = some (if qE (f 4) ≠ 0 then .inr (.inl (qE (f 4))) else .inl (a, b, c, d, qN (f 4), 5)) := fun a b c d e => hs 4 a b c d e (by omega)
  have h0 := s0 0 0 0 0 0
  by_cases e0 : qE (f 0) = 0
  · have n0 : ¬ (qE (f 0) ≠ 0) := fun h => h e0
    rw [if_neg n0] at h0
    rw [if_neg n0]
    refine (run_next h0).trans ?_
    have h1 := s1 (qN (f 0)) 0 0 0 0
    by_cases e1 : qE (f 1) = 0
    · have n1 : ¬ (qE (f 1) ≠ 0) := fun h => h e1
      rw [if_neg n1] at h1
      rw [if_neg n1]
      refine (run_next h1).trans ?_
      have h2 := s2 (qN (f 0)) (qN (f 1)) 0 0 0
      by_cases e2 : qE (f 2) = 0
      · have n2 : ¬ (qE (f 2) ≠ 0) := fun h => h e2
        rw [if_neg n2] at h2
        rw [if_neg n2]
        refine (run_next h2).trans ?_
        have h3 := s3 (qN (f 0)) (qN (f 1)) (qN (f 2)) 0 0
        by_cases e3 : qE (f 3) = 0
        · have n3 : ¬ (qE (f 3) ≠ 0) := fun h => h e3
          rw [if_neg n3] at h3
          rw [if_neg n3]
          refine (run_next h3).trans ?_
          have h4 := s4 (qN (f 0)) (qN (f 1)) (qN (f 2)) (qN (f 3)) 0
          by_cases e4 : qE (f 4) = 0
          · have n4 : ¬ (qE (f 4) ≠ 0) := fun h => h e4
            rw [if_neg n4] at h4
            rw [if_neg n4]
            refine (run_next h4).trans ?_
            exact run_stop (he _ _ _ _ _)
          · rw [if_pos e4] at h4
            rw [if_pos e4]
            exact run_stop h4
        · rw [if_pos e3] at h3
          rw [if_pos e3]
          exact run_stop h3
      · rw [if_pos e2] at h2
        rw [if_pos e2]
        exact run_stop h2
    · rw [if_pos e1] at h1
      rw [if_pos e1]
      exact run_stop h1
  · rw [if_pos e0] at h0
    rw [if_pos e0]
    exact run_stop h0
section
variable (v1 v2 v3 v4 v5 v6 v7 v8 v9 v10 : Int)
def fr : Nat → Int × Int
  | 0 => (v1, v2)
  | 1 => (v3, v4)
  | 2 => (v5, v6)
  | 3 => (v7, v8)
  | _ => (v9, v10)
theorem fr_at {k : Nat} (h : k < 5) : getI ([(v1, v2), (v3, v4), (v5, v6), (v7, v8), (v9, v10)] : List (Int × Int)) (k : Int) = some (fr v1 v2 v3 v4 v5 v6 v7 v8 v9 v10 k) := by
  rw [getI_nat]
  match k, h with
  | 0, _ => rfl
  | 1, _ => rfl
  | 2, _ => rfl
  | 3, _ => rfl
  | 4, _ => rfl
theorem five_at (a b c d e : Int) {k : Nat} (h : k < 5) : ∃ x, getI ([a, b, c, d, e] : List Int) (k : Int) = some x := getI_some' h
where getI_some' {l : List Int} {k : Nat} (h : k < l.length) : ∃ x, getI l (k : Int) = some x := by rw [getI_nat]; exact ⟨_, List.getElem?_eq_getElem h⟩
theorem upd_at (a b c d e y : Int) {k : Nat} (h : k < 5) : getI ([(if (k : Int) = 0 then y else a), (if (k : Int) = 1 then y else b), (if (k : Int) = 2 then y else c), (if (k : Int) = 3 then y else d), (if (k : Int) = 4 then y else e)] : List Int) (k : Int) = some y := by
  rw [getI_nat]
  match k, h with
  | 0, _ => rfl
  | 1, _ => rfl
  | 2, _ => rfl
  | 3, _ => rfl
  | 4, _ => rfl
theorem fq_run : run (filter_Quantised_l1 v1 v2 v3 v4 v5 v6 v7 v8 v9 v10) (0, 0, 0, 0, 0, 0) = some (QR (fr v1 v2 v3 v4 v5 v6 v7 v8 v9 v10)) := by
  refine q_run (fun k a b c d e hk => ?_) (fun a b c d e => ?_)
  · dsimp only [filter_Quantised_l1]
    rw [if_pos (by rw [decide_eq_true_eq]; omega), fr_at _ _ _ _ _ _ _ _ _ _ hk, Option.bind_some]
    obtain ⟨⟨p, q⟩, hf⟩ : ∃ x, fr v1 v2 v3 v4 v5 v6 v7 v8 v9 v10 k = x := ⟨_, rfl⟩
    obtain ⟨n, n1, n2⟩ := fquant_eq p q
    obtain ⟨x, hx⟩ := five_at a b c d e hk
    rw [hf]
    dsimp only
    rw [n1, Option.bind_some, hx, Option.bind_some, wsucc (n := 5) (by omega) (by omega)]
    by_cases h : qE (p, q) = 0
    · have h' : ¬ (qE (p, q) ≠ 0) := fun hc => hc h
      rw [if_neg (by rw [decide_eq_true_eq]; exact h'), if_neg h', n2 h]
    · rw [if_pos (by rw [decide_eq_true_eq]; exact h), if_pos h]
  · dsimp only [filter_Quantised_l1]
    rw [if_neg (by simp)]
theorem rq_run : run (ref06_Quantised_l1 v1 v2 v3 v4 v5 v6 v7 v8 v9 v10) (0, 0, 0, 0, 0, 0) = some (QR (fr v1 v2 v3 v4 v5 v6 v7 v8 v9 v10)) := by
  refine q_run (fun k a b c d e hk => ?_) (fun a b c d e => ?_)
  · dsimp only [ref06_Quantised_l1]
    rw [if_pos (by rw [decide_eq_true_eq]; omega), fr_at _ _ _ _ _ _ _ _ _ _ hk, Option.bind_some]
    obtain ⟨⟨p, q⟩, hf⟩ : ∃ x, fr v1 v2 v3 v4 v5 v6 v7 v8 v9 v10 k = x := ⟨_, rfl⟩
    obtain ⟨x, hx⟩ := five_at a b c d e hk
    rw [hf]
    dsimp only
    rw [rfrac_eq, Option.bind_some, wsucc (n := 5) (by omega) (by omega)]
    unfold qE
    by_cases h : frE (p, q) = 0
    · obtain ⟨h1, h2, h3, h4⟩ := frE_zero h
      simp only at h1 h2 h3 h4
      have h' : ¬ (frE (p, q) ≠ 0) := fun hc => hc h
      rw [if_neg (by rw [decide_eq_true_eq]; exact h'), if_neg h']
      rw [w64 (x := 2 * p) (by omega), w64 (x := 2 * p * 16384) (by omega), w64 (x := 2 * p * 16384 + q) (by omega), w64 (x := 2 * q) (by omega), bfloor_eq (by omega) (by omega), Option.bind_some, hx, Option.bind_some, upd_at _ _ _ _ _ _ hk, Option.bind_some, within_eq, Option.bind_some]
      have e : (2 * p * 16384 + q) / (2 * q) = qN (p, q) := by unfold qN; rw [Int.mul_assoc]
      rw [e]
      have hb : decide (-32768 ≤ qN (p, q) ∧ qN (p, q) ≤ 32768) = smallB 32768 (qN (p, q)) := rfl
      rw [hb]
      cases smallB 32768 (qN (p, q)) <;> rfl
    · rw [if_pos (by rw [decide_eq_true_eq]; exact h), if_pos h, if_pos h]
  · dsimp only [ref06_Quantised_l1]
    rw [if_neg (by simp)]
end
theorem near_half {a b : Int} (h : qE (a, b) = 0) : 2 * ((a * 16384 - qN (a, b) * b).natAbs : Int) ≤ b ∧ 0 < b ∧ b ≤ 1000000000 ∧ -1000000000 ≤ a ∧ a ≤ 1000000000 ∧ -32768 ≤ qN (a, b) ∧ qN (a, b) ≤ 32768 := by
  unfold qE at h
  split at h
  · rename_i hc; exact absurd h hc
  · rename_i hc
    have h0 : frE (a, b) = 0 := Classical.byContradiction hc
    obtain ⟨h1, h2, h3, h4⟩ := frE_zero h0
    simp only at h1 h2 h3 h4
    split at h
    · rename_i hs
      rw [smallB_iff] at hs
      have hd := Int.emod_add_mul_ediv (2 * (a * 16384) + b) (2 * b)
      have hd1 := Int.emod_nonneg (2 * (a * 16384) + b) (show 2 * b ≠ 0 by omega)
      have hd2 := Int.emod_lt_of_pos (2 * (a * 16384) + b) (show 0 < 2 * b by omega)
      have e : 2 * b * ((2 * (a * 16384) + b) / (2 * b)) = 2 * (qN (a, b) * b) := by
        unfold qN
        simp only
        rw [Int.mul_assoc, Int.mul_comm b]
      rw [e] at hd
      generalize qN (a, b) * b = z at *
      exact ⟨by omega, h1, h2, h3, h4, hs⟩
    · cases h
theorem law_run {v1 v2 v3 v4 v5 v6 v7 v8 v9 v10 : Int} (h : ∀ k, k < 5 → qE (fr v1 v2 v3 v4 v5 v6 v7 v8 v9 v10 k) = 0) :
    run (law06_FilterQuantised_l1 v1 v2 v3 v4 v5 v6 v7 v8 v9 v10 (qN (v1, v2)) (qN (v3, v4)) (qN (v5, v6)) (qN (v7, v8)) (qN (v9, v10)) 0) 0 = some (.inr ()) := by
  refine run_count (fun k => (k : Int)) (n := 5) (fun k hk => ?_) ?_
  · have hn : getI ([qN (v1, v2), qN (v3, v4), qN (v5, v6), qN (v7, v8), qN (v9, v10)] : List Int) (k : Int) = some (qN (fr v1 v2 v3 v4 v5 v6 v7 v8 v9 v10 k)) := by
      rw [getI_nat]
      match k, hk with
      | 0, _ => rfl
      | 1, _ => rfl
      | 2, _ => rfl
      | 3, _ => rfl
      | 4, _ => rfl
    have hq := h k hk
    dsimp only [law06_FilterQuantised_l1]
    rw [if_pos (by rw [decide_eq_true_eq]; omega), if_pos (by decide), fr_at _ _ _ _ _ _ _ _ _ _ hk, hn, Option.bind_some]
    generalize fr v1 v2 v3 v4 v5 v6 v7 v8 v9 v10 k = f at hq
    obtain ⟨p, q⟩ := f
    obtain ⟨h0, h1, h2, h3, h4, h5, h6⟩ := near_half hq
    dsimp only
    have hb : -1000000000 * 32768 ≤ qN (p, q) * q ∧ qN (p, q) * q ≤ 1000000000 * 32768 := by
      generalize qN (p, q) * q = z at *
      omega
    rw [Option.bind_some, w64 (x := p * 16384) (by omega), w64 (x := qN (p, q) * q) (by omega), w64 (x := p * 16384 - qN (p, q) * q) (by omega), bsize_eq (by omega), Option.bind_some, w64 (by omega), if_neg (by rw [decide_eq_true_eq]; omega), wsucc (n := 5) (by omega) (by omega)]
  · dsimp only [law06_FilterQuantised_l1]
    rw [if_neg (by simp)]
theorem quant_true (v1 v2 v3 v4 v5 v6 v7 v8 v9 v10 : Int) : law06_FilterQuantised v1 v2 v3 v4 v5 v6 v7 v8 v9 v10 = some true := by
  unfold law06_FilterQuantised filter_Quantised ref06_Quantised filter_coefficients_section
  rw [fq_run, rq_run]
  have key : ∀ e : Int, e ≠ 0 → run (law06_FilterQuantised_l1 v1 v2 v3 v4 v5 v6 v7 v8 v9 v10 0 0 0 0 0 e) 0 = some (.inr ()) := by
    intro e he
    refine run_stop ?_
    dsimp only [law06_FilterQuantised_l1]
    rw [if_pos (by decide), if_neg (by rw [decide_eq_true_eq]; exact he)]
  have hl := law_run (v1 := v1) (v2 := v2) (v3 := v3) (v4 := v4) (v5 := v5) (v6 := v6) (v7 := v7) (v8 := v8) (v9 := v9) (v10 := v10)
  unfold QR
  have f0 : fr v1 v2 v3 v4 v5 v6 v7 v8 v9 v10 0 = (v1, v2) := rfl
  have f1 : fr v1 v2 v3 v4 v5 v6 v7 v8 v9 v10 1 = (v3, v4) := rfl
  have f2 : fr v1 v2 v3 v4 v5 v6 v7 v8 v9 v10 2 = (v5, v6) := rfl
  have f3 : fr v1 v2 v3 v4 v5 v6 v7 v8 v9 v10 3 = (v7, v8) := rfl
  have f4 : fr v1 v2 v3 v4 v5 v6 v7 v8 v9 v10 4 = (v9, v10) := rfl
  rw [f0, f1, f2, f3, f4]
  by_cases e0 : qE (v1, v2) = 0
  · rw [if_neg (fun h => h e0)]
    by_cases e1 : qE (v3, v4) = 0
    · rw [if_neg (fun h => h e1)]
      by_cases e2 : qE (v5, v6) = 0
      · rw [if_neg (fun h => h e2)]
        by_cases e3 : qE (v7, v8) = 0
        · rw [if_neg (fun h => h e3)]
          by_cases e4 : qE (v9, v10) = 0
          · rw [if_neg (fun h => h e4)]
            have := hl (fun k hk => by
              match k, hk with
              | 0, _ => exact e0
              | 1, _ => exact e1
              | 2, _ => exact e2
              | 3, _ => exact e3
              | 4, _ => exact e4)
            simp [this]
          · rw [if_pos e4]; simp [key _ e4]
        · rw [if_pos e3]; simp [key _ e3]
      · rw [if_pos e2]; simp [key _ e2]
    · rw [if_pos e1]; simp [key _ e1]
  · rw [if_pos e0]; simp [key _ e0]
end Go.Rex

namespace Go.Rex
open Go Go.ChangeShapes Go.WideShapes Go.ChangeAt Go.RowKit Go.Joins Go.Proofs
/-! ### arguments: what they are as trees, and the names of their blocks -/
structure Arg (W : World) (v' : Value) (p : TV) (bs : List Blk) (is : List Info) (av : Nat → Value) : Prop where
  vr : ∀ (D : Nat → Prop) (m : NMap) n, (∀ j, j < bs.length → D (n + j)) → (∀ (j : Nat) i, is[j]? = some i → m (n + j) = i) → VR D m (av n) v'
  vl : ∀ (Fz : Nat → Prop) (h : List Blk) n, (∀ j, j < bs.length → Fz (n + j)) → (∀ (j : Nat) b, bs[j]? = some b → h[n + j]? = some b) → VL Fz h noL p (av n)
  ok : ∀ (D : Nat → Prop) (m : NMap) n, (∀ j, j < bs.length → D (n + j)) → (∀ (j : Nat) i, is[j]? = some i → m (n + j) = i) → ∀ (j : Nat) b, bs[j]? = some b → BlkOk D m W (n + j) b
  lt : ∀ (j : Nat) b i, bs[j]? = some b → is[j]? = some i → b ≠ .dead → i.block < W.heap.size
  len : is.length = bs.length
structure Args (W : World) (vs' : List Value) (ps : List TV) (bs : List Blk) (is : List Info) (av : Nat → List Value) : Prop where
  vr : ∀ (D : Nat → Prop) (m : NMap) n, (∀ j, j < bs.length → D (n + j)) → (∀ (j : Nat) i, is[j]? = some i → m (n + j) = i) → VRs D m (av n) vs'
  vl : ∀ (Fz : Nat → Prop) (h : List Blk) n, (∀ j, j < bs.length → Fz (n + j)) → (∀ (j : Nat) b, bs[j]? = some b → h[n + j]? = some b) → VLs Fz h noL ps (av n)
  ok : ∀ (D : Nat → Prop) (m : NMap) n, (∀ j, j < bs.length → D (n + j)) → (∀ (j : Nat) i, is[j]? = some i → m (n + j) = i) → ∀ (j : Nat) b, bs[j]? = some b → BlkOk D m W (n + j) b
  lt : ∀ (j : Nat) b i, bs[j]? = some b → is[j]? = some i → b ≠ .dead → i.block < W.heap.size
  len : is.length = bs.length
theorem Args.nil (W : World) : Args W [] [] [] [] (fun _ => []) :=
  ⟨fun _ _ _ _ _ => ⟨rfl, fun i a a' h => by simp at h⟩, fun _ _ _ _ _ => .nil, fun _ _ _ _ _ j b h => by simp at h, fun j b i h => by simp at h, rfl⟩
theorem Args.cons {W : World} {v' : Value} {p : TV} {bs bs2 : List Blk} {is is2 : List Info} {av : Nat → Value} {vs' : List Value} {ps : List TV} {avs : Nat → List Value}
    (a : Arg W v' p bs is av) (as : Args W vs' ps bs2 is2 avs) : Args W (v' :: vs') (p :: ps) (bs ++ bs2) (is ++ is2) (fun n => av n :: avs (n + bs.length)) := by
  have cD : ∀ (D : Nat → Prop) n, (∀ j, j < (bs ++ bs2).length → D (n + j)) → (∀ j, j < bs.length → D (n + j)) ∧ (∀ j, j < bs2.length → D (n + bs.length + j)) := by
    intro D n h
    refine ⟨fun j hj => h j (by simp; omega), fun j hj => ?_⟩
    have := h (bs.length + j) (by simp; omega)
    rwa [← Nat.add_assoc] at this
  have cI : ∀ (m : NMap) n, (∀ (j : Nat) i, (is ++ is2)[j]? = some i → m (n + j) = i) → (∀ (j : Nat) i, is[j]? = some i → m (n + j) = i) ∧ (∀ (j : Nat) i, is2[j]? = some i → m (n + bs.length + j) = i) := by
    intro m n h
    refine ⟨fun j i hj => h j i (by rw [List.getElem?_append_left (List.getElem?_eq_some_iff.1 hj).1]; exact hj), fun j i hj => ?_⟩
    have := h (bs.length + j) i (by rw [List.getElem?_append_right (by rw [a.len]; omega), a.len, Nat.add_sub_cancel_left]; exact hj)
    rwa [← Nat.add_assoc] at this
  refine ⟨fun D m n hD hm => ?_, fun Fz h n hF hh => ?_, fun D m n hD hm j b hb => ?_, fun j b i hb hi hd => ?_, by simp [a.len, as.len]⟩
  · have h1 := a.vr D m n (cD D n hD).1 (cI m n hm).1
    have h2 := as.vr D m (n + bs.length) (cD D n hD).2 (cI m n hm).2
    refine ⟨by simp [h2.len], fun i x x' hx hx' => ?_⟩
    cases i with
    | zero => simp at hx hx'; subst hx hx'; exact h1
    | succ i => simp at hx hx'; exact h2.at' i x x' hx hx'
  · refine .cons (a.vl Fz h n (cD Fz n hF).1 fun j b hb => hh j b (by rw [List.getElem?_append_left (List.getElem?_eq_some_iff.1 hb).1]; exact hb)) (as.vl Fz h (n + bs.length) (cD Fz n hF).2 fun j b hb => ?_)
    have := hh (bs.length + j) b (by rw [List.getElem?_append_right (by omega), Nat.add_sub_cancel_left]; exact hb)
    rwa [← Nat.add_assoc] at this
  · rcases Nat.lt_or_ge j bs.length with hj | hj
    · rw [List.getElem?_append_left hj] at hb
      exact a.ok D m n (cD D n hD).1 (cI m n hm).1 j b hb
    · rw [List.getElem?_append_right hj] at hb
      have := as.ok D m (n + bs.length) (cD D n hD).2 (cI m n hm).2 _ b hb
      rwa [show n + bs.length + (j - bs.length) = n + j by omega] at this
  · rcases Nat.lt_or_ge j bs.length with hj | hj
    · rw [List.getElem?_append_left hj] at hb
      rw [List.getElem?_append_left (by rw [a.len]; exact hj)] at hi
      exact a.lt j b i hb hi hd
    · rw [List.getElem?_append_right hj] at hb
      rw [List.getElem?_append_right (by rw [a.len]; exact hj), a.len] at hi
      exact as.lt _ b i hb hi hd
/-- the names of the arguments -/
def nm (is : List Info) : NMap := fun n => is.getD n ⟨0, 0, 0, 0⟩
theorem nm_at {is : List Info} {j : Nat} {i : Info} (h : is[j]? = some i) : nm is (0 + j) = i := by
  unfold nm
  rw [Nat.zero_add, List.getD_eq_getElem?_getD, h]
  rfl
section
variable {W : World} {vs' : List Value} {ps : List TV} {bs : List Blk} {is : List Info} {av : Nat → List Value}
theorem Args.rel (a : Args W vs' ps bs is av) : Rel W.heap.size bs.length (fun k => k < bs.length) (nm is) bs W := by
  refine ⟨Nat.le_refl _, fun _ h => h, fun n b hn hb => ?_, fun n b hn hb hd => ?_, fun n b hD hl => absurd hD (by omega), fun n b hn _ hb hd => ?_, fun n b hD hl => absurd hD (by omega), fun n n' b b' hD _ hl => absurd hD (by omega)⟩
  · have := a.ok (fun k => k < bs.length) (nm is) 0 (fun j hj => by omega) (fun j i hi => nm_at hi) n b hb
    rwa [Nat.zero_add] at this
  all_goals
    have hi : n < is.length := by rw [a.len]; exact hn
    have e := nm_at (List.getElem?_eq_getElem hi)
    rw [Nat.zero_add] at e
    rw [e]
    exact a.lt n b _ hb (List.getElem?_eq_getElem hi) hd
theorem Args.vls (a : Args W vs' ps bs is av) : VLs (fun k => k < bs.length) bs noL ps (av 0) := a.vl _ _ 0 (fun j hj => by omega) (fun j b hb => by rw [Nat.zero_add]; exact hb)
theorem Args.vrs (a : Args W vs' ps bs is av) : VRs (fun k => k < bs.length) (nm is) (av 0) vs' := a.vr _ _ 0 (fun j hj => by omega) (fun j i hi => nm_at hi)
end
theorem len1 {α : Type} {l : List α} (h : l.length = 1) : ∃ x0, l = [x0] := by
  match l, h with
  | [x0], _ => exact ⟨_, rfl⟩
theorem len2 {α : Type} {l : List α} (h : l.length = 2) : ∃ x0 x1, l = [x0, x1] := by
  match l, h with
  | [x0, x1], _ => exact ⟨_, _, rfl⟩
theorem len3 {α : Type} {l : List α} (h : l.length = 3) : ∃ x0 x1 x2, l = [x0, x1, x2] := by
  match l, h with
  | [x0, x1, x2], _ => exact ⟨_, _, _, rfl⟩
theorem len4 {α : Type} {l : List α} (h : l.length = 4) : ∃ x0 x1 x2 x3, l = [x0, x1, x2, x3] := by
  match l, h with
  | [x0, x1, x2, x3], _ => exact ⟨_, _, _, _, rfl⟩
theorem len5 {α : Type} {l : List α} (h : l.length = 5) : ∃ x0 x1 x2 x3 x4, l = [x0, x1, x2, x3, x4] := by
  match l, h with
  | [x0, x1, x2, x3, x4], _ => exact ⟨_, _, _, _, _, rfl⟩
theorem len6 {α : Type} {l : List α} (h : l.length = 6) : ∃ x0 x1 x2 x3 x4 x5, l = [x0, x1, x2, x3, x4, x5] := by
  match l, h with
  | [x0, x1, x2, x3, x4, x5], _ => exact ⟨_, _, _, _, _, _, rfl⟩
theorem len7 {α : Type} {l : List α} (h : l.length = 7) : ∃ x0 x1 x2 x3 x4 x5 x6, l = [x0, x1, x2, x3, x4, x5, x6] := by
  match l, h with
  | [x0, x1, x2, x3, x4, x5, x6], _ => exact ⟨_, _, _, _, _, _, _, rfl⟩
theorem len8 {α : Type} {l : List α} (h : l.length = 8) : ∃ x0 x1 x2 x3 x4 x5 x6 x7, l = [x0, x1, x2, x3, x4, x5, x6, x7] := by
  match l, h with
  | [x0, x1, x2, x3, x4, x5, x6, x7], _ => exact ⟨_, _, _, _, _, _, _, _, rfl⟩
theorem len9 {α : Type} {l : List α} (h : l.length = 9) : ∃ x0 x1 x2 x3 x4 x5 x6 x7 x8, l = [x0, x1, x2, x3, x4, x5, x6, x7, x8] := by
  match l, h with
  | [x0, x1, x2, x3, x4, x5, x6, x7, x8], _ => exact ⟨_, _, _, _, _, _, _, _, _, rfl⟩
theorem len10 {α : Type} {l : List α} (h : l.length = 10) : ∃ x0 x1 x2 x3 x4 x5 x6 x7 x8 x9, l = [x0, x1, x2, x3, x4, x5, x6, x7, x8, x9] := by
  match l, h with
  | [x0, x1, x2, x3, x4, x5, x6, x7, x8, x9], _ => exact ⟨_, _, _, _, _, _, _, _, _, _, rfl⟩
/-! ### arguments without names -/
def AtomV (c : Value) : Prop := isAtom c = true ∧ ∀ D m, VR D m c c
theorem atomV_int (k : IntKind) (n : Int) : AtomV (.int k n) := ⟨rfl, fun _ _ => .int _ _⟩
theorem Arg.atom {W : World} {v : Value} (h : AtomV v) : Arg W v (.v v) [] [] (fun _ => v) :=
  ⟨fun _ _ _ _ _ => h.2 _ _, fun _ _ _ _ _ => .v _ _ h.1, fun _ _ _ _ _ j b h => by simp at h, fun j b i h => by simp at h, rfl⟩
theorem Arg.agg {W : World} {l : List Value} (h : ∀ c ∈ l, AtomV c) : Arg W (.agg ⟨l⟩) (.agg (l.map .v)) [] [] (fun _ => .agg ⟨l⟩) := by
  refine ⟨fun _ _ _ _ _ => .agg _ _ rfl fun i v v' hv hv' => ?_, fun _ _ _ _ _ => .agg _ _ _ (by simp) fun i p x hp hx => ?_, fun _ _ _ _ _ j b h => by simp at h, fun j b i h => by simp at h, rfl⟩
  · obtain rfl : v = v' := Option.some.inj (hv.symm.trans hv')
    exact (h v (List.mem_of_getElem? hv)).2 _ _
  · rw [List.getElem?_map, hx] at hp
    obtain rfl := Option.some.inj hp
    exact .v _ _ (h x (List.mem_of_getElem? hx)).1
/-! ### a slice of rows -/
theorem flatMap_at {α β : Type} {g : α → List β} {es : Nat} (hg : ∀ x, (g x).length = es) (he : 0 < es) : ∀ (xs : List α) i, (xs.flatMap g)[i]? = (xs[i / es]?).bind fun x => (g x)[i % es]?
  | [], i => by simp
  | x :: t, i => by
    rw [List.flatMap_cons]
    rcases Nat.lt_or_ge i es with h | h
    · rw [List.getElem?_append_left (by rw [hg]; exact h), Nat.div_eq_of_lt h, Nat.mod_eq_of_lt h]
      rfl
    · rw [List.getElem?_append_right (by rw [hg]; exact h), hg, flatMap_at hg he t (i - es)]
      have e1 : i / es = (i - es) / es + 1 := by rw [Nat.div_eq_sub_div he h]
      have e2 : i % es = (i - es) % es := Nat.mod_eq_sub_mod h
      rw [e1, e2]
      rfl
theorem flatMap_len {α β : Type} {g : α → List β} {es : Nat} (hg : ∀ x, (g x).length = es) : ∀ (xs : List α), (xs.flatMap g).length = xs.length * es
  | [] => by simp
  | x :: t => by rw [List.flatMap_cons, List.length_append, hg, flatMap_len hg t, List.length_cons, Nat.add_mul]; omega
theorem flatMap_map {α : Type} {f : α → List TV} {g : α → List Value} (hf : ∀ x, f x = (g x).map .v) : ∀ (xs : List α), (xs.map f).flatten = (xs.flatMap g).map .v
  | [] => rfl
  | x :: t => by rw [List.map_cons, List.flatten_cons, flatMap_map hf t, List.flatMap_cons, List.map_append, hf]
theorem choose_list {α : Type} {Q : Nat → α → Prop} : ∀ n, (∀ i, i < n → ∃ x, Q i x) → ∃ xs : List α, xs.length = n ∧ ∀ (i : Nat) x, xs[i]? = some x → Q i x
  | 0, _ => ⟨[], rfl, fun i x h => by simp at h⟩
  | n + 1, h => by
    obtain ⟨xs, hl, hq⟩ := choose_list n (fun i hi => h i (by omega))
    obtain ⟨x, hx⟩ := h n (by omega)
    refine ⟨xs ++ [x], by simp [hl], fun i y hy => ?_⟩
    rcases Nat.lt_or_ge i n with hi | hi
    · rw [List.getElem?_append_left (by omega)] at hy
      exact hq i y hy
    · rw [List.getElem?_append_right (by omega), hl] at hy
      have : i = n := by
        rcases Nat.lt_or_ge 0 (i - n) with g | g
        · rw [List.getElem?_eq_none (by simp; omega)] at hy; cases hy
        · omega
      subst this
      simp at hy
      subst hy
      exact hx
section
variable {H : Type} {enc : TypeId × Value → H} {W : World} {base : Nat} {spare : Nat → Bool} {held : Bool}
theorem open_rows {α : Type} {f : α → List TV} {g : α → List Value} {es : Nat} (he : 0 < es) (hf : ∀ x, f x = (g x).map .v) (hg : ∀ x, (g x).length = es) (hat : ∀ x, ∀ c ∈ g x, AtomV c)
    {P : Program} {t te : TypeId} (ht : P.underlying t = some (.slice te)) (hC : P.cellsOf te = es) {r : Reach} {b0 : Nat} {v' : Value} (hval : Value.okWide P W r b0 t v')
    (elem : ∀ n cs y, DataW.trod enc P W base spare held n te cs = some y → cs.length = es → ∃ x : α, cs = g x)
    {fuel : Nat} {x : DataW H × List MemPlace} (h : DataW.trod enc P W base spare held fuel t [v'] = some x) : ∃ (xs : List α) (bs : List Blk) (is : List Info) (av : Nat → Value), Arg W v' (.list es (xs.map f)) bs is av := by
  rcases DataW.trod_slice ht h with ⟨hv, _⟩ | ⟨a, len, cap, elems, rest, n, _, hv, _, hb, hlc, hcm, hel, hel2, _, _⟩
  · obtain rfl : v' = .slice none 0 0 := by simpa using hv
    exact ⟨[], [], [], fun _ => .slice none 0 0, fun _ _ _ _ _ => .nilSlice 0 0, fun _ _ _ _ _ => .nillist _ _, fun _ _ _ _ _ j b h => by simp at h, fun j b i h => by simp at h, rfl⟩
  · obtain rfl : v' = .slice (some a) len cap := by simpa using hv
    have hok : len ≤ cap ∧ (cap : Int) ≤ IntKind.i64.max ∧ W.has P r b0 a te cap := by
      unfold Value.okWide at hval
      simp only [ht] at hval
      unfold Cell.okWide at hval
      simp only [ht] at hval
      unfold Cell.ok at hval
      simpa only [ht] using hval
    obtain ⟨gb, o, s⟩ := a
    obtain ⟨_, _, _, hs, row, cells, hsh, _⟩ := hok
    simp only at hs hsh
    subst hs
    have hgb : gb < W.heap.size := by
      unfold World.shape? at hsh
      rcases Nat.lt_or_ge gb W.heap.size with hg | hg
      · exact hg
      · rw [Array.getElem?_eq_none hg] at hsh
        simp at hsh
    have key : ∀ i, i < len → ∃ x : α, ∀ j, j < es → W.cell? ⟨gb, o + i * es + j, none⟩ = (g x)[j]? := fun i hi => by
      have h1 := hel2 i hi
      rw [List.getElem?_eq_getElem (by omega), Option.bind_eq_some_iff] at h1
      obtain ⟨cs, hcs, htr⟩ := h1
      rw [hC] at hcs
      unfold World.cells? at hcs
      split at hcs
      · have hlen := mapM_some_length hcs
        simp at hlen
        obtain ⟨x, rfl⟩ := elem n cs _ htr hlen
        refine ⟨x, fun j hj => ?_⟩
        have := mapM_some_get hcs j j (by simp [hj])
        have e : ((⟨gb, o, none⟩ : Addr).add (i * es)).add j = ⟨gb, o + i * es + j, none⟩ := by
          unfold Addr.add
          split <;> split <;> simp_all
        rw [← e]
        exact this
      · cases hcs
    obtain ⟨xs, hl, hq⟩ := choose_list len key
    subst hl
    have hlen := flatMap_len hg xs
    have hfl := flatMap_map hf xs
    refine ⟨xs, [.cells es (xs.flatMap g)], [⟨gb, o, cap * es, es⟩], fun n => .slice (some ⟨n, 0, none⟩) xs.length xs.length, fun D m n hD hm => ?_, fun Fz h n hF hh => ?_, fun D m n hD hm j b hb => ?_, fun j b i hb hi hd => ?_, rfl⟩
    · have e := hm 0 _ rfl
      rw [Nat.add_zero] at e
      have := VR.slice (D := D) (m := m) n 0 xs.length xs.length cap (hD 0 (by simp)) (Nat.le_refl _) hlc (.inr (by rw [e]; simp))
      rw [e] at this
      exact this
    · have hw : ∀ r ∈ xs.map f, r.length = es := fun r hr => by obtain ⟨x, _, rfl⟩ := List.mem_map.1 hr; rw [hf, List.length_map, hg]
      have := VL.list (Fz := Fz) (h := h) noL es (xs.map f) n 0 xs.length (xs.flatMap g) es (hF 0 (by simp)) (hh 0 _ rfl) (.inl rfl) hw (by simp) (by rw [List.length_map, hlen]; omega) (fun j p x hp hx => by
        rw [hfl, List.getElem?_map, Option.map_eq_some_iff] at hp
        rw [Nat.zero_add] at hx
        obtain ⟨y, h1, rfl⟩ := hp
        obtain rfl : y = x := Option.some.inj (h1.symm.trans hx)
        obtain ⟨z, _, hz⟩ := List.mem_flatMap.1 (List.mem_of_getElem? hx)
        exact .v _ _ (hat z y hz).1)
      rw [List.length_map] at this
      exact this
    · match j, hb with
      | 0, hb =>
        obtain rfl := Option.some.inj hb
        have e := hm 0 _ rfl
        rw [Nat.add_zero] at e ⊢
        refine ⟨by rw [e], fun i v hv => ⟨v, ?_, ?_⟩⟩
        · rw [flatMap_at hg he, Option.bind_eq_some_iff] at hv
          obtain ⟨x, hx, hv⟩ := hv
          rw [e]
          have := hq _ x hx (i % es) (Nat.mod_lt _ he)
          rw [Nat.add_assoc, Nat.mul_comm, Nat.div_add_mod] at this
          rw [this]
          exact hv
        · obtain ⟨z, _, hz⟩ := List.mem_flatMap.1 (List.mem_of_getElem? hv)
          exact (hat z v hz).2 _ _
      | j + 1, hb => simp at hb
    · match j, hb, hi with
      | 0, hb, hi => obtain rfl := Option.some.inj hi
                     exact hgb
      | j + 1, hb, hi => simp at hb
/-! ### aggregates of ints -/
def AI (cs : List Value) : Prop := ∀ c ∈ cs, ∃ n : Int, c = .int .i64 n
theorem AI.list {cs : List Value} (h : AI cs) : ∃ l : List Int, cs = l.map (.int .i64) := by
  induction cs with
  | nil => exact ⟨[], rfl⟩
  | cons c t ih =>
    obtain ⟨n, rfl⟩ := h c (by simp)
    obtain ⟨l, rfl⟩ := ih fun c hc => h c (by simp [hc])
    exact ⟨n :: l, rfl⟩
variable {P : Program}
theorem ai_int {te : TypeId} (ht : P.underlying te = some (.int .i64)) {fuel : Nat} {cs : List Value} {x : DataW H × List MemPlace} (h : DataW.trod enc P W base spare held fuel te cs = some x) : AI cs := by
  obtain ⟨n, rfl, _⟩ := DataW.trod_int ht h
  exact fun c hc => ⟨n, by simpa using hc⟩
theorem ai_arr {t e : TypeId} {m k : Nat} (ht : P.underlying t = some (.array m e)) (hk : P.cellsOf e = k) (hk0 : 0 < k) (hc : P.cellsOf t = m * k) (he : ∀ n cs y, DataW.trod enc P W base spare held n e cs = some y → AI cs)
    {fuel : Nat} {cs : List Value} {x : DataW H × List MemPlace} (h : DataW.trod enc P W base spare held fuel t cs = some x) : AI cs := by
  obtain ⟨xs, n, _, _, hl, hx, hi⟩ := DataW.trod_array ht h
  intro c hcm
  obtain ⟨j, hj, rfl⟩ := List.mem_iff_getElem.1 hcm
  rw [hl, hc] at hj
  have hd : j / k < m := (Nat.div_lt_iff_lt_mul hk0).2 hj
  have h1 := hi _ hd
  rw [List.getElem?_eq_getElem (by omega), hk] at h1
  refine he _ _ _ h1 _ ?_
  refine List.mem_of_getElem? (i := j % k) ?_
  rw [List.getElem?_take, if_pos (Nat.mod_lt _ hk0), List.getElem?_drop, Nat.mul_comm, Nat.div_add_mod, List.getElem?_eq_getElem]
theorem ai_struct {t : TypeId} {fs : Array Field} (ht : P.underlying t = some (.struct fs)) (hcov : ((List.range (P.cellsOf t)).all fun j => fs.toList.any fun f => decide (f.offset ≤ j) && decide (j < f.offset + P.cellsOf f.type)) = true) (he : ∀ f ∈ fs.toList, ∀ n cs y, DataW.trod enc P W base spare held n f.type cs = some y → AI cs)
    {fuel : Nat} {cs : List Value} {x : DataW H × List MemPlace} (h : DataW.trod enc P W base spare held fuel t cs = some x) : AI cs := by
  obtain ⟨xs, n, _, _, hl, hx, hi⟩ := DataW.trod_struct ht h
  intro c hcm
  obtain ⟨j, hj, rfl⟩ := List.mem_iff_getElem.1 hcm
  rw [hl] at hj
  have := List.all_eq_true.1 hcov j (by simpa using hj)
  obtain ⟨f, hf, hf2⟩ := List.any_eq_true.1 this
  simp only [Bool.and_eq_true, decide_eq_true_eq] at hf2
  obtain ⟨i, hil, hif⟩ := List.mem_iff_getElem.1 hf
  have hfi : fs[i]? = some f := by rw [← Array.getElem?_toList, List.getElem?_eq_getElem hil, hif]
  have h1 := hi i f hfi
  have hil2 : i < fs.size := by simpa using hil
  rw [List.getElem?_eq_getElem (by omega)] at h1
  refine he f hf _ _ _ h1 _ ?_
  refine List.mem_of_getElem? (i := j - f.offset) ?_
  rw [List.getElem?_take, if_pos (by omega), List.getElem?_drop, show f.offset + (j - f.offset) = j by omega, List.getElem?_eq_getElem]
theorem okW_int {t : TypeId} (ht : P.underlying t = some (.int .i64)) {r : Reach} {b : Nat} {v : Value} (w : Cell.okWide P W r b t v) : ∃ n : Int, v = .int .i64 n := by
  unfold Cell.okWide at w
  simp only [ht] at w
  unfold Cell.ok at w
  simp only [ht] at w
  cases v <;> first | exact ⟨_, by rw [w.1]⟩ | exact absurd w (by simp)
theorem open_int {t : TypeId} (ht : P.underlying t = some (.int .i64)) {r : Reach} {b : Nat} {v : Value} (w : Value.okWide P W r b t v) : ∃ n : Int, v = .int .i64 n := by
  unfold Value.okWide at w
  simp only [ht] at w
  exact okW_int ht w
theorem open_sti {t ti : TypeId} {fs : Array Field} {n : Nat} (ht : P.underlying t = some (.struct fs)) (hti : P.underlying ti = some (.int .i64)) (hct : P.cellTypes P.depth t = some (List.replicate n ti)) (hn : P.cellsOf t = n)
    {r : Reach} {b : Nat} {v : Value} (w : Value.okWide P W r b t v) : ∃ l : List Int, l.length = n ∧ v = .agg ⟨l.map (.int .i64)⟩ := by
  unfold Value.okWide at w
  simp only [ht] at w
  obtain ⟨cs, rfl, hs, ts, hts, _, hc⟩ := w
  rw [hct] at hts
  obtain rfl := Option.some.inj hts
  obtain ⟨l⟩ := cs
  have : AI l := by
    intro c hcm
    obtain ⟨j, hj, rfl⟩ := List.mem_iff_getElem.1 hcm
    obtain ⟨u, hu, hok⟩ := hc j l[j] (by simp)
    have := List.eq_of_mem_replicate (List.mem_of_getElem? hu)
    subst this
    exact okW_int hti hok
  obtain ⟨l', rfl⟩ := this.list
  refine ⟨l', ?_, rfl⟩
  simpa [hn] using hs
theorem open_ari {t ti e : TypeId} {k n : Nat} (ht : P.underlying t = some (.array k e)) (hti : P.underlying ti = some (.int .i64)) (hct : P.cellTypes P.depth t = some (List.replicate n ti)) (hn : P.cellsOf t = n)
    {r : Reach} {b : Nat} {v : Value} (w : Value.okWide P W r b t v) : ∃ l : List Int, l.length = n ∧ v = .agg ⟨l.map (.int .i64)⟩ := by
  unfold Value.okWide at w
  simp only [ht] at w
  obtain ⟨cs, rfl, hs, ts, hts, _, hc⟩ := w
  rw [hct] at hts
  obtain rfl := Option.some.inj hts
  obtain ⟨l⟩ := cs
  have : AI l := by
    intro c hcm
    obtain ⟨j, hj, rfl⟩ := List.mem_iff_getElem.1 hcm
    obtain ⟨u, hu, hok⟩ := hc j l[j] (by simp)
    have := List.eq_of_mem_replicate (List.mem_of_getElem? hu)
    subst this
    exact okW_int hti hok
  obtain ⟨l', rfl⟩ := this.list
  refine ⟨l', ?_, rfl⟩
  simpa [hn] using hs
theorem arg_ints (l : List Int) : Arg W (.agg ⟨l.map (.int .i64)⟩) (.agg (l.map fun x => .v (.int .i64 x))) [] [] (fun _ => .agg ⟨l.map (.int .i64)⟩) := by
  have := Arg.agg (W := W) (l := l.map (.int .i64)) fun c hc => by obtain ⟨x, _, rfl⟩ := List.mem_map.1 hc; exact atomV_int _ _
  rwa [List.map_map] at this
end
end Go.Rex
