/- What these functions return: facts on lists and numbers. -/
import Derived.Test.YtojekkfmnnoabaaTexR
import Derived.Test.YtojekkfmnnoabaaS
import Derived.Test.YtojekkfmnnoabaaTexU
import Derived.ProofKit
import Derived.OpenShut
import Derived.ShutString
import Derived.ChangeOld
import Derived.Below
import Derived.Lib.SmallJoins
import Derived.ChangeShapes
import Derived.ChangeArms
import Derived.WideShapes
set_option linter.unusedSimpArgs false
set_option linter.unusedVariables false
set_option linter.defProp false
namespace Go.Rex
/-! ### plain facts for shallow functions -/
theorem w64 {x : Int} (h : -9223372036854775808 ≤ x ∧ x ≤ 9223372036854775807) : IntKind.i64.wrap x = x := IntWalk.i64_in x (by omega)
/-- a loop that counts -/
theorem run_count {σ ε : Type} {step : σ → Option (σ ⊕ ε)} (f : Nat → σ) {n : Nat} {e : ε} (h : ∀ k, k < n → step (f k) = some (.inl (f (k + 1)))) (hn : step (f n) = some (.inr e)) : run step (f 0) = some e := by
  suffices H : ∀ j k, n - k = j → k ≤ n → run step (f k) = some e from H n 0 (by omega) (Nat.zero_le _)
  intro j
  induction j with
  | zero => intro k hj hk; obtain rfl : k = n := by omega
            exact run_stop hn
  | succ j ih => intro k hj hk; rw [run_next (h k (by omega))]; exact ih (k + 1) (by omega) (by omega)
/-- a loop that ends early -/
theorem run_until {σ ε : Type} {step : σ → Option (σ ⊕ ε)} (f : Nat → σ) {m : Nat} {e : ε} (h : ∀ k, k < m → step (f k) = some (.inl (f (k + 1)))) (hm : step (f m) = some (.inr e)) : run step (f 0) = some e := run_count f h hm
theorem getI_nat {α : Type} {xs : List α} {k : Nat} : getI xs (k : Int) = xs[k]? := by
  unfold getI
  rw [if_pos (by omega), Int.toNat_natCast]
theorem getI_of {α : Type} {xs : List α} {i : Int} {k : Nat} (h : i = (k : Int)) : getI xs i = xs[k]? := by subst h; exact getI_nat
theorem appI_one {α : Type} {b : Nat} {xs : List α} {y : α} (h : xs.length < 2 ^ 40) (hb : b ≤ 128) : appI b xs [y] = some (xs ++ [y]) := by
  unfold appI
  rw [if_pos]
  refine ⟨by simp; omega, ?_⟩
  have h1 : (xs.length + [y].length) * b ≤ 2 ^ 40 * 128 := Nat.mul_le_mul (by simp; omega) hb
  omega
end Go.Rex

namespace Go.Rex
/-! ### loops that look for the first one of a list -/
def firstOr {α ε : Type} (P : α → Bool) (ex : Nat → α → ε) (en : ε) : Nat → List α → ε
  | _, [] => en
  | k, x :: t => if P x = true then ex k x else firstOr P ex en (k + 1) t
theorem run_first_from {α σ ε : Type} {step : σ → Option (σ ⊕ ε)} (st : Nat → σ) (P : α → Bool) (ex : Nat → α → ε) (en : ε) :
    ∀ (xs ys : List α), (∀ (k : Nat) x, (ys ++ xs)[k]? = some x → step (st k) = some (if P x = true then .inr (ex k x) else .inl (st (k + 1)))) → step (st (ys ++ xs).length) = some (.inr en) → run step (st ys.length) = some (firstOr P ex en ys.length xs)
  | [], ys, _, he => by rw [List.append_nil] at he; exact run_stop he
  | x :: t, ys, hs, he => by
    have h1 := hs ys.length x (by simp)
    by_cases hp : P x = true
    · rw [if_pos hp] at h1
      rw [run_stop h1, firstOr, if_pos hp]
    · rw [if_neg hp] at h1
      rw [run_next h1, firstOr, if_neg hp]
      have := run_first_from st P ex en t (ys ++ [x]) (fun k y hk => hs k y (by simpa using hk)) (by simpa using he)
      simpa using this
theorem run_first {α σ ε : Type} {step : σ → Option (σ ⊕ ε)} (st : Nat → σ) (P : α → Bool) (ex : Nat → α → ε) (en : ε) (xs : List α) (hs : ∀ (k : Nat) x, xs[k]? = some x → step (st k) = some (if P x = true then .inr (ex k x) else .inl (st (k + 1)))) (he : step (st xs.length) = some (.inr en)) {s : σ} (h0 : s = st 0) : run step s = some (firstOr P ex en 0 xs) := by
  subst h0
  exact run_first_from st P ex en xs [] hs he
theorem firstOr_map {α β γ : Type} (f : β → γ) (P : α → Bool) (ex : Nat → α → β) (en : β) : ∀ (xs : List α) k, f (firstOr P ex en k xs) = firstOr P (fun k x => f (ex k x)) (f en) k xs
  | [], _ => rfl
  | x :: t, k => by
    unfold firstOr
    split
    · rfl
    · exact firstOr_map f P ex en t (k + 1)
theorem firstOr_all {α β : Type} (P : α → Bool) (c en : β) : ∀ (xs : List α) k, firstOr P (fun _ _ => c) en k xs = if (xs.all fun x => !P x) = true then en else c
  | [], _ => rfl
  | x :: t, k => by
    unfold firstOr
    rw [firstOr_all P c en t (k + 1)]
    cases h : P x <;> simp [h]
theorem firstOr_congr {α β : Type} {P Q : α → Bool} {ex ex' : Nat → α → β} {en : β} : ∀ (xs : List α) k, (∀ x, x ∈ xs → P x = Q x) → (∀ j x, x ∈ xs → P x = true → ex j x = ex' j x) → firstOr P ex en k xs = firstOr Q ex' en k xs
  | [], _, _, _ => rfl
  | x :: t, k, h1, h2 => by
    unfold firstOr
    rw [← h1 x (by simp), firstOr_congr t (k + 1) (fun y hy => h1 y (by simp [hy])) (fun j y hy => h2 j y (by simp [hy]))]
    split
    · rename_i hp
      exact h2 k x (by simp) hp
    · rfl
theorem bind_first {α σ ε β : Type} {step : σ → Option (σ ⊕ ε)} {s : σ} {F : ε → Option β} (st : Nat → σ) (P : α → Bool) (ex : Nat → α → ε) (en : ε) (xs : List α) (K : ε → β) (h0 : s = st 0) (hF : ∀ e, F e = some (K e)) (hs : ∀ (k : Nat) x, xs[k]? = some x → step (st k) = some (if P x = true then .inr (ex k x) else .inl (st (k + 1)))) (he : step (st xs.length) = some (.inr en)) :
    (run step s).bind F = some (firstOr P (fun k x => K (ex k x)) (K en) 0 xs) := by
  rw [run_first st P ex en xs hs he h0, Option.bind_some, hF, firstOr_map K]
/-! ### numbers -/
theorem wneg {x : Int} (h : -9223372036854775807 ≤ x ∧ x ≤ 9223372036854775807) : IntKind.i64.wrap (0 - x) = -x := by rw [w64 (by omega)]; omega
theorem wsucc {k : Nat} {n : Nat} (h : k ≤ n) (hn : n ≤ 2 ^ 62) : IntKind.i64.wrap ((k : Int) + 1) = ((k + 1 : Nat) : Int) := by rw [w64 (by omega)]; omega
theorem fsize_eq {x : Int} (h : -9223372036854775807 ≤ x ∧ x ≤ 9223372036854775807) : filter_size x = some (x.natAbs : Int) := by
  unfold filter_size
  rw [wneg h]
  split <;> (congr 1; omega)
theorem tmod_emod {x y : Int} (hy : 0 < y) : x.tmod y = if x.tmod y < 0 then x % y - y else x % y := by
  have h1 := Int.tmod_lt_of_pos x hy
  have h2 : -y < x.tmod y := by
    have h3 := Int.natAbs_tmod x y
    have h4 : (x.tmod y).natAbs < y.natAbs := by rw [h3]; exact Nat.mod_lt _ (by omega)
    omega
  have hdm := Int.tmod_add_mul_tdiv x y
  split
  · have : x % y = x.tmod y + y := by
      have e : x = (x.tmod y + y) + y * (x.tdiv y - 1) := by rw [Int.mul_sub, Int.mul_one]; omega
      rw [e, Int.add_mul_emod_self_left, Int.emod_eq_of_lt (by omega) (by omega)]
      rw [← e]
    omega
  · have : x % y = x.tmod y := by
      conv => lhs; rw [← hdm]
      rw [Int.add_mul_emod_self_left, Int.emod_eq_of_lt (by omega) (by omega)]
    omega
theorem ediv_le {x y b : Int} (hy : 0 < y) (hb : 0 ≤ b) (h : -b ≤ x ∧ x ≤ b) : -b ≤ x / y ∧ x / y ≤ b := by
  have h1 := Int.emod_add_mul_ediv x y
  have h2 := Int.emod_nonneg x (show y ≠ 0 by omega)
  have h3 := Int.emod_lt_of_pos x hy
  constructor
  · refine Int.le_ediv_of_mul_le hy ?_
    have : -b * y ≤ -b * 1 := Int.mul_le_mul_of_nonpos_left (by omega) (by omega)
    omega
  · refine Int.ediv_le_of_le_mul hy ?_
    have : b * 1 ≤ b * y := Int.mul_le_mul_of_nonneg_left (by omega) hb
    omega
theorem tdiv_ediv {x y : Int} (hy : 0 < y) : x.tdiv y = if x.tmod y < 0 then x / y + 1 else x / y := by
  have hdm := Int.tmod_add_mul_tdiv x y
  have h1 := Int.emod_add_mul_ediv x y
  have h2 := tmod_emod (x := x) hy
  refine Int.eq_of_mul_eq_mul_left (show y ≠ 0 by omega) ?_
  split
  · rename_i h
    rw [if_pos h] at h2
    rw [Int.mul_add, Int.mul_one]
    omega
  · rename_i h
    rw [if_neg h] at h2
    omega
/-! ### sections -/
def smallB (m x : Int) : Bool := decide (-m ≤ x ∧ x ≤ m)
theorem isSmall_eq {x m : Int} (hm : 0 ≤ m ∧ m ≤ 9223372036854775807) : filter_isSmall x m = some (smallB m x) := by
  unfold filter_isSmall smallB
  rw [wneg (by omega)]
  by_cases h : -m ≤ x <;> simp [h]
theorem within_eq (x a b : Int) : base_Within x a b = some (decide (a ≤ x ∧ x ≤ b)) := by
  unfold base_Within
  by_cases h : a ≤ x <;> simp [h]
theorem allSmall_eq (l : List Int) {m : Int} (hl : l.length ≤ 2 ^ 62) (hm : 0 ≤ m ∧ m ≤ 9223372036854775807) : filter_allSmall l m = some (if (l.all (smallB m)) = true then 0 else 2) := by
  unfold filter_allSmall
  refine (bind_first (fun k : Nat => (k : Int)) (fun x => !smallB m x) (fun _ _ => .inl ()) (.inr ()) l (Sum.elim (fun _ => 2) fun _ => 0) rfl (fun e => by rcases e with _ | _ <;> rfl) (fun k x hk => ?_) ?_).trans ?_
  · have hk2 := (List.getElem?_eq_some_iff.1 hk).1
    dsimp only [filter_allSmall_l1]
    rw [if_pos (by simpa using hk2), getI_nat, hk, Option.bind_some, isSmall_eq hm, Option.bind_some, wsucc (n := l.length) (by omega) hl]
    cases smallB m x <;> rfl
  · dsimp only [filter_allSmall_l1]
    rw [if_neg (by simp)]
  · simp only [Sum.elim_inl, Sum.elim_inr, firstOr_all, Bool.not_not]
theorem firstError_eq (l : List Int) (hl : l.length ≤ 2 ^ 62) : filter_firstError l = some (firstOr (fun x => decide (x ≠ 0)) (fun _ x => x) 0 0 l) := by
  unfold filter_firstError
  refine (bind_first (fun k : Nat => (k : Int)) (fun x => decide (x ≠ 0)) (fun _ x => .inl x) (.inr ()) l (Sum.elim id fun _ => 0) rfl (fun e => by rcases e with x | _ <;> rfl) (fun k x hk => ?_) ?_).trans rfl
  · have hk2 := (List.getElem?_eq_some_iff.1 hk).1
    dsimp only [filter_firstError_l1]
    rw [if_pos (by simpa using hk2), getI_nat, hk, Option.bind_some, wsucc (n := l.length) (by omega) hl]
    by_cases h : x = 0 <;> simp [h]
  · dsimp only [filter_firstError_l1]
    rw [if_neg (by simp)]
theorem refuse_eq (b : Bool) (e : Int) : filter_refuse b e = some (if b = true then e else 0) := by
  unfold filter_refuse
  cases b <;> rfl
theorem first2 (a b : Int) : filter_firstError [a, b] = some (if a ≠ 0 then a else b) := by
  rw [firstError_eq _ (by simp)]
  unfold firstOr firstOr firstOr
  by_cases h : a = 0 <;> by_cases h2 : b = 0 <;> simp [h, h2]
end Go.Rex

namespace Go.Rex
def secB (x : Int × Int × Int × Int × Int) : Bool := smallB 32768 x.1 && (smallB 32768 x.2.1 && (smallB 32768 x.2.2.1 && (smallB 32768 x.2.2.2.1 && smallB 32768 x.2.2.2.2)))
theorem secB_iff {a b c d e : Int} : secB (a, b, c, d, e) = true ↔ (-32768 ≤ a ∧ a ≤ 32768) ∧ (-32768 ≤ b ∧ b ≤ 32768) ∧ (-32768 ≤ c ∧ c ≤ 32768) ∧ (-32768 ≤ d ∧ d ≤ 32768) ∧ (-32768 ≤ e ∧ e ≤ 32768) := by
  simp [secB, smallB]
def secE (x : Int × Int × Int × Int × Int) : Int := if secB x = true then 0 else 2
theorem fsec_eq (a b c d e : Int) : filter_CheckSection a b c d e = some (secE (a, b, c, d, e)) := by
  unfold filter_CheckSection filter_coefficientsOf
  rw [Option.bind_some]
  dsimp only
  rw [allSmall_eq _ (by simp) (by omega)]
  simp only [Option.bind_some, secE, secB, List.all_cons, List.all_nil, Bool.and_true]
  rfl
theorem rsec_eq (a b c d e : Int) : ref06_CheckSection a b c d e = some (secE (a, b, c, d, e)) := by
  unfold ref06_CheckSection
  refine (bind_first (fun k : Nat => (k : Int)) (fun x => !smallB 32768 x) (fun _ _ => .inl ()) (.inr ()) [a, b, c, d, e] (Sum.elim (fun _ => 2) fun _ => 0) rfl (fun e => by rcases e with _ | _ <;> rfl) (fun k x hk => ?_) ?_).trans ?_
  · have hk2 := (List.getElem?_eq_some_iff.1 hk).1
    dsimp only [ref06_CheckSection_l1]
    simp only [List.length_cons, List.length_nil] at hk2
    rw [if_pos (by simp; omega), getI_nat, hk, Option.bind_some, within_eq, Option.bind_some, wsucc (n := 5) (by omega) (by omega)]
    unfold smallB
    cases (decide (-32768 ≤ x ∧ x ≤ 32768)) <;> rfl
  · dsimp only [ref06_CheckSection_l1]
    rw [if_neg (by simp)]
  · simp only [Sum.elim_inl, Sum.elim_inr, firstOr_all, Bool.not_not, secE, secB, List.all_cons, List.all_nil, Bool.and_true]
    rfl
end Go.Rex

namespace Go.Rex
/-- the error of a cascade, with its number -/
def casE (l : List (Int × Int × Int × Int × Int)) : Int × Int := if l.length > 6 then (0, 8) else firstOr (fun x => !secB x) (fun k _ => ((k : Int), 2)) (0, 0) 0 l
theorem fcas_eq (l : List (Int × Int × Int × Int × Int)) : filter_CheckCascade l = some (casE l) := by
  unfold filter_CheckCascade casE
  by_cases hl : l.length > 6
  · rw [if_pos (by simp; omega), if_pos hl]
  · rw [if_neg (by simp; omega), if_neg hl]
    refine (bind_first (fun k : Nat => (k : Int)) (fun x => !secB x) (fun k _ => .inl ((k : Int), (2 : Int))) (.inr ()) l (Sum.elim id fun _ => (0, 0)) rfl (fun e => by rcases e with ⟨x, y⟩ | _ <;> rfl) (fun k x hk => ?_) ?_).trans rfl
    · have hk2 := (List.getElem?_eq_some_iff.1 hk).1
      obtain ⟨a, b, c, d, e⟩ := x
      dsimp only [filter_CheckCascade_l1]
      rw [if_pos (by simpa using hk2), getI_nat, hk, Option.bind_some]
      dsimp only
      rw [fsec_eq, Option.bind_some, wsucc (n := l.length) (by omega) (by omega)]
      unfold secE
      cases secB (a, b, c, d, e) <;> rfl
    · dsimp only [filter_CheckCascade_l1]
      rw [if_neg (by simp)]
theorem rcas_eq (l : List (Int × Int × Int × Int × Int)) : ref06_CheckCascade l = some (casE l) := by
  unfold ref06_CheckCascade casE
  by_cases hl : l.length > 6
  · rw [if_pos (by simp; omega), if_pos hl]
  · rw [if_neg (by simp; omega), if_neg hl]
    refine (bind_first (fun k : Nat => (k : Int)) (fun x => !secB x) (fun k _ => .inl ((k : Int), (2 : Int))) (.inr ()) l (Sum.elim id fun _ => (0, 0)) rfl (fun e => by rcases e with ⟨x, y⟩ | _ <;> rfl) (fun k x hk => ?_) ?_).trans rfl
    · have hk2 := (List.getElem?_eq_some_iff.1 hk).1
      obtain ⟨a, b, c, d, e⟩ := x
      dsimp only [ref06_CheckCascade_l1]
      rw [if_pos (by simpa using hk2), getI_nat, hk, Option.bind_some]
      dsimp only
      rw [rsec_eq, Option.bind_some, wsucc (n := l.length) (by omega) (by omega)]
      unfold secE
      cases secB (a, b, c, d, e) <;> rfl
    · dsimp only [ref06_CheckCascade_l1]
      rw [if_neg (by simp)]
theorem casE_zero {l : List (Int × Int × Int × Int × Int)} (h : (casE l).2 = 0) : l.length ≤ 6 ∧ ∀ x, x ∈ l → secB x = true := by
  unfold casE at h
  split at h
  · cases h
  · rename_i hl
    refine ⟨by omega, ?_⟩
    have : ∀ (xs : List (Int × Int × Int × Int × Int)) k, (firstOr (fun x => !secB x) (fun k _ => ((k : Int), (2 : Int))) (0, 0) k xs).2 = 0 → ∀ x, x ∈ xs → secB x = true := by
      intro xs
      induction xs with
      | nil => intro k _ x hx; cases hx
      | cons y t ih =>
        intro k hk x hx
        unfold firstOr at hk
        cases hy : secB y with
        | false => simp [hy] at hk
        | true =>
          rw [if_neg (by simp [hy])] at hk
          rcases List.mem_cons.1 hx with rfl | hx
          · exact hy
          · exact ih _ hk x hx
    exact this l 0 h
theorem copy_eq {l : List (Int × Int × Int × Int × Int)} (h : l.length ≤ 1024) : ref06_Copy l = some l := by
  unfold ref06_Copy appI
  rw [if_pos (by simp; omega)]
  rfl
end Go.Rex

namespace Go.Rex
theorem bfloor_eq {x y : Int} (hy : 0 < y) (hx : -9223372036854775807 ≤ x ∧ x ≤ 9223372036854775807) : base_Floor x y = some (x / y) := by
  unfold base_Floor
  rw [if_neg (by omega)]
  have hb := ediv_le (x := x) (b := 9223372036854775807) hy (by omega) (by omega)
  have ht := tdiv_ediv (x := x) hy
  by_cases h : x.tmod y < 0
  · rw [if_pos h] at ht
    have hb2 : x < 0 := by
      rcases Int.lt_or_le x 0 with hx | hx
      · exact hx
      · have := Int.tmod_nonneg y hx; omega
    have hb3 : x / y < 0 := Int.ediv_neg_of_neg_of_pos hb2 hy
    rw [if_pos (by simpa using h), ht, w64 (x := x / y + 1) (by omega), w64 (by omega)]
    congr 1
    omega
  · rw [if_neg h] at ht
    rw [if_neg (by simpa using h), ht, w64 (by omega)]
end Go.Rex

namespace Go.Rex
theorem ffloor_eq {x y : Int} (hy : 0 < y) (hy2 : y ≤ 4611686018427387904) (hx : -4611686018427387904 ≤ x ∧ x ≤ 9223372036854775807) : filter_floor x y = some (x / y) := by
  unfold filter_floor
  rw [if_neg (by omega)]
  have hm := tmod_emod (x := x) hy
  have h2 := Int.emod_nonneg x (show y ≠ 0 by omega)
  have h3 := Int.emod_lt_of_pos x hy
  have h4 := Int.emod_add_mul_ediv x y
  have e : (IntKind.i64.wrap (x.tmod y + y)).tmod y = x % y := by
    rw [w64 (by split at hm <;> omega)]
    rw [Int.tmod_eq_emod_of_nonneg (by split at hm <;> omega)]
    split at hm
    · rw [hm, Int.sub_add_cancel, Int.emod_emod_of_dvd _ (Int.dvd_refl y)]
    · rw [hm, Int.add_emod_right, Int.emod_emod_of_dvd _ (Int.dvd_refl y)]
  rw [e, w64 (x := x - x % y) (by omega), show x - x % y = y * (x / y) by omega, Int.mul_tdiv_cancel_left _ (by omega)]
  have := ediv_le (x := x) (b := 9223372036854775807) hy (by omega) (by omega)
  rw [w64 (by omega)]
end Go.Rex

namespace Go.Rex
theorem fwithin_eq (x a b : Int) : filter_within x a b = some (if a ≤ x ∧ x ≤ b then 0 else 2) := by
  unfold filter_within
  simp only [refuse_eq, Option.bind_some, decide_eq_true_eq, if_true]
  split
  · split
    · omega
    · rfl
  · split
    · split
      · omega
      · rfl
    · split
      · rfl
      · omega
end Go.Rex

namespace Go.Rex
/-! ### products of 128 bits -/
theorem wu64 {x : Int} (h : 0 ≤ x ∧ x ≤ 18446744073709551615) : IntKind.u64.wrap x = x := IntWalk.u64_in x (by omega)
theorem shr32 {a : Int} (h : 0 ≤ a) : shI .shr .u64 a 32 = some (a / 4294967296) := by
  unfold shI
  rw [if_neg (by omega)]
  show some (a.fdiv (2 ^ 32)) = _
  rw [Int.fdiv_eq_ediv_of_nonneg _ (by omega)]
  rfl
theorem and32 {a : Int} (h : 0 ≤ a ∧ a ≤ 18446744073709551615) : bitI .and .u64 a 4294967295 = a % 4294967296 := by
  obtain ⟨n, rfl⟩ : ∃ n : Nat, a = n := ⟨a.toNat, by omega⟩
  unfold bitI
  show IntKind.u64.wrap (((BitVec.ofInt 64 (n : Int)) &&& (BitVec.ofInt 64 4294967295)).toNat : Int) = _
  have e : ((BitVec.ofInt 64 (n : Int)) &&& (BitVec.ofInt 64 4294967295)).toNat = n % 4294967296 := by
    rw [BitVec.toNat_and]
    have h1 : (BitVec.ofInt 64 (n : Int)).toNat = n := by
      rw [BitVec.toNat_ofInt]
      omega
    have h2 : (BitVec.ofInt 64 4294967295).toNat = 2 ^ 32 - 1 := by decide
    rw [h1, h2, Nat.and_two_pow_sub_one_eq_mod]
  rw [e, wu64 (by omega)]
  omega
theorem mul64_eq {a b : Int} (ha : 0 ≤ a ∧ a ≤ 9223372036854775807) (hb : 0 ≤ b ∧ b ≤ 9223372036854775807) : math_bits_Mul64 a b = some (a * b / 18446744073709551616, a * b % 18446744073709551616) := by
  unfold math_bits_Mul64
  have p1 := Int.mul_nonneg (Int.emod_nonneg a (show (4294967296 : Int) ≠ 0 by omega)) (Int.emod_nonneg b (show (4294967296 : Int) ≠ 0 by omega))
  have A0 := Int.emod_nonneg a (show (4294967296 : Int) ≠ 0 by omega)
  have A1 := Int.emod_lt_of_pos a (show (0 : Int) < 4294967296 by omega)
  have B0 := Int.emod_nonneg b (show (4294967296 : Int) ≠ 0 by omega)
  have B1 := Int.emod_lt_of_pos b (show (0 : Int) < 4294967296 by omega)
  have ea := Int.emod_add_mul_ediv a 4294967296
  have eb := Int.emod_add_mul_ediv b 4294967296
  rw [shr32 ha.1, shr32 hb.1, Option.bind_some, Option.bind_some, and32 (a := a) (by omega), and32 (a := b) (by omega)]
  generalize a % 4294967296 = a0 at *
  generalize b % 4294967296 = b0 at *
  have C0 : 0 ≤ a / 4294967296 := Int.ediv_nonneg ha.1 (by omega)
  have D0 : 0 ≤ b / 4294967296 := Int.ediv_nonneg hb.1 (by omega)
  generalize a / 4294967296 = a1 at *
  generalize b / 4294967296 = b1 at *
  have hm : a * b = a1 * b1 * 18446744073709551616 + (a1 * b0 + a0 * b1) * 4294967296 + a0 * b0 := by
    rw [← ea, ← eb]
    simp only [Int.add_mul, Int.mul_add]
    have x1 : 4294967296 * a1 * (4294967296 * b1) = a1 * b1 * 18446744073709551616 := by
      rw [Int.mul_assoc, Int.mul_left_comm a1, ← Int.mul_assoc]
      omega
    have x2 : a0 * (4294967296 * b1) = a0 * b1 * 4294967296 := by rw [Int.mul_left_comm]; omega
    have x3 : 4294967296 * a1 * b0 = a1 * b0 * 4294967296 := by rw [Int.mul_assoc]; omega
    rw [x1, x2, x3]
    omega
  have hA1 : a1 ≤ 2147483647 := by omega
  have hB1 : b1 ≤ 2147483647 := by omega
  have q00 : 0 ≤ a0 * b0 ∧ a0 * b0 ≤ 4294967295 * 4294967295 := ⟨Int.mul_nonneg A0 B0, Int.mul_le_mul (by omega) (by omega) B0 (by omega)⟩
  have q10 : 0 ≤ a1 * b0 ∧ a1 * b0 ≤ 2147483647 * 4294967295 := ⟨Int.mul_nonneg C0 B0, Int.mul_le_mul (by omega) (by omega) B0 (by omega)⟩
  have q01 : 0 ≤ a0 * b1 ∧ a0 * b1 ≤ 4294967295 * 2147483647 := ⟨Int.mul_nonneg A0 D0, Int.mul_le_mul (by omega) (by omega) D0 (by omega)⟩
  have q11 : 0 ≤ a1 * b1 ∧ a1 * b1 ≤ 2147483647 * 2147483647 := ⟨Int.mul_nonneg C0 D0, Int.mul_le_mul (by omega) (by omega) D0 (by omega)⟩
  have e0 : IntKind.u64.wrap (a * b) = a * b % 18446744073709551616 := by
    have := Int.emod_nonneg (a * b) (show (18446744073709551616 : Int) ≠ 0 by omega)
    have h2 := Int.emod_lt_of_pos (a * b) (show (0 : Int) < 18446744073709551616 by omega)
    show (a * b) % 18446744073709551616 = _
    rfl
  rw [e0, hm]
  generalize a0 * b0 = z00 at *
  generalize a1 * b0 = z10 at *
  generalize a0 * b1 = z01 at *
  generalize a1 * b1 = z11 at *
  rw [wu64 (x := z00) (by omega), shr32 (a := z00) (by omega), Option.bind_some, wu64 (x := z10) (by omega), wu64 (x := z10 + z00 / 4294967296) (by omega), shr32 (by omega), Option.bind_some, and32 (a := z10 + z00 / 4294967296) (by omega), wu64 (x := z01) (by omega), wu64 (x := (z10 + z00 / 4294967296) % 4294967296 + z01) (by omega), shr32 (by omega), Option.bind_some, wu64 (x := z11) (by omega), wu64 (x := z11 + (z10 + z00 / 4294967296) / 4294967296) (by omega), wu64 (by omega)]
  congr 1
  congr 1
  omega
theorem product_eq {a b : Int} (ha : 0 ≤ a ∧ a ≤ 9223372036854775807) (hb : 0 ≤ b ∧ b ≤ 9223372036854775807) : filter_product a b = some (a * b / 18446744073709551616, a * b % 18446744073709551616) := by
  unfold filter_product
  rw [wu64 (by omega), wu64 (by omega), mul64_eq ha hb]
  rfl
/-! ### comparing -/
def sgn (z : Int) : Int := if z < 0 then -1 else if z > 0 then 1 else 0
theorem sgn_mul {g z : Int} (hg : 0 < g) : sgn (g * z) = sgn z := by
  unfold sgn
  have h1 : g * z < 0 ↔ z < 0 := by
    constructor
    · intro h
      rcases Int.lt_or_le z 0 with hz | hz
      · exact hz
      · have := Int.mul_nonneg (by omega : 0 ≤ g) hz; omega
    · intro h; exact Int.mul_neg_of_pos_of_neg hg h
  have h2 : g * z > 0 ↔ z > 0 := by
    constructor
    · intro h
      rcases Int.lt_or_le 0 z with hz | hz
      · exact hz
      · have := Int.mul_nonpos_of_nonneg_of_nonpos (by omega : 0 ≤ g) hz; omega
    · intro h; exact Int.mul_pos hg h
  simp only [h1, h2]
theorem cmp64 (x y : Int) : cmp_Compare_uint64 x y = some (sgn (x - y)) := by
  unfold cmp_Compare_uint64 cmp_isNaN_uint64 sgn
  simp only [Option.bind_some, ne_eq, not_true, decide_false, Bool.false_eq_true, if_false]
  simp only [decide_eq_true_eq]
  split
  · rw [if_pos (by omega)]
  · split
    · rw [if_neg (by omega), if_pos (by omega)]
    · rw [if_neg (by omega), if_neg (by omega)]
theorem or2 (a b : Int) : cmp_Or_int [a, b] = some (if a ≠ 0 then a else b) := by
  unfold cmp_Or_int
  refine (bind_first (fun k : Nat => (k : Int)) (fun x => decide (x ≠ 0)) (fun _ x => .inl x) (.inr ()) [a, b] (Sum.elim id fun _ => 0) rfl (fun e => by rcases e with x | _ <;> rfl) (fun k x hk => ?_) ?_).trans ?_
  · have hk2 := (List.getElem?_eq_some_iff.1 hk).1
    dsimp only [cmp_Or_int_l1]
    simp only [List.length_cons, List.length_nil] at hk2
    rw [if_pos (by simp; omega), getI_nat, hk, Option.bind_some, wsucc (n := 2) (by omega) (by omega)]
    by_cases h : x = 0 <;> simp [h]
  · dsimp only [cmp_Or_int_l1]
    rw [if_neg (by simp)]
  · unfold firstOr firstOr firstOr
    by_cases h : a = 0 <;> by_cases h2 : b = 0 <;> simp [h, h2]
theorem wcmp_eq (X Y : Int) : filter_wide_compare (X / 18446744073709551616) (X % 18446744073709551616) (Y / 18446744073709551616) (Y % 18446744073709551616) = some (sgn (X - Y)) := by
  unfold filter_wide_compare
  rw [cmp64, cmp64, Option.bind_some, Option.bind_some, or2, Option.bind_some]
  unfold sgn
  congr 1
  split <;> split <;> (try split) <;> (try split) <;> (try split) <;> (try split) <;> omega
/-- comparing by whole parts -/
theorem bcmp_run : ∀ (s : Nat) (n d m k : Int), 0 ≤ n ∧ n ≤ 4611686018427387904 → 0 < d ∧ d ≤ 4611686018427387904 → 0 ≤ m ∧ m ≤ 4611686018427387904 → 0 < k ∧ k ≤ 4611686018427387904 → d + k = s → run base_Compare_l1 (n, d, m, k) = some (sgn (n * k - m * d)) := by
  intro s
  induction s using Nat.strongRecOn with
  | _ s ih =>
    intro n d m k hn hd hm hk hs
    have e1 := Int.emod_add_mul_ediv n d
    have e2 := Int.emod_add_mul_ediv m k
    have r1 := Int.emod_nonneg n (show d ≠ 0 by omega)
    have r2 := Int.emod_lt_of_pos n hd.1
    have r3 := Int.emod_nonneg m (show k ≠ 0 by omega)
    have r4 := Int.emod_lt_of_pos m hk.1
    have p0 : 0 ≤ n / d := Int.ediv_nonneg hn.1 (by omega)
    have q0 : 0 ≤ m / k := Int.ediv_nonneg hm.1 (by omega)
    have d1 : d * (n / d) = n - n % d := by omega
    have d2 : k * (m / k) = m - m % k := by omega
    have step : base_Compare_l1 (n, d, m, k) = if decide (n / d < m / k) = true then some (.inr (-1)) else if decide (n / d > m / k) = true then some (.inr 1) else if decide (n % d = 0) = true then (if decide (m % k = 0) = true then some (.inr 0) else some (.inr (-1))) else if decide (m % k = 0) = true then some (.inr 1) else some (.inl (k, m % k, d, n % d)) := by
      dsimp only [base_Compare_l1]
      rw [bfloor_eq hd.1 (by omega), bfloor_eq hk.1 (by omega), Option.bind_some, Option.bind_some, Int.mul_comm (n / d) d, Int.mul_comm (m / k) k, d1, d2, w64 (x := n - n % d) (by omega), w64 (x := m - m % k) (by omega), w64 (x := n - (n - n % d)) (by omega), w64 (x := m - (m - m % k)) (by omega), show n - (n - n % d) = n % d by omega, show m - (m - m % k) = m % k by omega]
    have hz : n * k - m * d = d * k * (n / d - m / k) + (n % d * k - m % k * d) := by
      have h1 : n * k = d * k * (n / d) + n % d * k := by
        conv => lhs; rw [← e1]
        rw [Int.add_mul, Int.mul_right_comm, Int.add_comm]
      have h2 : m * d = d * k * (m / k) + m % k * d := by
        conv => lhs; rw [← e2]
        rw [Int.add_mul, Int.mul_right_comm, Int.add_comm, Int.mul_comm k d]
      rw [h1, h2, Int.mul_sub]
      omega
    have t1 : 0 ≤ n % d * k := Int.mul_nonneg r1 (by omega)
    have t2 : 0 ≤ m % k * d := Int.mul_nonneg r3 (by omega)
    have t3 : n % d * k < d * k := Int.mul_lt_mul_of_pos_right r2 hk.1
    have t4 : m % k * d < d * k := by rw [Int.mul_comm d k]; exact Int.mul_lt_mul_of_pos_right r4 hd.1
    have t5 : 0 < d * k := Int.mul_pos hd.1 hk.1
    by_cases c1 : n / d < m / k
    · rw [if_pos (by simpa using c1)] at step
      rw [run_stop step]
      have h : d * k * (n / d - m / k) ≤ d * k * (-1) := Int.mul_le_mul_of_nonneg_left (by omega) (by omega)
      unfold sgn
      rw [if_pos (by omega)]
    · rw [if_neg (by simpa using c1)] at step
      by_cases c2 : n / d > m / k
      · rw [if_pos (by simpa using c2)] at step
        rw [run_stop step]
        have h : d * k * 1 ≤ d * k * (n / d - m / k) := Int.mul_le_mul_of_nonneg_left (by omega) (by omega)
        unfold sgn
        rw [if_neg (by omega), if_pos (by omega)]
      · rw [if_neg (by simpa using c2)] at step
        have hz2 : n * k - m * d = n % d * k - m % k * d := by
          rw [hz, show n / d - m / k = 0 by omega, Int.mul_zero, Int.zero_add]
        rw [hz2]
        by_cases c3 : n % d = 0
        · rw [if_pos (by simpa using c3)] at step
          by_cases c4 : m % k = 0
          · rw [if_pos (by simpa using c4)] at step
            rw [run_stop step, c3, c4]
            simp [sgn]
          · rw [if_neg (by simpa using c4)] at step
            have := Int.mul_pos (show 0 < m % k by omega) hd.1
            rw [run_stop step, c3, Int.zero_mul]
            unfold sgn
            rw [if_pos (by omega)]
        · rw [if_neg (by simpa using c3)] at step
          have h5 := Int.mul_pos (show 0 < n % d by omega) hk.1
          by_cases c4 : m % k = 0
          · rw [if_pos (by simpa using c4)] at step
            rw [run_stop step, c4, Int.zero_mul]
            unfold sgn
            rw [if_neg (by omega), if_pos (by omega)]
          · rw [if_neg (by simpa using c4)] at step
            rw [run_next step, ih (m % k + n % d).toNat (by omega) k (m % k) d (n % d) (by omega) (by omega) (by omega) (by omega) (by omega), Int.mul_comm k, Int.mul_comm d]

theorem bcmp_eq {n d m k : Int} (hn : 0 ≤ n ∧ n ≤ 4611686018427387904) (hd : 0 < d ∧ d ≤ 4611686018427387904) (hm : 0 ≤ m ∧ m ≤ 4611686018427387904) (hk : 0 < k ∧ k ≤ 4611686018427387904) : base_Compare n d m k = some (sgn (n * k - m * d)) := by
  unfold base_Compare
  rw [bcmp_run (d + k).toNat n d m k hn hd hm hk (by omega)]
  rfl
theorem pcmp_eq {n d m k : Int} (hn : 0 ≤ n ∧ n ≤ 4611686018427387904) (hd : 0 < d ∧ d ≤ 4611686018427387904) (hm : 0 ≤ m ∧ m ≤ 4611686018427387904) (hk : 0 < k ∧ k ≤ 4611686018427387904) :
    ((filter_product n k).bind fun (a, b) => (filter_product m d).bind fun (c, e) => filter_wide_compare a b c e) = some (sgn (n * k - m * d)) := by
  rw [product_eq (by omega) (by omega), Option.bind_some]
  dsimp only
  rw [product_eq (by omega) (by omega), Option.bind_some]
  exact wcmp_eq _ _
/-! ### squares -/
def sqr (a b c p q r : Int) : Int := (a * (p * p - q * q) + b * p * r + c * r * r) * (a * (p * p - q * q) + b * p * r + c * r * r) + (2 * a * p * q + b * q * r) * (2 * a * p * q + b * q * r)
theorem mulb {a b : Int} {A B : Nat} (ha : -(A : Int) ≤ a ∧ a ≤ A) (hb : -(B : Int) ≤ b ∧ b ≤ B) : -((A * B : Nat) : Int) ≤ a * b ∧ a * b ≤ ((A * B : Nat) : Int) := by
  have : (a * b).natAbs ≤ A * B := by rw [Int.natAbs_mul]; exact Nat.mul_le_mul (by omega) (by omega)
  omega
theorem sqr_eq {a b c p q r : Int} (ha : -32768 ≤ a ∧ a ≤ 32768) (hb : -32768 ≤ b ∧ b ≤ 32768) (hc : -32768 ≤ c ∧ c ≤ 32768) (hp : -100 ≤ p ∧ p ≤ 100) (hq : -100 ≤ q ∧ q ≤ 100) (hr : -100 ≤ r ∧ r ≤ 100) :
    ref06_square a b c p q r = some (sqr a b c p q r) ∧ 0 ≤ sqr a b c p q r ∧ sqr a b c p q r ≤ 2305843009213693952 := by
  have pp := mulb (A := 100) (B := 100) hp hp
  have qq := mulb (A := 100) (B := 100) hq hq
  have pp0 : 0 ≤ p * p := by rw [← Int.natAbs_mul_self]; omega
  have qq0 : 0 ≤ q * q := by rw [← Int.natAbs_mul_self]; omega
  have x1 := mulb (A := 32768) (B := 10000) (a := a) (b := p * p - q * q) (by omega) (by omega)
  have x2 := mulb (A := 32768) (B := 100) (a := b) (b := p) (by omega) (by omega)
  have x3 := mulb (A := 3276800) (B := 100) (a := b * p) (b := r) (by omega) (by omega)
  have x4 := mulb (A := 32768) (B := 100) (a := c) (b := r) (by omega) (by omega)
  have x5 := mulb (A := 3276800) (B := 100) (a := c * r) (b := r) (by omega) (by omega)
  have y1 := mulb (A := 65536) (B := 100) (a := 2 * a) (b := p) (by omega) (by omega)
  have y2 := mulb (A := 6553600) (B := 100) (a := 2 * a * p) (b := q) (by omega) (by omega)
  have y3 := mulb (A := 32768) (B := 100) (a := b) (b := q) (by omega) (by omega)
  have y4 := mulb (A := 3276800) (B := 100) (a := b * q) (b := r) (by omega) (by omega)
  have z1 := mulb (A := 983040000) (B := 983040000) (a := a * (p * p - q * q) + b * p * r + c * r * r) (b := a * (p * p - q * q) + b * p * r + c * r * r) (by omega) (by omega)
  have z2 := mulb (A := 983040000) (B := 983040000) (a := 2 * a * p * q + b * q * r) (b := 2 * a * p * q + b * q * r) (by omega) (by omega)
  have z3 : 0 ≤ (a * (p * p - q * q) + b * p * r + c * r * r) * (a * (p * p - q * q) + b * p * r + c * r * r) := by rw [← Int.natAbs_mul_self]; omega
  have z4 : 0 ≤ (2 * a * p * q + b * q * r) * (2 * a * p * q + b * q * r) := by rw [← Int.natAbs_mul_self]; omega
  refine ⟨?_, by unfold sqr; omega, by unfold sqr; omega⟩
  unfold ref06_square sqr
  rw [w64 (x := p * p) (by omega), w64 (x := q * q) (by omega), w64 (x := p * p - q * q) (by omega), w64 (x := a * (p * p - q * q)) (by omega), w64 (x := b * p) (by omega), w64 (x := b * p * r) (by omega), w64 (x := a * (p * p - q * q) + b * p * r) (by omega), w64 (x := c * r) (by omega), w64 (x := c * r * r) (by omega), w64 (x := a * (p * p - q * q) + b * p * r + c * r * r) (by omega), w64 (x := 2 * a) (by omega), w64 (x := 2 * a * p) (by omega), w64 (x := 2 * a * p * q) (by omega), w64 (x := b * q) (by omega), w64 (x := b * q * r) (by omega), w64 (x := 2 * a * p * q + b * q * r) (by omega),
    w64 (x := (a * (p * p - q * q) + b * p * r + c * r * r) * (a * (p * p - q * q) + b * p * r + c * r * r)) (by omega), w64 (x := (2 * a * p * q + b * q * r) * (2 * a * p * q + b * q * r)) (by omega), w64 (by omega)]
theorem sqr_opp (a b c p q r : Int) : sqr a b c p (-q) r = sqr a b c p q r := by
  unfold sqr
  have h1 : -q * -q = q * q := Int.neg_mul_neg q q
  have h2 : 2 * a * p * -q + b * -q * r = -(2 * a * p * q + b * q * r) := by
    rw [Int.mul_neg, Int.mul_neg, Int.neg_mul]
    omega
  rw [h1, h2, Int.neg_mul_neg]
theorem fsq (a b c p q r : Int) : filter_sizeSquared a b c p q r = ref06_square a b c p q r := rfl
/-! ### turns -/
def trE (p q r : Int) : Int := if 1 ≤ r ∧ r ≤ 100 then (if (-r ≤ p ∧ p ≤ r) ∧ (-r ≤ q ∧ q ≤ r) ∧ p * p + q * q = r * r then 0 else 10) else 2
theorem isSmall_some (x m : Int) : ∃ b, filter_isSmall x m = some b := by
  unfold filter_isSmall
  split <;> exact ⟨_, rfl⟩
theorem first2' {a : Int} (h : a ≠ 0) (b : Int) : filter_firstError [a, b] = some a := by rw [first2, if_pos h]
theorem sq_w {p r : Int} (hr : 1 ≤ r ∧ r ≤ 100) (hp : -r ≤ p ∧ p ≤ r) : IntKind.i64.wrap (p * p) = p * p ∧ 0 ≤ p * p ∧ p * p ≤ 10000 := by
  have pp := mulb (A := 100) (B := 100) (a := p) (b := p) (by omega) (by omega)
  have pp0 : 0 ≤ p * p := by rw [← Int.natAbs_mul_self]; omega
  exact ⟨w64 (by omega), pp0, by omega⟩
theorem fturn_eq (p q r : Int) : filter_turnError p q r = some (trE p q r) := by
  unfold filter_turnError trE
  by_cases hr : 1 ≤ r ∧ r ≤ 100
  · rw [if_pos hr, isSmall_eq (by omega), isSmall_eq (by omega), fwithin_eq, if_pos hr]
    simp only [Option.bind_some, refuse_eq, first2]
    by_cases hp : -r ≤ p ∧ p ≤ r
    · have b1 : smallB r p = true := by unfold smallB; rw [decide_eq_true_eq]; exact hp
      rw [b1, if_pos rfl]
      by_cases hq : -r ≤ q ∧ q ≤ r
      · have b2 : smallB r q = true := by unfold smallB; rw [decide_eq_true_eq]; exact hq
        obtain ⟨p1, p2, p3⟩ := sq_w hr hp
        obtain ⟨q1, q2, q3⟩ := sq_w hr hq
        obtain ⟨r1, r2, r3⟩ := sq_w (p := r) hr (by omega)
        rw [b2, if_pos rfl, p1, q1, r1, w64 (x := p * p + q * q) (by omega)]
        by_cases h : p * p + q * q = r * r <;> simp [h, hp, hq]
      · have b2 : smallB r q = false := by unfold smallB; rw [decide_eq_false_iff_not]; exact hq
        have nq : ¬ ((-r ≤ p ∧ p ≤ r) ∧ (-r ≤ q ∧ q ≤ r) ∧ p * p + q * q = r * r) := fun h => hq h.2.1
        rw [b2, if_neg nq]
        simp
    · have b1 : smallB r p = false := by unfold smallB; rw [decide_eq_false_iff_not]; exact hp
      have np : ¬ ((-r ≤ p ∧ p ≤ r) ∧ (-r ≤ q ∧ q ≤ r) ∧ p * p + q * q = r * r) := fun h => hp h.1
      rw [b1, if_neg np]
      simp
  · rw [if_neg hr, fwithin_eq, if_neg hr]
    obtain ⟨b1, h1⟩ := isSmall_some p r
    obtain ⟨b2, h2⟩ := isSmall_some q r
    rw [h1, h2]
    simp only [Option.bind_some, refuse_eq, first2' (show (2 : Int) ≠ 0 by omega)]
    cases b1 <;> cases b2 <;> rfl
theorem rturn_eq (p q r : Int) : ref06_TurnErr p q r = some (trE p q r) := by
  unfold ref06_TurnErr trE
  rw [within_eq, Option.bind_some]
  by_cases hr : 1 ≤ r ∧ r ≤ 100
  · rw [if_pos (by rw [decide_eq_true_eq]; exact hr), if_pos hr, wneg (by omega), within_eq, within_eq, Option.bind_some, Option.bind_some]
    by_cases hp : -r ≤ p ∧ p ≤ r
    · rw [if_pos (by rw [decide_eq_true_eq]; exact hp)]
      by_cases hq : -r ≤ q ∧ q ≤ r
      · obtain ⟨p1, p2, p3⟩ := sq_w hr hp
        obtain ⟨q1, q2, q3⟩ := sq_w hr hq
        obtain ⟨r1, r2, r3⟩ := sq_w (p := r) hr (by omega)
        rw [if_pos (by rw [decide_eq_true_eq]; exact hq), p1, q1, r1, w64 (x := p * p + q * q) (by omega)]
        by_cases h : p * p + q * q = r * r <;> simp [h, hp, hq]
      · rw [if_neg (by rw [decide_eq_true_eq]; exact hq), if_neg (fun h => hq h.2.1)]
    · rw [if_neg (by rw [decide_eq_true_eq]; exact hp), if_neg (fun h => hp h.1)]
  · rw [if_neg (by rw [decide_eq_true_eq]; exact hr), if_neg hr]
end Go.Rex

namespace Go.Rex
/-! ### how many bits a number has -/
def lenT (x : Nat) : Nat := if x = 0 then 0 else if x < 2 then 1 else if x < 4 then 2 else if x < 8 then 3 else if x < 16 then 4 else if x < 32 then 5 else if x < 64 then 6 else if x < 128 then 7 else 8
theorem tab_all : ((List.range 256).all fun x => strI txt_c95356 (x : Int) == some ((lenT x : Nat) : Int)) = true := by decide +kernel
theorem tab_eq {x : Nat} (h : x < 256) : strI txt_c95356 (x : Int) = some ((lenT x : Nat) : Int) := by
  have := List.all_eq_true.1 tab_all x (List.mem_range.2 h)
  exact eq_of_beq this
theorem lenT_le (x : Nat) : lenT x ≤ 8 := by
  unfold lenT
  repeat (first | omega | split)
theorem lenT_pow {x : Nat} (h : x < 256) (h0 : 0 < x) : 2 ^ lenT x ≤ 2 * x ∧ x < 2 ^ lenT x := by
  unfold lenT
  repeat (first | omega | (split; · first | (exact absurd ‹_› (by omega)) | (constructor <;> omega)))

theorem shr_eq {a : Int} {k : Nat} (h : 0 ≤ a) (hk : k ≤ 64) : shI .shr .u64 a (k : Int) = some (a / 2 ^ k) := by
  unfold shI
  rw [if_neg (by omega)]
  show some (a.fdiv (2 ^ (min (k : Int).toNat 64))) = _
  rw [Int.toNat_natCast, Nat.min_eq_left hk, Int.fdiv_eq_ediv_of_nonneg _ (Int.le_of_lt (Int.pow_pos (by omega)))]
theorem shl_eq {a : Int} {k : Nat} (hk : k ≤ 64) : shI .shl .u64 a (k : Int) = some (IntKind.u64.wrap (a * 2 ^ k)) := by
  unfold shI
  rw [if_neg (by omega)]
  show some (IntKind.u64.wrap (a * 2 ^ (min (k : Int).toNat 64))) = _
  rw [Int.toNat_natCast, Nat.min_eq_left hk]
theorem len_leaf {s x : Nat} (hx : x < 256) (hs : s ≤ 56) : ((strI txt_c95356 (IntKind.u8.wrap (x : Int))).bind fun v => some (IntKind.i64.wrap ((s : Int) + IntKind.i64.wrap v))) = some ((s + lenT x : Nat) : Int) := by
  have := lenT_le x
  have e : IntKind.u8.wrap (x : Int) = x := IntWalk.u8_in _ (by omega)
  rw [e, tab_eq hx, Option.bind_some, w64 (x := (lenT x : Int)) (by omega), w64 (by omega), ← Int.natCast_add]
theorem len_fin {n s x : Nat} (hx : x = n / 2 ^ s) (h0 : 0 < x) (h : x < 256) : n < 2 ^ (s + lenT x) ∧ 2 ^ (s + lenT x) ≤ 2 * n := by
  obtain ⟨h1, h2⟩ := lenT_pow h h0
  have hp : 0 < 2 ^ s := Nat.two_pow_pos s
  have hm := Nat.div_add_mod n (2 ^ s)
  have hl := Nat.mod_lt n hp
  rw [← hx] at hm
  rw [Nat.pow_add]
  generalize 2 ^ s = P at *
  constructor
  · have : P * (x + 1) ≤ P * 2 ^ lenT x := Nat.mul_le_mul_left _ h2
    rw [Nat.mul_add] at this
    omega
  · have : P * 2 ^ lenT x ≤ P * (2 * x) := Nat.mul_le_mul_left _ h1
    rw [Nat.mul_left_comm] at this
    omega
theorem shN {n k : Nat} (hk : k ≤ 64) : shI .shr .u64 (n : Int) (k : Int) = some ((n / 2 ^ k : Nat) : Int) := by
  rw [shr_eq (by omega) hk]
  congr 1
theorem len_eq {n : Nat} (h0 : 0 < n) (hn : n < 2 ^ 63) : ∃ L : Nat, math_bits_Len64 (n : Int) = some (L : Int) ∧ L ≤ 63 ∧ n < 2 ^ L ∧ 2 ^ L ≤ 2 * n := by
  suffices H : ∃ L : Nat, math_bits_Len64 (n : Int) = some (L : Int) ∧ n < 2 ^ L ∧ 2 ^ L ≤ 2 * n by
    obtain ⟨L, l1, l2, l3⟩ := H
    refine ⟨L, l1, ?_, l2, l3⟩
    rcases Nat.lt_or_ge 63 L with h | h
    · have : 2 ^ 64 ≤ 2 ^ L := Nat.pow_le_pow_right (by omega) h
      omega
    · exact h
  have q32 := shN (n := n) (k := 32) (by omega)
  have q16 := shN (n := n) (k := 16) (by omega)
  have q8 := shN (n := n) (k := 8) (by omega)
  have q3216 := shN (n := n / 2 ^ 32) (k := 16) (by omega)
  have q328 := shN (n := n / 2 ^ 32) (k := 8) (by omega)
  have q168 := shN (n := n / 2 ^ 16) (k := 8) (by omega)
  have q32168 := shN (n := n / 2 ^ 32 / 2 ^ 16) (k := 8) (by omega)
  have z32 : ((32 : Nat) : Int) = 32 := rfl
  have z16 : ((16 : Nat) : Int) = 16 := rfl
  have z8 : ((8 : Nat) : Int) = 8 := rfl
  rw [z32] at q32
  rw [z16] at q16 q3216
  rw [z8] at q8 q328 q168 q32168
  have d1 : n / 2 ^ 32 / 2 ^ 16 = n / 2 ^ 48 := by rw [Nat.div_div_eq_div_mul]
  have d2 : n / 2 ^ 32 / 2 ^ 8 = n / 2 ^ 40 := by rw [Nat.div_div_eq_div_mul]
  have d3 : n / 2 ^ 16 / 2 ^ 8 = n / 2 ^ 24 := by rw [Nat.div_div_eq_div_mul]
  have d4 : n / 2 ^ 32 / 2 ^ 16 / 2 ^ 8 = n / 2 ^ 56 := by rw [d1, Nat.div_div_eq_div_mul]
  unfold math_bits_Len64
  by_cases c1 : 4294967296 ≤ n
  · rw [if_pos (by rw [decide_eq_true_eq]; omega), q32, Option.bind_some]
    by_cases c2 : 65536 ≤ n / 2 ^ 32
    · rw [if_pos (by rw [decide_eq_true_eq]; omega), q3216, Option.bind_some]
      by_cases c3 : 256 ≤ n / 2 ^ 32 / 2 ^ 16
      · rw [if_pos (by rw [decide_eq_true_eq]; omega), q32168, Option.bind_some, d4]
        exact ⟨_, len_leaf (s := 56) (by omega) (by omega), len_fin rfl (by omega) (by omega)⟩
      · rw [if_neg (by rw [decide_eq_true_eq]; omega), d1]
        exact ⟨_, len_leaf (s := 48) (by omega) (by omega), len_fin rfl (by omega) (by omega)⟩
    · rw [if_neg (by rw [decide_eq_true_eq]; omega)]
      by_cases c3 : 256 ≤ n / 2 ^ 32
      · rw [if_pos (by rw [decide_eq_true_eq]; omega), q328, Option.bind_some, d2]
        exact ⟨_, len_leaf (s := 40) (by omega) (by omega), len_fin rfl (by omega) (by omega)⟩
      · rw [if_neg (by rw [decide_eq_true_eq]; omega)]
        exact ⟨_, len_leaf (s := 32) (by omega) (by omega), len_fin rfl (by omega) (by omega)⟩
  · rw [if_neg (by rw [decide_eq_true_eq]; omega)]
    by_cases c2 : 65536 ≤ n
    · rw [if_pos (by rw [decide_eq_true_eq]; omega), q16, Option.bind_some]
      by_cases c3 : 256 ≤ n / 2 ^ 16
      · rw [if_pos (by rw [decide_eq_true_eq]; omega), q168, Option.bind_some, d3]
        exact ⟨_, len_leaf (s := 24) (by omega) (by omega), len_fin rfl (by omega) (by omega)⟩
      · rw [if_neg (by rw [decide_eq_true_eq]; omega)]
        exact ⟨_, len_leaf (s := 16) (by omega) (by omega), len_fin rfl (by omega) (by omega)⟩
    · rw [if_neg (by rw [decide_eq_true_eq]; omega)]
      by_cases c3 : 256 ≤ n
      · rw [if_pos (by rw [decide_eq_true_eq]; omega), q8, Option.bind_some]
        exact ⟨_, len_leaf (s := 8) (by omega) (by omega), len_fin rfl (by omega) (by omega)⟩
      · rw [if_neg (by rw [decide_eq_true_eq]; omega)]
        exact ⟨_, len_leaf (s := 0) (by omega) (by omega), len_fin (by simp) (by omega) (by omega)⟩
/-! ### a quotient's digit -/
section
variable {σ : Type} {step : σ → Option (σ ⊕ Int)} {st : Int → Int → σ} {u d a b : Int}
theorem digit_run (ha : 2147483648 ≤ a ∧ a < 4294967296) (hb : 0 ≤ b ∧ b < 4294967296) (hu : 0 ≤ u ∧ u < a * 4294967296 + b) (hd : 0 ≤ d ∧ d < 4294967296)
    (hs : ∀ q r : Int, 0 ≤ q → 0 ≤ r → r < 4294967296 → (q < 4294967296 ∨ 1 ≤ q) → q ≤ 17179869184 → step (st q r) = if q ≥ 4294967296 ∨ q * b > 4294967296 * r + d then (if r + a ≥ 4294967296 then some (.inr (q - 1)) else some (.inl (st (q - 1) (r + a)))) else some (.inr q)) :
    ∀ (n : Nat) (q r : Int), q.toNat = n → 0 ≤ r → r < 4294967296 → r = u - q * a → (u * 4294967296 + d) / (a * 4294967296 + b) ≤ q → q ≤ 17179869184 → run step (st q r) = some ((u * 4294967296 + d) / (a * 4294967296 + b)) := by
  have hY : 0 < a * 4294967296 + b := by omega
  have e1 := Int.emod_add_mul_ediv (u * 4294967296 + d) (a * 4294967296 + b)
  have e2 := Int.emod_nonneg (u * 4294967296 + d) (show a * 4294967296 + b ≠ 0 by omega)
  have e3 := Int.emod_lt_of_pos (u * 4294967296 + d) hY
  have q0 : 0 ≤ (u * 4294967296 + d) / (a * 4294967296 + b) := Int.ediv_nonneg (by omega) (by omega)
  have qlt : (u * 4294967296 + d) / (a * 4294967296 + b) < 4294967296 := Int.ediv_lt_of_lt_mul hY (by omega)
  generalize (u * 4294967296 + d) / (a * 4294967296 + b) = Q at *
  have exp : ∀ q : Int, (a * 4294967296 + b) * q = 4294967296 * (q * a) + q * b := by
    intro q
    rw [Int.add_mul, Int.mul_comm b q, Int.mul_right_comm, Int.mul_comm a q, Int.mul_comm _ 4294967296]
  have up : ∀ q : Int, (a * 4294967296 + b) * q ≤ u * 4294967296 + d → q ≤ Q := by
    intro q h
    have h2 : (a * 4294967296 + b) * q < (a * 4294967296 + b) * (Q + 1) := by rw [Int.mul_add, Int.mul_one]; omega
    have := Int.lt_of_mul_lt_mul_left h2 (by omega)
    omega
  have dn : ∀ q : Int, u * 4294967296 + d < (a * 4294967296 + b) * q → Q < q := by
    intro q h
    have h2 : (a * 4294967296 + b) * Q < (a * 4294967296 + b) * q := by omega
    exact Int.lt_of_mul_lt_mul_left h2 (by omega)
  intro n
  induction n with
  | zero =>
    intro q r hn h0 h1 hr hQ hq
    have hz : q = 0 := by omega
    subst hz
    have h := hs 0 r (by omega) h0 h1 (by omega) (by omega)
    rw [if_neg (by simp only [Int.zero_mul]; omega)] at h
    rw [run_stop h]
    congr 1
    omega
  | succ n ih =>
    intro q r hn h0 h1 hr hQ hq
    have h := hs q r (by omega) h0 h1 (by omega) hq
    by_cases hc : q ≥ 4294967296 ∨ q * b > 4294967296 * r + d
    · rw [if_pos hc] at h
      have hlt : Q < q := by
        rcases hc with hc | hc
        · omega
        · refine dn q ?_
          rw [exp]
          omega
      have hr2 : r + a = u - (q - 1) * a := by rw [Int.sub_mul, Int.one_mul]; omega
      by_cases hx : r + a ≥ 4294967296
      · rw [if_pos hx] at h
        rw [run_stop h]
        have hsm : q - 1 < 4294967296 := by
          refine Classical.byContradiction fun hcon => ?_
          have : 4294967296 * a ≤ (q - 1) * a := Int.mul_le_mul_of_nonneg_right (by omega) (by omega)
          omega
        have hp : (q - 1) * b ≤ 4294967295 * 4294967295 := Int.mul_le_mul (by omega) (by omega) hb.1 (by omega)
        have : q - 1 ≤ Q := by
          refine up (q - 1) ?_
          rw [exp]
          omega
        congr 1
        omega
      · rw [if_neg hx] at h
        rw [run_next h]
        exact ih (q - 1) (r + a) (by omega) (by omega) (by omega) hr2 (by omega) (by omega)
    · rw [if_neg hc] at h
      rw [run_stop h]
      have : q ≤ Q := by
        refine up q ?_
        rw [exp]
        omega
      congr 1
      omega
end
end Go.Rex

namespace Go.Rex
theorem w64u (x : Int) : IntKind.u64.wrap x = x % 18446744073709551616 := rfl
theorem or_add {h l s : Nat} (hl : l < 2 ^ s) (hb : h * 2 ^ s + l < 2 ^ 64) : bitI .or .u64 ((h * 2 ^ s : Nat) : Int) (l : Int) = ((h * 2 ^ s + l : Nat) : Int) := by
  unfold bitI
  show IntKind.u64.wrap (((BitVec.ofInt 64 ((h * 2 ^ s : Nat) : Int)) ||| (BitVec.ofInt 64 (l : Int))).toNat : Int) = _
  have e : ((BitVec.ofInt 64 ((h * 2 ^ s : Nat) : Int)) ||| (BitVec.ofInt 64 (l : Int))).toNat = h * 2 ^ s + l := by
    rw [BitVec.toNat_or, BitVec.toNat_ofInt, BitVec.toNat_ofInt]
    generalize hA : h * 2 ^ s = A at *
    have h1 : ((A : Int) % ((2 ^ 64 : Nat) : Int)).toNat = A := by omega
    have h2 : ((l : Int) % ((2 ^ 64 : Nat) : Int)).toNat = l := by omega
    rw [h1, h2, ← hA, ← Nat.shiftLeft_eq, Nat.shiftLeft_add_eq_or_of_lt hl]
  rw [e, wu64 (by omega)]
theorem lead_eq {n : Nat} (h0 : 0 < n) (hn : n < 2 ^ 63) : ∃ s : Nat, math_bits_LeadingZeros64 (n : Int) = some (s : Int) ∧ 1 ≤ s ∧ s ≤ 63 ∧ 2 ^ 63 ≤ n * 2 ^ s ∧ n * 2 ^ s < 2 ^ 64 := by
  obtain ⟨L, l1, l2, l3, l4⟩ := len_eq h0 hn
  have hL : 1 ≤ L := by
    rcases Nat.eq_zero_or_pos L with h | h
    · subst h; simp at l3; omega
    · exact h
  refine ⟨64 - L, ?_, by omega, by omega, ?_⟩
  · unfold math_bits_LeadingZeros64
    rw [l1, Option.bind_some, w64 (by omega)]
    congr 1
    omega
  · have hp : 0 < 2 ^ (64 - L) := Nat.two_pow_pos _
    have e : 2 ^ L * 2 ^ (64 - L) = 2 ^ 64 := by rw [← Nat.pow_add]; congr 1; omega
    constructor
    · have : 2 ^ L * 2 ^ (64 - L) ≤ 2 * n * 2 ^ (64 - L) := Nat.mul_le_mul_right _ l4
      rw [e, Nat.mul_assoc] at this
      omega
    · have : n * 2 ^ (64 - L) < 2 ^ L * 2 ^ (64 - L) := Nat.mul_lt_mul_of_pos_right l3 hp
      rwa [e] at this
/-- the two digits -/
theorem digits {Y U W N P y : Int} (hY : 9223372036854775808 ≤ Y ∧ Y < 18446744073709551616) (hU : 0 ≤ U ∧ U < Y) (hW : 0 ≤ W ∧ W < 18446744073709551616) (hP : 0 < P) (hy : 0 < y) (hYP : Y = y * P) (hN : N * P = U * 18446744073709551616 + W) :
    ((run (math_bits_Div64_l1 Y (Y / 4294967296) (W / 4294967296)) (U / (Y / 4294967296), U - U / (Y / 4294967296) * (Y / 4294967296))) = some ((U * 4294967296 + W / 4294967296) / Y)) ∧
    ((run (math_bits_Div64_l2 Y (Y / 4294967296) W) ((U * 4294967296 + W / 4294967296) % Y - (U * 4294967296 + W / 4294967296) % Y / (Y / 4294967296) * (Y / 4294967296), (U * 4294967296 + W / 4294967296) % Y / (Y / 4294967296))) = some (((U * 4294967296 + W / 4294967296) % Y * 4294967296 + W % 4294967296) / Y)) ∧
    (U * 4294967296 + W / 4294967296) / Y * 4294967296 + ((U * 4294967296 + W / 4294967296) % Y * 4294967296 + W % 4294967296) / Y = N / y ∧ ((U * 4294967296 + W / 4294967296) % Y * 4294967296 + W % 4294967296) % Y / P = N % y ∧
    0 ≤ (U * 4294967296 + W / 4294967296) / Y ∧ (U * 4294967296 + W / 4294967296) / Y < 4294967296 ∧ 0 ≤ ((U * 4294967296 + W / 4294967296) % Y * 4294967296 + W % 4294967296) / Y ∧ ((U * 4294967296 + W / 4294967296) % Y * 4294967296 + W % 4294967296) / Y < 4294967296 := by
  have hYs : Y = Y / 4294967296 * 4294967296 + Y % 4294967296 := by omega
  have hY0 : 0 < Y := by omega
  have init : ∀ u d : Int, 0 ≤ u → u < Y → 0 ≤ d → d < 4294967296 → (u * 4294967296 + d) / Y ≤ u / (Y / 4294967296) ∧ u / (Y / 4294967296) ≤ 17179869184 ∧ 0 ≤ u - u / (Y / 4294967296) * (Y / 4294967296) ∧ u - u / (Y / 4294967296) * (Y / 4294967296) < 4294967296 ∧ 0 ≤ u / (Y / 4294967296) := by
    intro u d h0 h1 h2 h3
    have ha : 0 < Y / 4294967296 := by omega
    have k1 := Int.emod_add_mul_ediv (u * 4294967296 + d) Y
    have k2 := Int.emod_nonneg (u * 4294967296 + d) (show Y ≠ 0 by omega)
    have m1 := Int.emod_add_mul_ediv u (Y / 4294967296)
    have m2 := Int.emod_nonneg u (show Y / 4294967296 ≠ 0 by omega)
    have m3 := Int.emod_lt_of_pos u ha
    have k0 : 0 ≤ (u * 4294967296 + d) / Y := Int.ediv_nonneg (by omega) (by omega)
    rw [Int.mul_comm (Y / 4294967296)] at m1
    refine ⟨?_, ?_, by omega, by omega, Int.ediv_nonneg h0 (by omega)⟩
    · refine Int.le_ediv_of_mul_le ha ?_
      generalize (u * 4294967296 + d) / Y = Q at *
      have e : Y * Q = Q * (Y / 4294967296) * 4294967296 + Q * (Y % 4294967296) := by
        conv => lhs; rw [hYs]
        rw [Int.mul_comm, Int.mul_add, Int.mul_assoc]
      have : 0 ≤ Q * (Y % 4294967296) := Int.mul_nonneg k0 (by omega)
      omega
    · refine Int.ediv_le_of_le_mul ha ?_
      have : 17179869184 * 2147483648 ≤ 17179869184 * (Y / 4294967296) := Int.mul_le_mul_of_nonneg_left (by omega) (by omega)
      omega
  have g1 := Int.emod_add_mul_ediv (U * 4294967296 + W / 4294967296) Y
  have g2 := Int.emod_nonneg (U * 4294967296 + W / 4294967296) (show Y ≠ 0 by omega)
  have g3 := Int.emod_lt_of_pos (U * 4294967296 + W / 4294967296) hY0
  have q1lt : (U * 4294967296 + W / 4294967296) / Y < 4294967296 := Int.ediv_lt_of_lt_mul hY0 (by omega)
  have q10 : 0 ≤ (U * 4294967296 + W / 4294967296) / Y := Int.ediv_nonneg (by omega) (by omega)
  have D1 := digit_run (step := math_bits_Div64_l1 Y (Y / 4294967296) (W / 4294967296)) (st := fun q r => (q, r)) (u := U) (d := W / 4294967296) (a := Y / 4294967296) (b := Y % 4294967296) (by omega) (by omega) (by omega) (by omega) (by
    intro q r p1 p2 p3 p4 p5
    dsimp only [math_bits_Div64_l1]
    rw [and32 (by omega), wu64 (x := r + Y / 4294967296) (by omega)]
    by_cases hc : q ≥ 4294967296
    · have hor : q ≥ 4294967296 ∨ q * (Y % 4294967296) > 4294967296 * r + W / 4294967296 := .inl hc
      rw [if_pos (by rw [decide_eq_true_eq]; exact hc), if_pos hor, wu64 (x := q - 1) (by omega)]
      simp only [decide_eq_true_eq]
    · have m : q * (Y % 4294967296) ≤ 4294967295 * 4294967295 := Int.mul_le_mul (by omega) (by omega) (by omega) (by omega)
      have m0 : 0 ≤ q * (Y % 4294967296) := Int.mul_nonneg p1 (by omega)
      rw [if_neg (by rw [decide_eq_true_eq]; exact hc), wu64 (x := q * (Y % 4294967296)) (by omega), wu64 (x := 4294967296 * r) (by omega), wu64 (x := 4294967296 * r + W / 4294967296) (by omega)]
      by_cases hd : q * (Y % 4294967296) > 4294967296 * r + W / 4294967296
      · have q1 : 1 ≤ q := by
          rcases Int.lt_or_le 0 q with h | h
          · omega
          · have : q = 0 := by omega
            subst this
            rw [Int.zero_mul] at hd
            omega
        have hor : q ≥ 4294967296 ∨ q * (Y % 4294967296) > 4294967296 * r + W / 4294967296 := .inr hd
        rw [if_pos (by rw [decide_eq_true_eq]; exact hd), if_pos hor, wu64 (x := q - 1) (by omega)]
        simp only [decide_eq_true_eq]
      · have nor : ¬ (q ≥ 4294967296 ∨ q * (Y % 4294967296) > 4294967296 * r + W / 4294967296) := fun h => h.elim hc hd
        rw [if_neg (by rw [decide_eq_true_eq]; exact hd), if_neg nor])
  obtain ⟨i1, i2, i3, i4, i5⟩ := init U (W / 4294967296) hU.1 hU.2 (by omega) (by omega)
  have R1 := D1 _ (U / (Y / 4294967296)) (U - U / (Y / 4294967296) * (Y / 4294967296)) rfl i3 i4 rfl (by rw [← hYs]; exact i1) i2
  rw [← hYs] at R1
  clear D1
  generalize (U * 4294967296 + W / 4294967296) / Y = Q1 at *
  generalize (U * 4294967296 + W / 4294967296) % Y = V at *
  have f1 := Int.emod_add_mul_ediv (V * 4294967296 + W % 4294967296) Y
  have f2 := Int.emod_nonneg (V * 4294967296 + W % 4294967296) (show Y ≠ 0 by omega)
  have f3 := Int.emod_lt_of_pos (V * 4294967296 + W % 4294967296) hY0
  have q0lt : (V * 4294967296 + W % 4294967296) / Y < 4294967296 := Int.ediv_lt_of_lt_mul hY0 (by omega)
  have q00 : 0 ≤ (V * 4294967296 + W % 4294967296) / Y := Int.ediv_nonneg (by omega) (by omega)
  have D2 := digit_run (step := math_bits_Div64_l2 Y (Y / 4294967296) W) (st := fun q r => (r, q)) (u := V) (d := W % 4294967296) (a := Y / 4294967296) (b := Y % 4294967296) (by omega) (by omega) (by omega) (by omega) (by
    intro q r p1 p2 p3 p4 p5
    dsimp only [math_bits_Div64_l2]
    rw [and32 (a := Y) (by omega), and32 (a := W) (by omega), wu64 (x := r + Y / 4294967296) (by omega)]
    by_cases hc : q ≥ 4294967296
    · have hor : q ≥ 4294967296 ∨ q * (Y % 4294967296) > 4294967296 * r + W % 4294967296 := .inl hc
      rw [if_pos (by rw [decide_eq_true_eq]; exact hc), if_pos hor, wu64 (x := q - 1) (by omega)]
      simp only [decide_eq_true_eq]
    · have m : q * (Y % 4294967296) ≤ 4294967295 * 4294967295 := Int.mul_le_mul (by omega) (by omega) (by omega) (by omega)
      have m0 : 0 ≤ q * (Y % 4294967296) := Int.mul_nonneg p1 (by omega)
      rw [if_neg (by rw [decide_eq_true_eq]; exact hc), wu64 (x := q * (Y % 4294967296)) (by omega), wu64 (x := 4294967296 * r) (by omega), wu64 (x := 4294967296 * r + W % 4294967296) (by omega)]
      by_cases hd : q * (Y % 4294967296) > 4294967296 * r + W % 4294967296
      · have q1 : 1 ≤ q := by
          rcases Int.lt_or_le 0 q with h | h
          · omega
          · have : q = 0 := by omega
            subst this
            rw [Int.zero_mul] at hd
            omega
        have hor : q ≥ 4294967296 ∨ q * (Y % 4294967296) > 4294967296 * r + W % 4294967296 := .inr hd
        rw [if_pos (by rw [decide_eq_true_eq]; exact hd), if_pos hor, wu64 (x := q - 1) (by omega)]
        simp only [decide_eq_true_eq]
      · have nor : ¬ (q ≥ 4294967296 ∨ q * (Y % 4294967296) > 4294967296 * r + W % 4294967296) := fun h => h.elim hc hd
        rw [if_neg (by rw [decide_eq_true_eq]; exact hd), if_neg nor])
  obtain ⟨j1, j2, j3, j4, j5⟩ := init V (W % 4294967296) g2 g3 (by omega) (by omega)
  have R2 := D2 _ (V / (Y / 4294967296)) (V - V / (Y / 4294967296) * (Y / 4294967296)) rfl j3 j4 rfl (by rw [← hYs]; exact j1) j2
  rw [← hYs] at R2
  clear D2
  generalize (V * 4294967296 + W % 4294967296) / Y = Q0 at *
  generalize (V * 4294967296 + W % 4294967296) % Y = R at *
  have tot : N * P = (Q1 * 4294967296 + Q0) * y * P + R := by
    rw [Int.mul_assoc, ← hYP, Int.add_mul, Int.mul_right_comm, Int.mul_comm Q1 Y, Int.mul_comm Q0 Y]
    omega
  have hR : R = (N - (Q1 * 4294967296 + Q0) * y) * P := by rw [Int.sub_mul]; omega
  have hz : 0 ≤ N - (Q1 * 4294967296 + Q0) * y := by
    refine Classical.byContradiction fun hc => ?_
    have : (N - (Q1 * 4294967296 + Q0) * y) * P ≤ (-1) * P := Int.mul_le_mul_of_nonneg_right (by omega) (by omega)
    omega
  have hz2 : N - (Q1 * 4294967296 + Q0) * y < y := by
    rw [hYP] at f3
    rw [hR] at f3
    exact Int.lt_of_mul_lt_mul_right f3 (by omega)
  have hNy : N / y = Q1 * 4294967296 + Q0 := by
    have e : N = (N - (Q1 * 4294967296 + Q0) * y) + y * (Q1 * 4294967296 + Q0) := by rw [Int.mul_comm y]; omega
    rw [e, Int.add_mul_ediv_left _ _ (by omega), Int.ediv_eq_zero_of_lt hz hz2, Int.zero_add]
  have hNm : N % y = N - (Q1 * 4294967296 + Q0) * y := by
    have := Int.emod_add_mul_ediv N y
    rw [hNy, Int.mul_comm y] at this
    omega
  refine ⟨R1, R2, hNy.symm, ?_, q10, q1lt, q00, q0lt⟩
  rw [hNm]
  rw [hR, Int.mul_ediv_cancel _ (by omega)]


theorem wsub {A d z V : Int} (h : V = A + d - z) (hV : 0 ≤ V ∧ V < 18446744073709551616) : IntKind.u64.wrap (IntKind.u64.wrap (IntKind.u64.wrap A + d) - IntKind.u64.wrap z) = V := by
  simp only [w64u]
  omega
theorem part_b {U a : Int} (hU : 0 ≤ U ∧ U < 18446744073709551616) (ha : 0 < a) : IntKind.u64.wrap (U.tdiv a) = U / a ∧ IntKind.u64.wrap (U - IntKind.u64.wrap (U / a * a)) = U - U / a * a := by
  have h1 := ediv_le (x := U) (y := a) (b := 18446744073709551615) ha (by omega) (by omega)
  have h0 : 0 ≤ U / a := Int.ediv_nonneg hU.1 (by omega)
  have m1 := Int.emod_add_mul_ediv U a
  have m2 := Int.emod_nonneg U (show a ≠ 0 by omega)
  have m3 : 0 ≤ U / a * a := Int.mul_nonneg h0 (by omega)
  rw [Int.mul_comm a] at m1
  refine ⟨by rw [Int.tdiv_eq_ediv_of_nonneg hU.1, wu64 (by omega)], ?_⟩
  rw [wu64 (x := U / a * a) (by omega), wu64 (by omega)]
theorem eqsub {a b c : Int} (h : a + b = c) : a = c - b := by omega
theorem div_core {Y U W Q1 V Q0 R : Int} {s : Nat} (hs : s ≤ 64) (bY : 9223372036854775808 ≤ Y ∧ Y < 18446744073709551616) (bU : 0 ≤ U ∧ U < Y) (bW : 0 ≤ W ∧ W < 18446744073709551616) (bV : 0 ≤ V ∧ V < Y) (bR : 0 ≤ R ∧ R < Y) (b1 : 0 ≤ Q1 ∧ Q1 < 4294967296) (b0 : 0 ≤ Q0 ∧ Q0 < 4294967296)
    (e1 : V = U * 4294967296 + W / 4294967296 - Q1 * Y) (e2 : R = V * 4294967296 + W % 4294967296 - Q0 * Y)
    (r1 : run (math_bits_Div64_l1 Y (Y / 4294967296) (W / 4294967296)) (U / (Y / 4294967296), U - U / (Y / 4294967296) * (Y / 4294967296)) = some Q1) (r2 : run (math_bits_Div64_l2 Y (Y / 4294967296) W) (V - V / (Y / 4294967296) * (Y / 4294967296), V / (Y / 4294967296)) = some Q0) :
    (if Y / 4294967296 = 0 then none else
        ((run (math_bits_Div64_l1 Y (Y / 4294967296) (W / 4294967296)) ((IntKind.u64.wrap (U.tdiv (Y / 4294967296))), (IntKind.u64.wrap (U - (IntKind.u64.wrap ((IntKind.u64.wrap (U.tdiv (Y / 4294967296))) * (Y / 4294967296))))))).bind fun v16 =>
        (run (math_bits_Div64_l2 Y (Y / 4294967296) W) ((IntKind.u64.wrap ((IntKind.u64.wrap ((IntKind.u64.wrap ((IntKind.u64.wrap (U * 4294967296)) + (W / 4294967296))) - (IntKind.u64.wrap (v16 * Y)))) - (IntKind.u64.wrap ((IntKind.u64.wrap ((IntKind.u64.wrap ((IntKind.u64.wrap ((IntKind.u64.wrap (U * 4294967296)) + (W / 4294967296))) - (IntKind.u64.wrap (v16 * Y)))).tdiv (Y / 4294967296))) * (Y / 4294967296))))), (IntKind.u64.wrap ((IntKind.u64.wrap ((IntKind.u64.wrap ((IntKind.u64.wrap (U * 4294967296)) + (W / 4294967296))) - (IntKind.u64.wrap (v16 * Y)))).tdiv (Y / 4294967296))))).bind fun v20 =>
        (shI .shr .u64 (IntKind.u64.wrap ((IntKind.u64.wrap ((IntKind.u64.wrap ((IntKind.u64.wrap ((IntKind.u64.wrap ((IntKind.u64.wrap (U * 4294967296)) + (W / 4294967296))) - (IntKind.u64.wrap (v16 * Y)))) * 4294967296)) + (bitI .and .u64 W 4294967295))) - (IntKind.u64.wrap (v20 * Y)))) (s : Int)).bind fun v21 =>
        some ((IntKind.u64.wrap ((IntKind.u64.wrap (v16 * 4294967296)) + v20)), v21))) = some (Q1 * 4294967296 + Q0, R / 2 ^ s) := by
  obtain ⟨p1, p2⟩ := part_b (U := U) (a := Y / 4294967296) (by omega) (by omega)
  obtain ⟨p3, p4⟩ := part_b (U := V) (a := Y / 4294967296) (by omega) (by omega)
  have k1 := wsub e1 (by omega)
  have k2 := wsub e2 (by omega)
  rw [if_neg (by omega), p1, p2, r1, Option.bind_some, k1, p3, p4, r2, Option.bind_some, and32 (by omega), k2, shr_eq bR.1 hs, Option.bind_some, wu64 (x := Q1 * 4294967296) (by omega), wu64 (x := Q1 * 4294967296 + Q0) (by omega)]
theorem div64_eq {hi lo y : Nat} (hy : 0 < y ∧ y < 2 ^ 63) (hhi : hi < y) (hlo : lo < 2 ^ 64) : math_bits_Div64 (hi : Int) (lo : Int) (y : Int) = some (((hi : Int) * 18446744073709551616 + lo) / y, ((hi : Int) * 18446744073709551616 + lo) % y) := by
  unfold math_bits_Div64
  rw [if_neg (by rw [decide_eq_true_eq]; omega), if_neg (by rw [decide_eq_true_eq]; omega)]
  by_cases hz : hi = 0
  · subst hz
    rw [if_pos (by rw [decide_eq_true_eq]; rfl), if_neg (by omega), Int.tdiv_eq_ediv_of_nonneg (by omega), Int.tmod_eq_emod_of_nonneg (by omega)]
    have h1 := ediv_le (x := (lo : Int)) (y := (y : Int)) (b := 18446744073709551615) (by omega) (by omega) (by omega)
    have h2 : (0 : Int) ≤ (lo : Int) / y := Int.ediv_nonneg (by omega) (by omega)
    rw [wu64 (by omega)]
    simp
  · rw [if_neg (by rw [decide_eq_true_eq]; omega)]
    obtain ⟨s, s1, s2, s3, s4, s5⟩ := lead_eq hy.1 hy.2
    have hP : 0 < 2 ^ s := Nat.two_pow_pos s
    have hT : 0 < 2 ^ (64 - s) := Nat.two_pow_pos _
    have hPT : 2 ^ s * 2 ^ (64 - s) = 2 ^ 64 := by rw [← Nat.pow_add]; congr 1; omega
    have sx : IntKind.u64.wrap (s : Int) = s := wu64 (by omega)
    have sy : IntKind.u64.wrap (64 - (s : Int)) = ((64 - s : Nat) : Int) := by rw [wu64 (by omega)]; omega
    have cP : ((2 : Int) ^ s) = ((2 ^ s : Nat) : Int) := by rw [Int.natCast_pow]; rfl
    have hHP : hi * 2 ^ s < 2 ^ 64 := Nat.lt_of_le_of_lt (Nat.mul_le_mul_right _ (Nat.le_of_lt hhi)) s5
    have hl : lo / 2 ^ (64 - s) < 2 ^ s := by
      rw [Nat.div_lt_iff_lt_mul hT, hPT]
      exact hlo
    have hUY : hi * 2 ^ s + lo / 2 ^ (64 - s) < y * 2 ^ s := by
      have : (hi + 1) * 2 ^ s ≤ y * 2 ^ s := Nat.mul_le_mul_right _ hhi
      rw [Nat.add_mul, Nat.one_mul] at this
      omega
    have hlp : lo * 2 ^ s = (lo / 2 ^ (64 - s)) * 2 ^ 64 + (lo % 2 ^ (64 - s)) * 2 ^ s := by
      have := Nat.div_add_mod lo (2 ^ (64 - s))
      conv => lhs; rw [← this]
      rw [Nat.add_mul, Nat.mul_right_comm, Nat.mul_comm (2 ^ (64 - s)) (2 ^ s), hPT, Nat.mul_comm (2 ^ 64)]
    have hW : (lo % 2 ^ (64 - s)) * 2 ^ s < 2 ^ 64 := by
      have : (lo % 2 ^ (64 - s)) * 2 ^ s < 2 ^ (64 - s) * 2 ^ s := Nat.mul_lt_mul_of_pos_right (Nat.mod_lt _ hT) hP
      rwa [Nat.mul_comm (2 ^ (64 - s)), hPT] at this
    have v7 : shI .shl .u64 (y : Int) (s : Int) = some ((y * 2 ^ s : Nat) : Int) := by
      rw [shl_eq (by omega), cP, ← Int.natCast_mul, wu64 (by omega)]
    have v9 : shI .shl .u64 (hi : Int) (s : Int) = some ((hi * 2 ^ s : Nat) : Int) := by
      rw [shl_eq (by omega), cP, ← Int.natCast_mul, wu64 (by omega)]
    have v10 := shN (n := lo) (k := 64 - s) (by omega)
    have v11 : shI .shl .u64 (lo : Int) (s : Int) = some (((lo % 2 ^ (64 - s)) * 2 ^ s : Nat) : Int) := by
      rw [shl_eq (by omega), cP, ← Int.natCast_mul, hlp, w64u]
      congr 1
      omega
    have vor := or_add (h := hi) (l := lo / 2 ^ (64 - s)) (s := s) hl (by omega)
    have hN : ((hi : Int) * 18446744073709551616 + lo) * ((2 ^ s : Nat) : Int) = ((hi * 2 ^ s + lo / 2 ^ (64 - s) : Nat) : Int) * 18446744073709551616 + ((lo % 2 ^ (64 - s) * 2 ^ s : Nat) : Int) := by
      have e1 : (lo : Int) * ((2 ^ s : Nat) : Int) = ((lo * 2 ^ s : Nat) : Int) := by rw [Int.natCast_mul]
      have e2 : (hi : Int) * ((2 ^ s : Nat) : Int) = ((hi * 2 ^ s : Nat) : Int) := by rw [Int.natCast_mul]
      rw [Int.add_mul, Int.mul_right_comm, e1, e2, hlp]
      omega
    obtain ⟨a1, a2, a3, a4, a5, a6, a7, a8⟩ := digits (Y := ((y * 2 ^ s : Nat) : Int)) (U := ((hi * 2 ^ s + lo / 2 ^ (64 - s) : Nat) : Int)) (W := ((lo % 2 ^ (64 - s) * 2 ^ s : Nat) : Int)) (N := (hi : Int) * 18446744073709551616 + lo) (P := ((2 ^ s : Nat) : Int)) (y := (y : Int)) (by omega) (by omega) (by omega) (by omega) (by omega) (by rw [Int.natCast_mul]) hN
    rw [s1, Option.bind_some, sx, v7, Option.bind_some, shr32 (by omega), Option.bind_some, v9, Option.bind_some, sy, v10, Option.bind_some, v11, Option.bind_some, shr32 (by omega), Option.bind_some, vor]
    have hY0 : 0 < ((y * 2 ^ s : Nat) : Int) := by omega
    have g1 := Int.emod_add_mul_ediv (((hi * 2 ^ s + lo / 2 ^ (64 - s) : Nat) : Int) * 4294967296 + ((lo % 2 ^ (64 - s) * 2 ^ s : Nat) : Int) / 4294967296) ((y * 2 ^ s : Nat) : Int)
    have f1 := Int.emod_add_mul_ediv ((((hi * 2 ^ s + lo / 2 ^ (64 - s) : Nat) : Int) * 4294967296 + ((lo % 2 ^ (64 - s) * 2 ^ s : Nat) : Int) / 4294967296) % ((y * 2 ^ s : Nat) : Int) * 4294967296 + ((lo % 2 ^ (64 - s) * 2 ^ s : Nat) : Int) % 4294967296) ((y * 2 ^ s : Nat) : Int)
    rw [Int.mul_comm ((y * 2 ^ s : Nat) : Int)] at g1 f1
    refine (div_core (s := s) (by omega) (by omega) (by omega) (by omega) ⟨Int.emod_nonneg _ (by omega), Int.emod_lt_of_pos _ hY0⟩ ⟨Int.emod_nonneg _ (by omega), Int.emod_lt_of_pos _ hY0⟩ ⟨a5, a6⟩ ⟨a7, a8⟩ (eqsub g1) (eqsub f1) a1 a2).trans ?_
    rw [cP, a4, a3]
end Go.Rex

namespace Go.Rex
theorem dgcd_run : ∀ (n : Nat) (a b : Int), b.natAbs = n → ∃ r, run filter_divisor_l1 (a, b) = some r ∧ r.natAbs = Nat.gcd a.natAbs b.natAbs := by
  intro n
  induction n using Nat.strongRecOn with
  | _ n ih =>
    intro a b hb
    by_cases h : b = 0
    · refine ⟨a, run_stop ?_, by subst h; simp⟩
      dsimp only [filter_divisor_l1]
      rw [if_neg (by simp [h])]
    · have h1 : filter_divisor_l1 (a, b) = some (.inl (b, a.tmod b)) := by
        dsimp only [filter_divisor_l1]
        rw [if_pos (by simpa using h), if_neg h]
      obtain ⟨r, hr, hg⟩ := ih (a.tmod b).natAbs (by rw [Int.natAbs_tmod, ← hb]; exact Nat.mod_lt _ (by omega)) b (a.tmod b) rfl
      refine ⟨r, by rw [run_next h1]; exact hr, ?_⟩
      rw [hg, Int.natAbs_tmod, Nat.gcd_comm, ← Nat.gcd_rec, Nat.gcd_comm]
theorem dgcd_eq {a b : Int} (ha : -9223372036854775807 ≤ a ∧ a ≤ 9223372036854775807) (hb : -9223372036854775807 ≤ b ∧ b ≤ 9223372036854775807) : filter_divisor a b = some ((Nat.gcd a.natAbs b.natAbs : Nat) : Int) := by
  obtain ⟨r, hr, hg⟩ := dgcd_run b.natAbs a b rfl
  have hle : r.natAbs ≤ 9223372036854775807 := by
    rw [hg]
    by_cases h : b = 0
    · subst h
      rw [Int.natAbs_zero, Nat.gcd_zero_right]
      omega
    · have := Nat.gcd_le_right a.natAbs (n := b.natAbs) (by omega)
      omega
  unfold filter_divisor
  rw [hr, Option.bind_some, fsize_eq (by omega), hg]
  rfl
theorem low_big {n d : Int} (hn : 0 ≤ n ∧ n ≤ 4611686018427387904) (hd : 0 < d ∧ d ≤ 4611686018427387904) : ∃ x y g : Int, 0 < g ∧ filter_lowest n d = some (x, y) ∧ x * g = n ∧ y * g = d ∧ 0 ≤ x ∧ 0 < y := by
  have hgp : 0 < Nat.gcd n.natAbs d.natAbs := Nat.gcd_pos_of_pos_right _ (by omega)
  have d1 : ((Nat.gcd n.natAbs d.natAbs : Nat) : Int) ∣ n := Int.natAbs_dvd_natAbs.1 (by simpa using Nat.gcd_dvd_left n.natAbs d.natAbs)
  have d2 : ((Nat.gcd n.natAbs d.natAbs : Nat) : Int) ∣ d := Int.natAbs_dvd_natAbs.1 (by simpa using Nat.gcd_dvd_right n.natAbs d.natAbs)
  have e := dgcd_eq (a := n) (b := d) (by omega) (by omega)
  generalize Nat.gcd n.natAbs d.natAbs = g at *
  have h1 := Int.natAbs_tdiv_le_natAbs n (g : Int)
  have h2 := Int.natAbs_tdiv_le_natAbs d (g : Int)
  have h3 := Int.tdiv_nonneg hn.1 (show (0 : Int) ≤ g by omega)
  have h4 := Int.tdiv_nonneg (show 0 ≤ d by omega) (show (0 : Int) ≤ g by omega)
  have c1 := Int.tdiv_mul_cancel d1
  have c2 := Int.tdiv_mul_cancel d2
  have h5 : d.tdiv g ≠ 0 := by
    intro h
    rw [h, Int.zero_mul] at c2
    omega
  refine ⟨n.tdiv g, d.tdiv g, g, by omega, ?_, c1, c2, h3, by omega⟩
  unfold filter_lowest
  rw [if_neg (by rw [decide_eq_true_eq]; omega), e, Option.bind_some, if_neg (by omega), w64 (by omega), w64 (by omega)]
/-- a right section, a right turn -/
structure Fit (a b c d e p q r : Int) : Prop where
  sec : secB (a, b, c, d, e) = true
  tr : trE p q r = 0
theorem Fit.turn {a b c d e p q r : Int} (h : Fit a b c d e p q r) : (1 ≤ r ∧ r ≤ 100) ∧ (-r ≤ p ∧ p ≤ r) ∧ (-r ≤ q ∧ q ≤ r) ∧ p * p + q * q = r * r := by
  have := h.tr
  unfold trE at this
  split at this
  · split at this
    · rename_i h1 h2
      exact ⟨h1, h2⟩
    · cases this
  · cases this
theorem Fit.opp {a b c d e p q r : Int} (h : Fit a b c d e p q r) : Fit a b c d e p (-q) r := by
  obtain ⟨h1, h2, h3, h4⟩ := h.turn
  refine ⟨h.sec, ?_⟩
  unfold trE
  rw [if_pos h1, if_pos ⟨h2, by omega, by rw [Int.neg_mul_neg]; exact h4⟩]
def gN (a b c p q r : Int) : Int := sqr a b c p q r
theorem Fit.num {a b c d e p q r : Int} (h : Fit a b c d e p q r) : ref06_square a b c p q r = some (sqr a b c p q r) ∧ 0 ≤ sqr a b c p q r ∧ sqr a b c p q r ≤ 2305843009213693952 := by
  obtain ⟨h1, h2, h3, h4⟩ := h.turn
  obtain ⟨s1, s2, s3, s4, s5⟩ := secB_iff.1 h.sec
  exact sqr_eq s1 s2 s3 (by omega) (by omega) (by omega)
theorem Fit.den {a b c d e p q r : Int} (h : Fit a b c d e p q r) : ref06_square 16384 d e p q r = some (sqr 16384 d e p q r) ∧ 0 ≤ sqr 16384 d e p q r ∧ sqr 16384 d e p q r ≤ 2305843009213693952 := by
  obtain ⟨h1, h2, h3, h4⟩ := h.turn
  obtain ⟨s1, s2, s3, s4, s5⟩ := secB_iff.1 h.sec
  exact sqr_eq (by omega) s4 s5 (by omega) (by omega) (by omega)
theorem gainOf_eq {a b c d e p q r n m : Int} (h1 : ref06_square a b c p q r = some n) (h2 : ref06_square 16384 d e p q r = some m) : filter_gainOf a b c d e p q r = some (if m = 0 then (0, 0, 11) else (n, m, 0)) := by
  unfold filter_gainOf
  rw [fsq, fsq, h1, h2, Option.bind_some, Option.bind_some]
  by_cases h : m = 0
  · rw [if_pos (by rw [decide_eq_true_eq]; exact h), if_pos h]
  · rw [if_neg (by rw [decide_eq_true_eq]; exact h), if_neg h]
theorem rGain_eq {a b c d e p q r n m : Int} (h1 : ref06_square a b c p q r = some n) (h2 : ref06_square 16384 d e p q r = some m) : ref06_Gain a b c d e p q r = some (n, m) := by
  unfold ref06_Gain
  rw [h1, h2]
  rfl
/-- a gain that is told -/
def gTold (n m x y : Int) : Int × Int × Int := if m = 0 then (0, 0, 11) else if x ≤ 1000000000 ∧ y ≤ 1000000000 then (x, y, 0) else (0, 0, 8)
theorem fTold {a b c d e p q r n m x y : Int} (hs : filter_CheckSection a b c d e = some 0) (ht : filter_turnError p q r = some 0) (h1 : ref06_square a b c p q r = some n) (h2 : ref06_square 16384 d e p q r = some m) (hl : m ≠ 0 → filter_lowest n m = some (x, y)) : filter_GainSquare a b c d e p q r = some (gTold n m x y) := by
  unfold filter_GainSquare gTold
  rw [hs, ht, gainOf_eq h1 h2]
  simp only [Option.bind_some, first2]
  by_cases h : m = 0
  · simp [h]
  · simp only [h, hl h, if_false, ne_eq, not_true, decide_false, Bool.false_eq_true, Option.bind_some]
    by_cases hc : x ≤ 1000000000 ∧ y ≤ 1000000000
    · rw [if_pos hc, if_neg]
      rw [decide_eq_true_eq]
      split <;> omega
    · rw [if_neg hc, if_pos]
      rw [decide_eq_true_eq]
      split <;> omega
end Go.Rex

namespace Go.Rex
theorem div_uniq {X d q r : Int} (h : X = d * q + r) (h0 : 0 ≤ r) (h1 : r < d) : X / d = q ∧ X % d = r := by
  have e : X / d = q := by
    rw [h, Int.add_comm, Int.add_mul_ediv_left _ _ (by omega), Int.ediv_eq_zero_of_lt h0 h1, Int.zero_add]
  refine ⟨e, ?_⟩
  have := Int.emod_add_mul_ediv X d
  rw [e] at this
  omega
/-- rounded up -/
def upE (X d : Int) : Int := X / d + (if X % d > 0 then 1 else 0)
theorem upE_ge {X d : Int} (hd : 0 < d) : X ≤ upE X d * d ∧ X / d * d ≤ X ∧ X / d ≤ upE X d := by
  have h := Int.emod_add_mul_ediv X d
  have h0 := Int.emod_nonneg X (show d ≠ 0 by omega)
  have h1 := Int.emod_lt_of_pos X hd
  unfold upE
  rw [Int.mul_comm d] at h
  split
  · rw [Int.add_mul, Int.one_mul]
    exact ⟨by omega, by omega, by omega⟩
  · rw [Int.add_zero]
    exact ⟨by omega, by omega, by omega⟩
theorem upE_le {X d b : Int} (hd : 0 < d) (h : X ≤ b * d) : upE X d ≤ b := by
  have e := Int.emod_add_mul_ediv X d
  have h0 := Int.emod_nonneg X (show d ≠ 0 by omega)
  unfold upE
  rw [Int.mul_comm d] at e
  split
  · rename_i hr
    have : X / d * d < b * d := by omega
    have := Int.lt_of_mul_lt_mul_right this (by omega)
    omega
  · have : X / d * d ≤ b * d := by omega
    have := Int.le_of_mul_le_mul_right this hd
    omega
theorem over_eq {X d : Int} (hX : 0 ≤ X) (hd : 0 < d ∧ d ≤ 4611686018427387904) (h : X ≤ 1073741824 * d) : filter_wide_over (X / 18446744073709551616) (X % 18446744073709551616) d = some (X / d, upE X d) := by
  obtain ⟨x, rfl⟩ : ∃ x : Nat, X = x := ⟨X.toNat, by omega⟩
  obtain ⟨y, rfl⟩ : ∃ y : Nat, d = y := ⟨d.toNat, by omega⟩
  have e1 : (x : Int) / 18446744073709551616 = ((x / 18446744073709551616 : Nat) : Int) := by omega
  have e2 : (x : Int) % 18446744073709551616 = ((x % 18446744073709551616 : Nat) : Int) := by omega
  unfold filter_wide_over
  rw [e1, e2, wu64 (x := (y : Int)) (by omega), div64_eq (by omega) (by omega) (by omega)]
  have e3 : ((x / 18446744073709551616 : Nat) : Int) * 18446744073709551616 + ((x % 18446744073709551616 : Nat) : Int) = x := by omega
  rw [e3, Option.bind_some]
  dsimp only
  have q0 : 0 ≤ (x : Int) / y := Int.ediv_nonneg hX (by omega)
  have q1 : (x : Int) / y ≤ 1073741824 := Int.ediv_le_of_le_mul hd.1 h
  unfold upE
  rw [w64 (x := (x : Int) / y) (by omega), w64 (x := (x : Int) / y + 1) (by omega)]
  by_cases hr : (x : Int) % y > 0
  · rw [if_pos (by rw [decide_eq_true_eq]; exact hr), if_pos hr]
  · rw [if_neg (by rw [decide_eq_true_eq]; exact hr), if_neg hr, Int.add_zero]
theorem inParts_eq {n d : Int} (hn : 0 ≤ n ∧ n ≤ 4611686018427387904) (hd : 0 < d ∧ d ≤ 4611686018427387904) : filter_gain_inParts n d = some (if n * 1048576 > 1073741824 * d then (0, 0, 8) else (n * 1048576 / d, upE (n * 1048576) d, 0)) := by
  unfold filter_gain_inParts
  rw [product_eq (by omega) (by omega), Option.bind_some]
  dsimp only
  rw [product_eq (by omega) (by omega), Option.bind_some]
  dsimp only
  rw [wcmp_eq, Option.bind_some]
  by_cases h : n * 1048576 > 1073741824 * d
  · rw [if_pos h, if_pos]
    rw [decide_eq_true_eq]
    unfold sgn
    rw [if_neg (by omega), if_pos (by omega)]
    decide
  · rw [if_neg h, if_neg, over_eq (by omega) hd (by omega)]
    · rfl
    · rw [decide_eq_true_eq]
      unfold sgn
      split
      · decide
      · rw [if_neg (by omega)]; decide
theorem bmod_eq {x y : Int} (hx : 0 ≤ x) (hy : 0 < y) : base_Mod x y = some (x % y) := by
  unfold base_Mod
  rw [if_neg (by omega), Int.tmod_eq_emod_of_nonneg hx]
  have := Int.emod_nonneg x (show y ≠ 0 by omega)
  rw [if_neg (by rw [decide_eq_true_eq]; omega)]
theorem parts_run {n d : Int} (hn : 0 ≤ n) (hd : 0 < d ∧ d ≤ 2305843009213693952) (hq : n / d ≤ 1073741824) : run (ref06_Parts_l1 d) (n / d, n % d, 0) = some (n * 1048576 / d, n * 1048576 % d) := by
  have key : ∀ k : Nat, k ≤ 20 → 0 ≤ n * 2 ^ k / d ∧ n * 2 ^ k / d < 1073741825 * 2 ^ k := by
    intro k _
    have hp : (0 : Int) < 2 ^ k := Int.pow_pos (by omega)
    refine ⟨Int.ediv_nonneg (Int.mul_nonneg hn (by omega)) (by omega), Int.ediv_lt_of_lt_mul hd.1 ?_⟩
    have e := Int.emod_add_mul_ediv n d
    have e1 := Int.emod_lt_of_pos n hd.1
    have : d * (n / d) ≤ d * 1073741824 := Int.mul_le_mul_of_nonneg_left hq (by omega)
    rw [Int.mul_right_comm]
    exact Int.mul_lt_mul_of_pos_right (by omega) hp
  have R := run_count (step := ref06_Parts_l1 d) (fun k => (n * 2 ^ k / d, n * 2 ^ k % d, (k : Int))) (n := 20) (e := (n * 2 ^ 20 / d, n * 2 ^ 20 % d)) (fun k hk => by
    obtain ⟨k1, k2⟩ := key k (by omega)
    have hpw : (2 : Int) ^ k ≤ 2 ^ 20 := by
      have := Nat.pow_le_pow_right (n := 2) (by omega) (show k ≤ 20 by omega)
      have h2 : ((2 ^ k : Nat) : Int) ≤ ((2 ^ 20 : Nat) : Int) := by omega
      rwa [Int.natCast_pow, Int.natCast_pow] at h2
    have e := Int.emod_add_mul_ediv (n * 2 ^ k) d
    have e0 := Int.emod_nonneg (n * 2 ^ k) (show d ≠ 0 by omega)
    have e1 := Int.emod_lt_of_pos (n * 2 ^ k) hd.1
    have ek : n * 2 ^ (k + 1) = 2 * (n * 2 ^ k) := by rw [Int.pow_succ, ← Int.mul_assoc, Int.mul_comm]
    show ref06_Parts_l1 d (n * 2 ^ k / d, n * 2 ^ k % d, (k : Int)) = some (.inl (n * 2 ^ (k + 1) / d, n * 2 ^ (k + 1) % d, ((k + 1 : Nat) : Int)))
    rw [ek]
    generalize n * 2 ^ k = X at *
    generalize hQ : X / d = Q at *
    generalize hR : X % d = r at *
    have hb : Q < 1073741825 * 1048576 := by
      have : (1073741825 : Int) * 2 ^ k ≤ 1073741825 * 2 ^ 20 := Int.mul_le_mul_of_nonneg_left hpw (by omega)
      have h3 : (2 : Int) ^ 20 = 1048576 := rfl
      rw [h3] at this
      omega
    dsimp only [ref06_Parts_l1]
    rw [if_pos (by rw [decide_eq_true_eq]; omega), w64 (x := 2 * r) (by omega), w64 (x := 2 * Q) (by omega), w64 (x := 2 * Q + 1) (by omega), w64 (x := 2 * r - d) (by omega), wsucc (n := 20) (by omega) (by omega)]
    by_cases hc : 2 * r ≥ d
    · rw [if_pos (by rw [decide_eq_true_eq]; exact hc)]
      obtain ⟨u1, u2⟩ := div_uniq (X := 2 * X) (d := d) (q := 2 * Q + 1) (r := 2 * r - d) (by rw [Int.mul_add, Int.mul_one, Int.mul_left_comm]; omega) (by omega) (by omega)
      rw [u1, u2]
    · rw [if_neg (by rw [decide_eq_true_eq]; exact hc)]
      obtain ⟨u1, u2⟩ := div_uniq (X := 2 * X) (d := d) (q := 2 * Q) (r := 2 * r) (by rw [Int.mul_left_comm]; omega) (by omega) (by omega)
      rw [u1, u2]) (by
    dsimp only [ref06_Parts_l1]
    rw [if_neg (by decide)])
  have z : n * 2 ^ 0 = n := by rw [Int.pow_zero, Int.mul_one]
  have z2 : (2 : Int) ^ 20 = 1048576 := rfl
  rw [z2] at R
  simp only [z] at R
  exact R
theorem parts_eq {n d : Int} (hn : 0 ≤ n ∧ n ≤ 4611686018427387904) (hd : 0 < d ∧ d ≤ 2305843009213693952) : ref06_Parts n d = some (if n / d > 1073741824 then (n / d, n / d) else (n * 1048576 / d, upE (n * 1048576) d)) := by
  unfold ref06_Parts
  rw [bfloor_eq hd.1 (by omega), bmod_eq hn.1 hd.1, Option.bind_some, Option.bind_some]
  by_cases h : n / d > 1073741824
  · rw [if_pos (by rw [decide_eq_true_eq]; exact h), if_pos h]
  · rw [if_neg (by rw [decide_eq_true_eq]; exact h), if_neg h, parts_run hn.1 hd (by omega), Option.bind_some]
    dsimp only
    have hb : n * 1048576 / d < 1073741825 * 1048576 := by
      refine Int.ediv_lt_of_lt_mul hd.1 ?_
      have e := Int.emod_add_mul_ediv n d
      have e1 := Int.emod_lt_of_pos n hd.1
      have : d * (n / d) ≤ d * 1073741824 := Int.mul_le_mul_of_nonneg_left (by omega) (by omega)
      omega
    have hb0 : 0 ≤ n * 1048576 / d := Int.ediv_nonneg (by omega) (by omega)
    unfold upE
    rw [w64 (x := n * 1048576 / d + 1) (by omega)]
    by_cases hr : n * 1048576 % d > 0
    · rw [if_pos (by rw [decide_eq_true_eq]; exact hr), if_pos hr]
    · rw [if_neg (by rw [decide_eq_true_eq]; exact hr), if_neg hr, Int.add_zero]
/-- a gain more -/
def gst (n d lo hi : Int) : Int ⊕ (Int × Int) :=
  if d = 0 then .inl 11 else if n * 1048576 > 1073741824 * d then .inl 8 else
    if -((-(hi * upE (n * 1048576) d)) / 1048576) > 1073741824 then .inl 8 else .inr (lo * (n * 1048576 / d) / 1048576, -((-(hi * upE (n * 1048576) d)) / 1048576))
def nxt (k : Int) : Int ⊕ (Int × Int) → Option ((Int × Int × Int) ⊕ (Int ⊕ (Int × Int)))
  | .inl e => some (.inr (.inl e))
  | .inr (a, b) => some (.inl (a, b, k))
structure Lim (lo hi : Int) : Prop where
  l0 : 0 ≤ lo
  l1 : lo ≤ hi
  l2 : hi ≤ 1073741824
theorem gst_lim {n d lo hi a b : Int} (hn : 0 ≤ n) (hd : 0 ≤ d) (hl : Lim lo hi) (h : gst n d lo hi = .inr (a, b)) : Lim a b ∧ 0 < d ∧ n * 1048576 ≤ 1073741824 * d := by
  unfold gst at h
  split at h
  · cases h
  · split at h
    · cases h
    · split at h
      · cases h
      · rename_i h1 h2 h3
        obtain ⟨rfl, rfl⟩ := Prod.mk.inj (Sum.inr.inj h)
        obtain ⟨u1, u2, u3⟩ := upE_ge (X := n * 1048576) (d := d) (by omega)
        have q0 : 0 ≤ n * 1048576 / d := Int.ediv_nonneg (by omega) (by omega)
        have p1 : 0 ≤ lo * (n * 1048576 / d) := Int.mul_nonneg hl.l0 q0
        have p2 : lo * (n * 1048576 / d) ≤ hi * upE (n * 1048576) d := Int.mul_le_mul hl.l1 u3 q0 (by have := hl.l0; have := hl.l1; omega)
        generalize hi * upE (n * 1048576) d = Z at *
        generalize lo * (n * 1048576 / d) = Y at *
        exact ⟨⟨by omega, by omega, by omega⟩, by omega, by omega⟩
theorem ceil_f {x : Int} (h : 0 ≤ x ∧ x ≤ 1152921504606846976) : filter_ceiling x 1048576 = some (-((-x) / 1048576)) := by
  unfold filter_ceiling
  rw [wneg (by omega), ffloor_eq (by omega) (by omega) (by omega), Option.bind_some, wneg (by omega)]
theorem ceil_b {x : Int} (h : 0 ≤ x ∧ x ≤ 1152921504606846976) : base_Ceil x 1048576 = some (-((-x) / 1048576)) := by
  unfold base_Ceil
  rw [wneg (by omega), bfloor_eq (by omega) (by omega), Option.bind_some, wneg (by omega)]
theorem prods {n d lo hi : Int} (hn : 0 ≤ n) (hd : 0 < d) (hl : Lim lo hi) (h : n * 1048576 ≤ 1073741824 * d) : (0 ≤ n * 1048576 / d ∧ n * 1048576 / d ≤ 1073741824) ∧ (0 ≤ upE (n * 1048576) d ∧ upE (n * 1048576) d ≤ 1073741824) ∧ (0 ≤ lo * (n * 1048576 / d) ∧ lo * (n * 1048576 / d) ≤ 1152921504606846976) ∧ (0 ≤ hi * upE (n * 1048576) d ∧ hi * upE (n * 1048576) d ≤ 1152921504606846976) := by
  obtain ⟨l1, l2, l3⟩ := hl
  obtain ⟨u1, u2, u3⟩ := upE_ge (X := n * 1048576) (d := d) hd
  have q0 : 0 ≤ n * 1048576 / d := Int.ediv_nonneg (by omega) (by omega)
  have u4 := upE_le (X := n * 1048576) (d := d) (b := 1073741824) hd h
  have p1 := Int.mul_nonneg l1 q0
  have p2 := Int.mul_nonneg (show 0 ≤ hi by omega) (show 0 ≤ upE (n * 1048576) d by omega)
  have p3 : lo * (n * 1048576 / d) ≤ 1073741824 * 1073741824 := Int.mul_le_mul (by omega) (by omega) q0 (by omega)
  have p4 : hi * upE (n * 1048576) d ≤ 1073741824 * 1073741824 := Int.mul_le_mul (by omega) (by omega) (by omega) (by omega)
  exact ⟨⟨q0, by omega⟩, ⟨by omega, u4⟩, ⟨p1, by omega⟩, ⟨p2, by omega⟩⟩
section
variable {l : List (Int × Int × Int × Int × Int)} {p q r : Int}
theorem fstep {k : Nat} {a b c d e lo hi n m : Int} (hl : l.length ≤ 1024) (hk : l[k]? = some (a, b, c, d, e)) (h1 : ref06_square a b c p q r = some n) (h2 : ref06_square 16384 d e p q r = some m) (hn : 0 ≤ n ∧ n ≤ 2305843009213693952) (hm : 0 ≤ m ∧ m ≤ 2305843009213693952) (L : Lim lo hi) :
    filter_GainRange_l1 l p q r (lo, hi, (k : Int)) = nxt ((k + 1 : Nat) : Int) (gst n m lo hi) := by
  have hk2 := (List.getElem?_eq_some_iff.1 hk).1
  dsimp only [filter_GainRange_l1]
  rw [if_pos (by rw [decide_eq_true_eq]; omega), getI_nat, hk, Option.bind_some]
  dsimp only
  rw [gainOf_eq h1 h2, Option.bind_some, wsucc (n := l.length) (by omega) (by omega)]
  unfold gst
  by_cases hz : m = 0
  · rw [if_pos hz, if_pos hz]
    rfl
  · rw [if_neg hz, if_neg hz]
    dsimp only
    rw [if_neg (show ¬ (decide ((0 : Int) ≠ 0) = true) by decide)]
    unfold filter_gain_times
    rw [inParts_eq (by omega) (by omega), Option.bind_some]
    by_cases hb : n * 1048576 > 1073741824 * m
    · rw [if_pos hb, if_pos hb]
      rfl
    · rw [if_neg hb, if_neg hb]
      obtain ⟨a1, a2, a3, a4⟩ := prods (n := n) (d := m) hn.1 (by omega) L (by omega)
      dsimp only
      rw [if_neg (show ¬ (decide ((0 : Int) ≠ 0) = true) by decide), w64 (x := lo * (n * 1048576 / m)) (by omega), w64 (x := hi * upE (n * 1048576) m) (by omega), ffloor_eq (by omega) (by omega) (by omega), Option.bind_some, ceil_f a4, Option.bind_some, refuse_eq, Option.bind_some, Option.bind_some]
      by_cases hc : -((-(hi * upE (n * 1048576) m)) / 1048576) > 1073741824
      · rw [if_pos hc, decide_eq_true hc]
        rfl
      · rw [if_neg hc, decide_eq_false hc]
        rfl
theorem rstep {k : Nat} {a b c d e lo hi n m : Int} (hl : l.length ≤ 1024) (hk : l[k]? = some (a, b, c, d, e)) (h1 : ref06_square a b c p q r = some n) (h2 : ref06_square 16384 d e p q r = some m) (hn : 0 ≤ n ∧ n ≤ 2305843009213693952) (hm : 0 ≤ m ∧ m ≤ 2305843009213693952) (L : Lim lo hi) :
    ref06_GainRange_l1 l p q r (lo, hi, (k : Int)) = nxt ((k + 1 : Nat) : Int) (gst n m lo hi) := by
  have hk2 := (List.getElem?_eq_some_iff.1 hk).1
  dsimp only [ref06_GainRange_l1]
  rw [if_pos (by rw [decide_eq_true_eq]; omega), getI_nat, hk, Option.bind_some]
  dsimp only
  rw [rGain_eq h1 h2, Option.bind_some, wsucc (n := l.length) (by omega) (by omega)]
  dsimp only
  unfold gst
  by_cases hz : m = 0
  · rw [if_pos (by rw [decide_eq_true_eq]; exact hz), if_pos hz]
    rfl
  · rw [if_neg (by rw [decide_eq_true_eq]; exact hz), if_neg hz, parts_eq (by omega) (by omega), Option.bind_some]
    by_cases hb : n * 1048576 > 1073741824 * m
    · rw [if_pos hb]
      have big : (if n / m > 1073741824 then (n / m, n / m) else (n * 1048576 / m, upE (n * 1048576) m)).2 > 1073741824 := by
        split
        · assumption
        · show upE (n * 1048576) m > 1073741824
          refine Classical.byContradiction fun hc => ?_
          have u := (upE_ge (X := n * 1048576) (d := m) (by omega)).1
          have : upE (n * 1048576) m * m ≤ 1073741824 * m := Int.mul_le_mul_of_nonneg_right (by omega) (by omega)
          omega
      generalize (if n / m > 1073741824 then (n / m, n / m) else (n * 1048576 / m, upE (n * 1048576) m)) = x at big
      obtain ⟨x, y⟩ := x
      simp only at big
      dsimp only
      rw [if_pos (by rw [decide_eq_true_eq]; exact big)]
      rfl
    · rw [if_neg hb]
      obtain ⟨a1, a2, a3, a4⟩ := prods (n := n) (d := m) hn.1 (by omega) L (by omega)
      have hs : ¬ n / m > 1073741824 := by
        have : n / m ≤ 1024 := by
          refine Int.ediv_le_of_le_mul (by omega) ?_
          omega
        omega
      rw [if_neg hs]
      dsimp only
      rw [if_neg (by rw [decide_eq_true_eq]; omega), w64 (x := lo * (n * 1048576 / m)) (by omega), w64 (x := hi * upE (n * 1048576) m) (by omega), bfloor_eq (by omega) (by omega), Option.bind_some, ceil_b a4, Option.bind_some]
      by_cases hc : -((-(hi * upE (n * 1048576) m)) / 1048576) > 1073741824
      · rw [if_pos hc, if_pos (by rw [decide_eq_true_eq]; exact hc)]
        rfl
      · rw [if_neg hc, if_neg (by rw [decide_eq_true_eq]; exact hc)]
        rfl
end
end Go.Rex

namespace Go.Rex
section
variable {l : List (Int × Int × Int × Int × Int)} {p q r : Int}
theorem fit_of (hs : ∀ x, x ∈ l → secB x = true) (ht : trE p q r = 0) {k : Nat} {a b c d e : Int} (hk : l[k]? = some (a, b, c, d, e)) : Fit a b c d e p q r := ⟨hs _ (List.mem_of_getElem? hk), ht⟩
theorem fend {k : Nat} {lo hi : Int} (h : ¬ k < l.length) : filter_GainRange_l1 l p q r (lo, hi, (k : Int)) = some (.inr (.inr (lo, hi))) := by
  dsimp only [filter_GainRange_l1]
  rw [if_neg (by rw [decide_eq_true_eq]; omega)]
theorem rend {k : Nat} {lo hi : Int} (h : ¬ k < l.length) : ref06_GainRange_l1 l p q r (lo, hi, (k : Int)) = some (.inr (.inr (lo, hi))) := by
  dsimp only [ref06_GainRange_l1]
  rw [if_neg (by rw [decide_eq_true_eq]; omega)]
theorem gst_err {n d lo hi e : Int} (h : gst n d lo hi = .inl e) : e ≠ 0 := by
  unfold gst at h
  split at h
  · obtain rfl := Sum.inl.inj h; decide
  · split at h
    · obtain rfl := Sum.inl.inj h; decide
    · split at h
      · obtain rfl := Sum.inl.inj h; decide
      · cases h
theorem rang_run (hl : l.length ≤ 1024) (hs : ∀ x, x ∈ l → secB x = true) (ht : trE p q r = 0) : ∀ (j k : Nat) (lo hi : Int), l.length - k = j → k ≤ l.length → Lim lo hi →
    ∃ res, run (filter_GainRange_l1 l p q r) (lo, hi, (k : Int)) = some res ∧ run (ref06_GainRange_l1 l p q r) (lo, hi, (k : Int)) = some res ∧ (∀ e, res = .inl e → e ≠ 0)
  | 0, k, lo, hi, hj, hk, L => ⟨.inr (lo, hi), run_stop (fend (by omega)), run_stop (rend (by omega)), fun e h => by cases h⟩
  | j + 1, k, lo, hi, hj, hk, L => by
    have hk2 : k < l.length := by omega
    obtain ⟨⟨a, b, c, d, e⟩, hx⟩ : ∃ x, l[k] = x := ⟨_, rfl⟩
    have hx2 : l[k]? = some (a, b, c, d, e) := by rw [List.getElem?_eq_getElem hk2, hx]
    have F := fit_of hs ht hx2
    obtain ⟨n1, n2, n3⟩ := F.num
    obtain ⟨m1, m2, m3⟩ := F.den
    have f := fstep hl hx2 n1 m1 ⟨n2, n3⟩ ⟨m2, m3⟩ L
    have g := rstep hl hx2 n1 m1 ⟨n2, n3⟩ ⟨m2, m3⟩ L
    rcases hg : gst (sqr a b c p q r) (sqr 16384 d e p q r) lo hi with e' | ⟨a', b'⟩
    · rw [hg] at f g
      exact ⟨.inl e', run_stop f, run_stop g, fun e h => by obtain rfl := Sum.inl.inj h; exact gst_err hg⟩
    · rw [hg] at f g
      obtain ⟨L', _, _⟩ := gst_lim n2 m2 L hg
      obtain ⟨res, r1, r2, r3⟩ := rang_run hl hs ht j (k + 1) a' b' (by omega) (by omega) L'
      exact ⟨res, (run_next f).trans r1, (run_next g).trans r2, r3⟩
theorem lim0 : Lim 1048576 1048576 := ⟨by omega, by omega, by omega⟩
/-- an enclosure, or an error -/
def rngE : Int ⊕ (Int × Int) → Int × Int × Int
  | .inl e => (0, 0, e)
  | .inr (a, b) => (a, b, 0)
theorem fRange_bad {e : Int} (he : (if (casE l).2 ≠ 0 then (casE l).2 else trE p q r) = e) (h : e ≠ 0) : filter_GainRange l p q r = some (0, 0, e) := by
  unfold filter_GainRange filter_cascadeError
  rw [fcas_eq, fturn_eq, Option.bind_some]
  dsimp only
  rw [Option.bind_some, Option.bind_some, first2, he, Option.bind_some, if_pos (by rw [decide_eq_true_eq]; exact h)]
theorem fRange_good {res : Int ⊕ (Int × Int)} (h1 : (casE l).2 = 0) (h2 : trE p q r = 0) (h : run (filter_GainRange_l1 l p q r) (1048576, 1048576, 0) = some res) : filter_GainRange l p q r = some (rngE res) := by
  unfold filter_GainRange filter_cascadeError
  rw [fcas_eq, fturn_eq, Option.bind_some]
  dsimp only
  rw [Option.bind_some, Option.bind_some, first2, h1, h2, if_neg (by simp), Option.bind_some, if_neg (by simp), h, Option.bind_some]
  rcases res with e | ⟨a, b⟩ <;> rfl
theorem rRange_good {res : Int ⊕ (Int × Int)} (h : run (ref06_GainRange_l1 l p q r) (1048576, 1048576, 0) = some res) : ref06_GainRange l p q r = some (rngE res) := by
  unfold ref06_GainRange
  rw [h, Option.bind_some]
  rcases res with e | ⟨a, b⟩ <;> rfl
theorem law_core {a b e i : Int} (hl : l.length ≤ 8) (hf : filter_GainRange l p q r = some (a, b, e)) (hr : ref06_GainRange l p q r = some (a, b, e)) (hc : ref06_CheckCascade l = some (i, 0)) (ht : ref06_TurnErr p q r = some 0)
    (h1 : e = 0 → l.length = 1 → ∃ x1 x2 x3 x4 x5 u v k : Int, getI l 0 = some (x1, x2, x3, x4, x5) ∧ filter_GainSquare x1 x2 x3 x4 x5 p q r = some (u, v, k) ∧ (k = 0 → ∃ s t : Int, base_Compare a 1048576 u v = some s ∧ s ≤ 0 ∧ base_Compare b 1048576 u v = some t ∧ 0 ≤ t)) : law06_FilterRanges l p q r = some true := by
  unfold law06_FilterRanges law06_few
  have z : decide ((l.length : Int) ≤ 8) = true := by rw [decide_eq_true_eq]; omega
  rw [Option.bind_some, z, if_pos rfl, copy_eq (by omega), Option.bind_some, hf, Option.bind_some]
  dsimp only
  rw [hc, Option.bind_some]
  dsimp only
  rw [if_pos (show decide ((0 : Int) = 0) = true by decide), ht, Option.bind_some, if_pos (show decide ((0 : Int) = 0) = true by decide), hr, Option.bind_some]
  dsimp only
  by_cases he : e = 0
  · by_cases hn : l.length = 1
    · obtain ⟨x1, x2, x3, x4, x5, u, v, k, g1, g2, g3⟩ := h1 he hn
      have hn' : (l.length : Int) = 1 := by omega
      by_cases hk : k = 0
      · obtain ⟨s, t, c1, c2, c3, c4⟩ := g3 hk
        simp [he, hn', g1, g2, hk, c1, c2, c3, c4]
      · simp [he, hn', g1, g2, hk]
    · have hn' : ¬ (l.length : Int) = 1 := by omega
      simp [he, hn']
  · simp [he]
theorem law_bad1 {i e : Int} (hl : l.length ≤ 8) (h : e ≠ 0) (hf : filter_GainRange l p q r = some (0, 0, e)) (hc : ref06_CheckCascade l = some (i, e)) : law06_FilterRanges l p q r = some true := by
  unfold law06_FilterRanges law06_few
  have z : decide ((l.length : Int) ≤ 8) = true := by rw [decide_eq_true_eq]; omega
  rw [Option.bind_some, z, if_pos rfl, copy_eq (by omega), Option.bind_some, hf, Option.bind_some]
  simp [hc, h]
theorem law_bad2 {i e : Int} (hl : l.length ≤ 8) (h : e ≠ 0) (hf : filter_GainRange l p q r = some (0, 0, e)) (hc : ref06_CheckCascade l = some (i, 0)) (ht : ref06_TurnErr p q r = some e) : law06_FilterRanges l p q r = some true := by
  unfold law06_FilterRanges law06_few
  have z : decide ((l.length : Int) ≤ 8) = true := by rw [decide_eq_true_eq]; omega
  rw [Option.bind_some, z, if_pos rfl, copy_eq (by omega), Option.bind_some, hf, Option.bind_some]
  simp [hc, ht, h]
theorem sgn_le {z : Int} (h : z ≤ 0) : sgn z ≤ 0 := by
  unfold sgn
  split
  · decide
  · rw [if_neg (by omega)]; decide
theorem sgn_ge {z : Int} (h : 0 ≤ z) : 0 ≤ sgn z := by
  unfold sgn
  rw [if_neg (by omega)]
  split <;> decide
end
theorem ranges_true (l : List (Int × Int × Int × Int × Int)) (p q r : Int) : law06_FilterRanges l p q r = some true := by
  by_cases hl : l.length ≤ 8
  · have c1 := rcas_eq l
    have t1 := rturn_eq p q r
    obtain ⟨⟨ci, ce⟩, hc⟩ : ∃ x, casE l = x := ⟨_, rfl⟩
    by_cases h1 : (casE l).2 = 0
    · obtain ⟨_, hs⟩ := casE_zero h1
      by_cases h2 : trE p q r = 0
      · obtain ⟨res, r1, r2, r3⟩ := rang_run (p := p) (q := q) (r := r) (l := l) (by omega) hs h2 l.length 0 1048576 1048576 (by omega) (by omega) lim0
        rw [show ((0 : Nat) : Int) = 0 from rfl] at r1 r2
        have f := fRange_good h1 h2 r1
        have g := rRange_good r2
        rw [hc] at c1 h1
        simp only at h1
        subst h1
        rw [h2] at t1
        rcases res with e | ⟨a, b⟩
        · exact law_core hl f g c1 t1 fun he => absurd he (r3 e rfl)
        · refine law_core hl f g c1 t1 fun _ hn => ?_
          obtain ⟨⟨x1, x2, x3, x4, x5⟩, hx⟩ : ∃ x, l = [x] := by
            match l, hn with
            | [x], _ => exact ⟨x, rfl⟩
          subst hx
          have F : Fit x1 x2 x3 x4 x5 p q r := ⟨hs _ (by simp), h2⟩
          obtain ⟨n1, n2, n3⟩ := F.num
          obtain ⟨m1, m2, m3⟩ := F.den
          have st := fstep (l := [(x1, x2, x3, x4, x5)]) (k := 0) (by simp) rfl n1 m1 ⟨n2, n3⟩ ⟨m2, m3⟩ lim0
          have s1 := fsec_eq x1 x2 x3 x4 x5
          rw [show secE (x1, x2, x3, x4, x5) = 0 by unfold secE; rw [if_pos F.sec]] at s1
          have tf := fturn_eq p q r
          rw [h2] at tf
          generalize sqr x1 x2 x3 p q r = n at *
          generalize sqr 16384 x4 x5 p q r = m at *
          rw [show ((0 : Nat) : Int) = 0 from rfl] at st
          rcases hg : gst n m 1048576 1048576 with e | ⟨a', b'⟩
          · rw [hg] at st
            have := (run_stop st).symm.trans r1
            cases this
          · rw [hg] at st
            obtain ⟨_, hm, hle⟩ := gst_lim n2 m2 lim0 hg
            have en := run_stop (fend (l := [(x1, x2, x3, x4, x5)]) (p := p) (q := q) (r := r) (k := 1) (lo := a') (hi := b') (by simp))
            have hab := ((run_next st).trans en).symm.trans r1
            have hab2 : (a', b') = (a, b) := Sum.inr.inj (Option.some.inj hab)
            obtain ⟨rfl, rfl⟩ := Prod.mk.inj hab2
            unfold gst at hg
            rw [if_neg (by omega), if_neg (by omega)] at hg
            split at hg
            · cases hg
            · obtain ⟨ha, hb⟩ := Prod.mk.inj (Sum.inr.inj hg)
              obtain ⟨x, y, g, l1, l2, l3, l4, l5, l6⟩ := low_big (n := n) (d := m) ⟨n2, by omega⟩ ⟨hm, by omega⟩
              have gs := fTold (x := x) (y := y) s1 tf n1 m1 fun _ => l2
              obtain ⟨k1, k2, k3, k4⟩ := prods (n := n) (d := m) n2 hm lim0 hle
              obtain ⟨u1, u2, u3⟩ := upE_ge (X := n * 1048576) (d := m) hm
              have ha' : a' = n * 1048576 / m := by rw [← ha]; omega
              have hb' : b' = upE (n * 1048576) m := by rw [← hb]; omega
              refine ⟨x1, x2, x3, x4, x5, (gTold n m x y).1, (gTold n m x y).2.1, (gTold n m x y).2.2, rfl, gs, ?_⟩
              unfold gTold
              rw [if_neg (by omega)]
              by_cases hxy : x ≤ 1000000000 ∧ y ≤ 1000000000
              · rw [if_pos hxy]
                intro _
                refine ⟨_, _, bcmp_eq (by omega) (by omega) (by simp only; omega) (by simp only; omega), sgn_le ?_, bcmp_eq (by omega) (by omega) (by simp only; omega) (by simp only; omega), sgn_ge ?_⟩
                · simp only
                  rw [ha']
                  have e : g * (n * 1048576 / m * y - x * 1048576) = n * 1048576 / m * m - n * 1048576 := by
                    rw [Int.mul_sub, ← l3, ← l4]
                    rw [Int.mul_left_comm g, Int.mul_comm g y, ← Int.mul_assoc g x, Int.mul_comm g x]
                  refine Classical.byContradiction fun hcon => ?_
                  have := Int.mul_pos l1 (show 0 < n * 1048576 / m * y - x * 1048576 by omega)
                  omega
                · simp only
                  rw [hb']
                  have e : g * (upE (n * 1048576) m * y - x * 1048576) = upE (n * 1048576) m * m - n * 1048576 := by
                    rw [Int.mul_sub, ← l3, ← l4]
                    rw [Int.mul_left_comm g, Int.mul_comm g y, ← Int.mul_assoc g x, Int.mul_comm g x]
                  refine Classical.byContradiction fun hcon => ?_
                  have := Int.mul_neg_of_pos_of_neg l1 (show upE (n * 1048576) m * y - x * 1048576 < 0 by omega)
                  omega
              · rw [if_neg hxy]
                intro h
                cases h
      · have f := fRange_bad (l := l) (p := p) (q := q) (r := r) (e := trE p q r) (by rw [h1]; rw [if_neg (by simp)]) h2
        rw [hc] at c1 h1
        simp only at h1
        subst h1
        exact law_bad2 hl h2 f c1 t1
    · have f := fRange_bad (l := l) (p := p) (q := q) (r := r) (e := (casE l).2) (by rw [if_pos h1]) h1
      rw [hc] at c1 h1 f
      exact law_bad1 hl h1 f c1
  · unfold law06_FilterRanges law06_few
    rw [Option.bind_some, if_neg (by rw [decide_eq_true_eq]; omega)]
end Go.Rex

namespace Go.Rex
open Go Go.ChangeShapes Go.WideShapes Go.ChangeAt Go.RowKit Go.Joins Go.Proofs
/-! ### arguments: what they are as trees, and the names of their blocks -/
structure Arg (W : World) (v' : Value) (p : TV) (bs : List Blk) (is : List Info) (av : Nat → Value) : Prop where
  vr : ∀ (D : Nat → Prop) (m : NMap) n, (∀ j, j < bs.length → D (n + j)) → (∀ (j : Nat) i, is[j]? = some i → m (n + j) = i) → VR D m (av n) v'
  vl : ∀ (Fz : Nat → Prop) (h : List Blk) n, (∀ j, j < bs.length → Fz (n + j)) → (∀ (j : Nat) b, bs[j]? = some b → h[n + j]? = some b) → VL Fz h noL p (av n)
  ok : ∀ (D : Nat → Prop) (m : NMap) n, (∀ j, j < bs.length → D (n + j)) → (∀ (j : Nat) i, is[j]? = some i → m (n + j) = i) → ∀ (j : Nat) b, bs[j]? = some b → BlkOk D m W (n + j) b
  lt : ∀ (j : Nat) b i, bs[j]? = some b → is[j]? = some i → b ≠ .dead → i.block < W.heap.size
  len : is.length = bs.length
structure Args (W : World) (vs' : List Value) (ps : List TV) (bs : List Blk) (is : List Info) (av : Nat → List Value) : Prop where
  vr : ∀ (D : Nat → Prop) (m : NMap) n, (∀ j, j < bs.length → D (n + j)) → (∀ (j : Nat) i, is[j]? = some i → m (n + j) = i) → VRs D m (av n) vs'
  vl : ∀ (Fz : Nat → Prop) (h : List Blk) n, (∀ j, j < bs.length → Fz (n + j)) → (∀ (j : Nat) b, bs[j]? = some b → h[n + j]? = some b) → VLs Fz h noL ps (av n)
  ok : ∀ (D : Nat → Prop) (m : NMap) n, (∀ j, j < bs.length → D (n + j)) → (∀ (j : Nat) i, is[j]? = some i → m (n + j) = i) → ∀ (j : Nat) b, bs[j]? = some b → BlkOk D m W (n + j) b
  lt : ∀ (j : Nat) b i, bs[j]? = some b → is[j]? = some i → b ≠ .dead → i.block < W.heap.size
  len : is.length = bs.length
theorem Args.nil (W : World) : Args W [] [] [] [] (fun _ => []) :=
  ⟨fun _ _ _ _ _ => ⟨rfl, fun i a a' h => by simp at h⟩, fun _ _ _ _ _ => .nil, fun _ _ _ _ _ j b h => by simp at h, fun j b i h => by simp at h, rfl⟩
theorem Args.cons {W : World} {v' : Value} {p : TV} {bs bs2 : List Blk} {is is2 : List Info} {av : Nat → Value} {vs' : List Value} {ps : List TV} {avs : Nat → List Value}
    (a : Arg W v' p bs is av) (as : Args W vs' ps bs2 is2 avs) : Args W (v' :: vs') (p :: ps) (bs ++ bs2) (is ++ is2) (fun n => av n :: avs (n + bs.length)) := by
  have cD : ∀ (D : Nat → Prop) n, (∀ j, j < (bs ++ bs2).length → D (n + j)) → (∀ j, j < bs.length → D (n + j)) ∧ (∀ j, j < bs2.length → D (n + bs.length + j)) := by
    intro D n h
    refine ⟨fun j hj => h j (by simp; omega), fun j hj => ?_⟩
    have := h (bs.length + j) (by simp; omega)
    rwa [← Nat.add_assoc] at this
  have cI : ∀ (m : NMap) n, (∀ (j : Nat) i, (is ++ is2)[j]? = some i → m (n + j) = i) → (∀ (j : Nat) i, is[j]? = some i → m (n + j) = i) ∧ (∀ (j : Nat) i, is2[j]? = some i → m (n + bs.length + j) = i) := by
    intro m n h
    refine ⟨fun j i hj => h j i (by rw [List.getElem?_append_left (List.getElem?_eq_some_iff.1 hj).1]; exact hj), fun j i hj => ?_⟩
    have := h (bs.length + j) i (by rw [List.getElem?_append_right (by rw [a.len]; omega), a.len, Nat.add_sub_cancel_left]; exact hj)
    rwa [← Nat.add_assoc] at this
  refine ⟨fun D m n hD hm => ?_, fun Fz h n hF hh => ?_, fun D m n hD hm j b hb => ?_, fun j b i hb hi hd => ?_, by simp [a.len, as.len]⟩
  · have h1 := a.vr D m n (cD D n hD).1 (cI m n hm).1
    have h2 := as.vr D m (n + bs.length) (cD D n hD).2 (cI m n hm).2
    refine ⟨by simp [h2.len], fun i x x' hx hx' => ?_⟩
    cases i with
    | zero => simp at hx hx'; subst hx hx'; exact h1
    | succ i => simp at hx hx'; exact h2.at' i x x' hx hx'
  · refine .cons (a.vl Fz h n (cD Fz n hF).1 fun j b hb => hh j b (by rw [List.getElem?_append_left (List.getElem?_eq_some_iff.1 hb).1]; exact hb)) (as.vl Fz h (n + bs.length) (cD Fz n hF).2 fun j b hb => ?_)
    have := hh (bs.length + j) b (by rw [List.getElem?_append_right (by omega), Nat.add_sub_cancel_left]; exact hb)
    rwa [← Nat.add_assoc] at this
  · rcases Nat.lt_or_ge j bs.length with hj | hj
    · rw [List.getElem?_append_left hj] at hb
      exact a.ok D m n (cD D n hD).1 (cI m n hm).1 j b hb
    · rw [List.getElem?_append_right hj] at hb
      have := as.ok D m (n + bs.length) (cD D n hD).2 (cI m n hm).2 _ b hb
      rwa [show n + bs.length + (j - bs.length) = n + j by omega] at this
  · rcases Nat.lt_or_ge j bs.length with hj | hj
    · rw [List.getElem?_append_left hj] at hb
      rw [List.getElem?_append_left (by rw [a.len]; exact hj)] at hi
      exact a.lt j b i hb hi hd
    · rw [List.getElem?_append_right hj] at hb
      rw [List.getElem?_append_right (by rw [a.len]; exact hj), a.len] at hi
      exact as.lt _ b i hb hi hd
/-- the names of the arguments -/
def nm (is : List Info) : NMap := fun n => is.getD n ⟨0, 0, 0, 0⟩
theorem nm_at {is : List Info} {j : Nat} {i : Info} (h : is[j]? = some i) : nm is (0 + j) = i := by
  unfold nm
  rw [Nat.zero_add, List.getD_eq_getElem?_getD, h]
  rfl
section
variable {W : World} {vs' : List Value} {ps : List TV} {bs : List Blk} {is : List Info} {av : Nat → List Value}
theorem Args.rel (a : Args W vs' ps bs is av) : Rel W.heap.size bs.length (fun k => k < bs.length) (nm is) bs W := by
  refine ⟨Nat.le_refl _, fun _ h => h, fun n b hn hb => ?_, fun n b hn hb hd => ?_, fun n b hD hl => absurd hD (by omega), fun n b hn _ hb hd => ?_, fun n b hD hl => absurd hD (by omega), fun n n' b b' hD _ hl => absurd hD (by omega)⟩
  · have := a.ok (fun k => k < bs.length) (nm is) 0 (fun j hj => by omega) (fun j i hi => nm_at hi) n b hb
    rwa [Nat.zero_add] at this
  all_goals
    have hi : n < is.length := by rw [a.len]; exact hn
    have e := nm_at (List.getElem?_eq_getElem hi)
    rw [Nat.zero_add] at e
    rw [e]
    exact a.lt n b _ hb (List.getElem?_eq_getElem hi) hd
theorem Args.vls (a : Args W vs' ps bs is av) : VLs (fun k => k < bs.length) bs noL ps (av 0) := a.vl _ _ 0 (fun j hj => by omega) (fun j b hb => by rw [Nat.zero_add]; exact hb)
theorem Args.vrs (a : Args W vs' ps bs is av) : VRs (fun k => k < bs.length) (nm is) (av 0) vs' := a.vr _ _ 0 (fun j hj => by omega) (fun j i hi => nm_at hi)
end
theorem len1 {α : Type} {l : List α} (h : l.length = 1) : ∃ x0, l = [x0] := by
  match l, h with
  | [x0], _ => exact ⟨_, rfl⟩
theorem len2 {α : Type} {l : List α} (h : l.length = 2) : ∃ x0 x1, l = [x0, x1] := by
  match l, h with
  | [x0, x1], _ => exact ⟨_, _, rfl⟩
theorem len3 {α : Type} {l : List α} (h : l.length = 3) : ∃ x0 x1 x2, l = [x0, x1, x2] := by
  match l, h with
  | [x0, x1, x2], _ => exact ⟨_, _, _, rfl⟩
theorem len4 {α : Type} {l : List α} (h : l.length = 4) : ∃ x0 x1 x2 x3, l = [x0, x1, x2, x3] := by
  match l, h with
  | [x0, x1, x2, x3], _ => exact ⟨_, _, _, _, rfl⟩
theorem len5 {α : Type} {l : List α} (h : l.length = 5) : ∃ x0 x1 x2 x3 x4, l = [x0, x1, x2, x3, x4] := by
  match l, h with
  | [x0, x1, x2, x3, x4], _ => exact ⟨_, _, _, _, _, rfl⟩
theorem len6 {α : Type} {l : List α} (h : l.length = 6) : ∃ x0 x1 x2 x3 x4 x5, l = [x0, x1, x2, x3, x4, x5] := by
  match l, h with
  | [x0, x1, x2, x3, x4, x5], _ => exact ⟨_, _, _, _, _, _, rfl⟩
theorem len7 {α : Type} {l : List α} (h : l.length = 7) : ∃ x0 x1 x2 x3 x4 x5 x6, l = [x0, x1, x2, x3, x4, x5, x6] := by
  match l, h with
  | [x0, x1, x2, x3, x4, x5, x6], _ => exact ⟨_, _, _, _, _, _, _, rfl⟩
theorem len8 {α : Type} {l : List α} (h : l.length = 8) : ∃ x0 x1 x2 x3 x4 x5 x6 x7, l = [x0, x1, x2, x3, x4, x5, x6, x7] := by
  match l, h with
  | [x0, x1, x2, x3, x4, x5, x6, x7], _ => exact ⟨_, _, _, _, _, _, _, _, rfl⟩
theorem len9 {α : Type} {l : List α} (h : l.length = 9) : ∃ x0 x1 x2 x3 x4 x5 x6 x7 x8, l = [x0, x1, x2, x3, x4, x5, x6, x7, x8] := by
  match l, h with
  | [x0, x1, x2, x3, x4, x5, x6, x7, x8], _ => exact ⟨_, _, _, _, _, _, _, _, _, rfl⟩
theorem len10 {α : Type} {l : List α} (h : l.length = 10) : ∃ x0 x1 x2 x3 x4 x5 x6 x7 x8 x9, l = [x0, x1, x2, x3, x4, x5, x6, x7, x8, x9] := by
  match l, h with
  | [x0, x1, x2, x3, x4, x5, x6, x7, x8, x9], _ => exact ⟨_, _, _, _, _, _, _, _, _, _, rfl⟩
/-! ### arguments without names -/
def AtomV (c : Value) : Prop := isAtom c = true ∧ ∀ D m, VR D m c c
theorem atomV_int (k : IntKind) (n : Int) : AtomV (.int k n) := ⟨rfl, fun _ _ => .int _ _⟩
theorem Arg.atom {W : World} {v : Value} (h : AtomV v) : Arg W v (.v v) [] [] (fun _ => v) :=
  ⟨fun _ _ _ _ _ => h.2 _ _, fun _ _ _ _ _ => .v _ _ h.1, fun _ _ _ _ _ j b h => by simp at h, fun j b i h => by simp at h, rfl⟩
theorem Arg.agg {W : World} {l : List Value} (h : ∀ c ∈ l, AtomV c) : Arg W (.agg ⟨l⟩) (.agg (l.map .v)) [] [] (fun _ => .agg ⟨l⟩) := by
  refine ⟨fun _ _ _ _ _ => .agg _ _ rfl fun i v v' hv hv' => ?_, fun _ _ _ _ _ => .agg _ _ _ (by simp) fun i p x hp hx => ?_, fun _ _ _ _ _ j b h => by simp at h, fun j b i h => by simp at h, rfl⟩
  · obtain rfl : v = v' := Option.some.inj (hv.symm.trans hv')
    exact (h v (List.mem_of_getElem? hv)).2 _ _
  · rw [List.getElem?_map, hx] at hp
    obtain rfl := Option.some.inj hp
    exact .v _ _ (h x (List.mem_of_getElem? hx)).1
/-! ### a slice of rows -/
theorem flatMap_at {α β : Type} {g : α → List β} {es : Nat} (hg : ∀ x, (g x).length = es) (he : 0 < es) : ∀ (xs : List α) i, (xs.flatMap g)[i]? = (xs[i / es]?).bind fun x => (g x)[i % es]?
  | [], i => by simp
  | x :: t, i => by
    rw [List.flatMap_cons]
    rcases Nat.lt_or_ge i es with h | h
    · rw [List.getElem?_append_left (by rw [hg]; exact h), Nat.div_eq_of_lt h, Nat.mod_eq_of_lt h]
      rfl
    · rw [List.getElem?_append_right (by rw [hg]; exact h), hg, flatMap_at hg he t (i - es)]
      have e1 : i / es = (i - es) / es + 1 := by rw [Nat.div_eq_sub_div he h]
      have e2 : i % es = (i - es) % es := Nat.mod_eq_sub_mod h
      rw [e1, e2]
      rfl
theorem flatMap_len {α β : Type} {g : α → List β} {es : Nat} (hg : ∀ x, (g x).length = es) : ∀ (xs : List α), (xs.flatMap g).length = xs.length * es
  | [] => by simp
  | x :: t => by rw [List.flatMap_cons, List.length_append, hg, flatMap_len hg t, List.length_cons, Nat.add_mul]; omega
theorem flatMap_map {α : Type} {f : α → List TV} {g : α → List Value} (hf : ∀ x, f x = (g x).map .v) : ∀ (xs : List α), (xs.map f).flatten = (xs.flatMap g).map .v
  | [] => rfl
  | x :: t => by rw [List.map_cons, List.flatten_cons, flatMap_map hf t, List.flatMap_cons, List.map_append, hf]
theorem choose_list {α : Type} {Q : Nat → α → Prop} : ∀ n, (∀ i, i < n → ∃ x, Q i x) → ∃ xs : List α, xs.length = n ∧ ∀ (i : Nat) x, xs[i]? = some x → Q i x
  | 0, _ => ⟨[], rfl, fun i x h => by simp at h⟩
  | n + 1, h => by
    obtain ⟨xs, hl, hq⟩ := choose_list n (fun i hi => h i (by omega))
    obtain ⟨x, hx⟩ := h n (by omega)
    refine ⟨xs ++ [x], by simp [hl], fun i y hy => ?_⟩
    rcases Nat.lt_or_ge i n with hi | hi
    · rw [List.getElem?_append_left (by omega)] at hy
      exact hq i y hy
    · rw [List.getElem?_append_right (by omega), hl] at hy
      have : i = n := by
        rcases Nat.lt_or_ge 0 (i - n) with g | g
        · rw [List.getElem?_eq_none (by simp; omega)] at hy; cases hy
        · omega
      subst this
      simp at hy
      subst hy
      exact hx
section
variable {H : Type} {enc : TypeId × Value → H} {W : World} {base : Nat} {spare : Nat → Bool} {held : Bool}
theorem open_rows {α : Type} {f : α → List TV} {g : α → List Value} {es : Nat} (he : 0 < es) (hf : ∀ x, f x = (g x).map .v) (hg : ∀ x, (g x).length = es) (hat : ∀ x, ∀ c ∈ g x, AtomV c)
    {P : Program} {t te : TypeId} (ht : P.underlying t = some (.slice te)) (hC : P.cellsOf te = es) {r : Reach} {b0 : Nat} {v' : Value} (hval : Value.okWide P W r b0 t v')
    (elem : ∀ n cs y, DataW.trod enc P W base spare held n te cs = some y → cs.length = es → ∃ x : α, cs = g x)
    {fuel : Nat} {x : DataW H × List MemPlace} (h : DataW.trod enc P W base spare held fuel t [v'] = some x) : ∃ (xs : List α) (bs : List Blk) (is : List Info) (av : Nat → Value), Arg W v' (.list es (xs.map f)) bs is av := by
  rcases DataW.trod_slice ht h with ⟨hv, _⟩ | ⟨a, len, cap, elems, rest, n, _, hv, _, hb, hlc, hcm, hel, hel2, _, _⟩
  · obtain rfl : v' = .slice none 0 0 := by simpa using hv
    exact ⟨[], [], [], fun _ => .slice none 0 0, fun _ _ _ _ _ => .nilSlice 0 0, fun _ _ _ _ _ => .nillist _ _, fun _ _ _ _ _ j b h => by simp at h, fun j b i h => by simp at h, rfl⟩
  · obtain rfl : v' = .slice (some a) len cap := by simpa using hv
    have hok : len ≤ cap ∧ (cap : Int) ≤ IntKind.i64.max ∧ W.has P r b0 a te cap := by
      unfold Value.okWide at hval
      simp only [ht] at hval
      unfold Cell.okWide at hval
      simp only [ht] at hval
      unfold Cell.ok at hval
      simpa only [ht] using hval
    obtain ⟨gb, o, s⟩ := a
    obtain ⟨_, _, _, hs, row, cells, hsh, _⟩ := hok
    simp only at hs hsh
    subst hs
    have hgb : gb < W.heap.size := by
      unfold World.shape? at hsh
      rcases Nat.lt_or_ge gb W.heap.size with hg | hg
      · exact hg
      · rw [Array.getElem?_eq_none hg] at hsh
        simp at hsh
    have key : ∀ i, i < len → ∃ x : α, ∀ j, j < es → W.cell? ⟨gb, o + i * es + j, none⟩ = (g x)[j]? := fun i hi => by
      have h1 := hel2 i hi
      rw [List.getElem?_eq_getElem (by omega), Option.bind_eq_some_iff] at h1
      obtain ⟨cs, hcs, htr⟩ := h1
      rw [hC] at hcs
      unfold World.cells? at hcs
      split at hcs
      · have hlen := mapM_some_length hcs
        simp at hlen
        obtain ⟨x, rfl⟩ := elem n cs _ htr hlen
        refine ⟨x, fun j hj => ?_⟩
        have := mapM_some_get hcs j j (by simp [hj])
        have e : ((⟨gb, o, none⟩ : Addr).add (i * es)).add j = ⟨gb, o + i * es + j, none⟩ := by
          unfold Addr.add
          split <;> split <;> simp_all
        rw [← e]
        exact this
      · cases hcs
    obtain ⟨xs, hl, hq⟩ := choose_list len key
    subst hl
    have hlen := flatMap_len hg xs
    have hfl := flatMap_map hf xs
    refine ⟨xs, [.cells es (xs.flatMap g)], [⟨gb, o, cap * es, es⟩], fun n => .slice (some ⟨n, 0, none⟩) xs.length xs.length, fun D m n hD hm => ?_, fun Fz h n hF hh => ?_, fun D m n hD hm j b hb => ?_, fun j b i hb hi hd => ?_, rfl⟩
    · have e := hm 0 _ rfl
      rw [Nat.add_zero] at e
      have := VR.slice (D := D) (m := m) n 0 xs.length xs.length cap (hD 0 (by simp)) (Nat.le_refl _) hlc (.inr (by rw [e]; simp))
      rw [e] at this
      exact this
    · have hw : ∀ r ∈ xs.map f, r.length = es := fun r hr => by obtain ⟨x, _, rfl⟩ := List.mem_map.1 hr; rw [hf, List.length_map, hg]
      have := VL.list (Fz := Fz) (h := h) noL es (xs.map f) n 0 xs.length (xs.flatMap g) es (hF 0 (by simp)) (hh 0 _ rfl) (.inl rfl) hw (by simp) (by rw [List.length_map, hlen]; omega) (fun j p x hp hx => by
        rw [hfl, List.getElem?_map, Option.map_eq_some_iff] at hp
        rw [Nat.zero_add] at hx
        obtain ⟨y, h1, rfl⟩ := hp
        obtain rfl : y = x := Option.some.inj (h1.symm.trans hx)
        obtain ⟨z, _, hz⟩ := List.mem_flatMap.1 (List.mem_of_getElem? hx)
        exact .v _ _ (hat z y hz).1)
      rw [List.length_map] at this
      exact this
    · match j, hb with
      | 0, hb =>
        obtain rfl := Option.some.inj hb
        have e := hm 0 _ rfl
        rw [Nat.add_zero] at e ⊢
        refine ⟨by rw [e], fun i v hv => ⟨v, ?_, ?_⟩⟩
        · rw [flatMap_at hg he, Option.bind_eq_some_iff] at hv
          obtain ⟨x, hx, hv⟩ := hv
          rw [e]
          have := hq _ x hx (i % es) (Nat.mod_lt _ he)
          rw [Nat.add_assoc, Nat.mul_comm, Nat.div_add_mod] at this
          rw [this]
          exact hv
        · obtain ⟨z, _, hz⟩ := List.mem_flatMap.1 (List.mem_of_getElem? hv)
          exact (hat z v hz).2 _ _
      | j + 1, hb => simp at hb
    · match j, hb, hi with
      | 0, hb, hi => obtain rfl := Option.some.inj hi
                     exact hgb
      | j + 1, hb, hi => simp at hb
/-! ### aggregates of ints -/
def AI (cs : List Value) : Prop := ∀ c ∈ cs, ∃ n : Int, c = .int .i64 n
theorem AI.list {cs : List Value} (h : AI cs) : ∃ l : List Int, cs = l.map (.int .i64) := by
  induction cs with
  | nil => exact ⟨[], rfl⟩
  | cons c t ih =>
    obtain ⟨n, rfl⟩ := h c (by simp)
    obtain ⟨l, rfl⟩ := ih fun c hc => h c (by simp [hc])
    exact ⟨n :: l, rfl⟩
variable {P : Program}
theorem ai_int {te : TypeId} (ht : P.underlying te = some (.int .i64)) {fuel : Nat} {cs : List Value} {x : DataW H × List MemPlace} (h : DataW.trod enc P W base spare held fuel te cs = some x) : AI cs := by
  obtain ⟨n, rfl, _⟩ := DataW.trod_int ht h
  exact fun c hc => ⟨n, by simpa using hc⟩
theorem ai_arr {t e : TypeId} {m k : Nat} (ht : P.underlying t = some (.array m e)) (hk : P.cellsOf e = k) (hk0 : 0 < k) (hc : P.cellsOf t = m * k) (he : ∀ n cs y, DataW.trod enc P W base spare held n e cs = some y → AI cs)
    {fuel : Nat} {cs : List Value} {x : DataW H × List MemPlace} (h : DataW.trod enc P W base spare held fuel t cs = some x) : AI cs := by
  obtain ⟨xs, n, _, _, hl, hx, hi⟩ := DataW.trod_array ht h
  intro c hcm
  obtain ⟨j, hj, rfl⟩ := List.mem_iff_getElem.1 hcm
  rw [hl, hc] at hj
  have hd : j / k < m := (Nat.div_lt_iff_lt_mul hk0).2 hj
  have h1 := hi _ hd
  rw [List.getElem?_eq_getElem (by omega), hk] at h1
  refine he _ _ _ h1 _ ?_
  refine List.mem_of_getElem? (i := j % k) ?_
  rw [List.getElem?_take, if_pos (Nat.mod_lt _ hk0), List.getElem?_drop, Nat.mul_comm, Nat.div_add_mod, List.getElem?_eq_getElem]
theorem ai_struct {t : TypeId} {fs : Array Field} (ht : P.underlying t = some (.struct fs)) (hcov : ((List.range (P.cellsOf t)).all fun j => fs.toList.any fun f => decide (f.offset ≤ j) && decide (j < f.offset + P.cellsOf f.type)) = true) (he : ∀ f ∈ fs.toList, ∀ n cs y, DataW.trod enc P W base spare held n f.type cs = some y → AI cs)
    {fuel : Nat} {cs : List Value} {x : DataW H × List MemPlace} (h : DataW.trod enc P W base spare held fuel t cs = some x) : AI cs := by
  obtain ⟨xs, n, _, _, hl, hx, hi⟩ := DataW.trod_struct ht h
  intro c hcm
  obtain ⟨j, hj, rfl⟩ := List.mem_iff_getElem.1 hcm
  rw [hl] at hj
  have := List.all_eq_true.1 hcov j (by simpa using hj)
  obtain ⟨f, hf, hf2⟩ := List.any_eq_true.1 this
  simp only [Bool.and_eq_true, decide_eq_true_eq] at hf2
  obtain ⟨i, hil, hif⟩ := List.mem_iff_getElem.1 hf
  have hfi : fs[i]? = some f := by rw [← Array.getElem?_toList, List.getElem?_eq_getElem hil, hif]
  have h1 := hi i f hfi
  have hil2 : i < fs.size := by simpa using hil
  rw [List.getElem?_eq_getElem (by omega)] at h1
  refine he f hf _ _ _ h1 _ ?_
  refine List.mem_of_getElem? (i := j - f.offset) ?_
  rw [List.getElem?_take, if_pos (by omega), List.getElem?_drop, show f.offset + (j - f.offset) = j by omega, List.getElem?_eq_getElem]
theorem okW_int {t : TypeId} (ht : P.underlying t = some (.int .i64)) {r : Reach} {b : Nat} {v : Value} (w : Cell.okWide P W r b t v) : ∃ n : Int, v = .int .i64 n := by
  unfold Cell.okWide at w
  simp only [ht] at w
  unfold Cell.ok at w
  simp only [ht] at w
  cases v <;> first | exact ⟨_, by rw [w.1]⟩ | exact absurd w (by simp)
theorem open_int {t : TypeId} (ht : P.underlying t = some (.int .i64)) {r : Reach} {b : Nat} {v : Value} (w : Value.okWide P W r b t v) : ∃ n : Int, v = .int .i64 n := by
  unfold Value.okWide at w
  simp only [ht] at w
  exact okW_int ht w
theorem open_sti {t ti : TypeId} {fs : Array Field} {n : Nat} (ht : P.underlying t = some (.struct fs)) (hti : P.underlying ti = some (.int .i64)) (hct : P.cellTypes P.depth t = some (List.replicate n ti)) (hn : P.cellsOf t = n)
    {r : Reach} {b : Nat} {v : Value} (w : Value.okWide P W r b t v) : ∃ l : List Int, l.length = n ∧ v = .agg ⟨l.map (.int .i64)⟩ := by
  unfold Value.okWide at w
  simp only [ht] at w
  obtain ⟨cs, rfl, hs, ts, hts, _, hc⟩ := w
  rw [hct] at hts
  obtain rfl := Option.some.inj hts
  obtain ⟨l⟩ := cs
  have : AI l := by
    intro c hcm
    obtain ⟨j, hj, rfl⟩ := List.mem_iff_getElem.1 hcm
    obtain ⟨u, hu, hok⟩ := hc j l[j] (by simp)
    have := List.eq_of_mem_replicate (List.mem_of_getElem? hu)
    subst this
    exact okW_int hti hok
  obtain ⟨l', rfl⟩ := this.list
  refine ⟨l', ?_, rfl⟩
  simpa [hn] using hs
theorem open_ari {t ti e : TypeId} {k n : Nat} (ht : P.underlying t = some (.array k e)) (hti : P.underlying ti = some (.int .i64)) (hct : P.cellTypes P.depth t = some (List.replicate n ti)) (hn : P.cellsOf t = n)
    {r : Reach} {b : Nat} {v : Value} (w : Value.okWide P W r b t v) : ∃ l : List Int, l.length = n ∧ v = .agg ⟨l.map (.int .i64)⟩ := by
  unfold Value.okWide at w
  simp only [ht] at w
  obtain ⟨cs, rfl, hs, ts, hts, _, hc⟩ := w
  rw [hct] at hts
  obtain rfl := Option.some.inj hts
  obtain ⟨l⟩ := cs
  have : AI l := by
    intro c hcm
    obtain ⟨j, hj, rfl⟩ := List.mem_iff_getElem.1 hcm
    obtain ⟨u, hu, hok⟩ := hc j l[j] (by simp)
    have := List.eq_of_mem_replicate (List.mem_of_getElem? hu)
    subst this
    exact okW_int hti hok
  obtain ⟨l', rfl⟩ := this.list
  refine ⟨l', ?_, rfl⟩
  simpa [hn] using hs
theorem arg_ints (l : List Int) : Arg W (.agg ⟨l.map (.int .i64)⟩) (.agg (l.map fun x => .v (.int .i64 x))) [] [] (fun _ => .agg ⟨l.map (.int .i64)⟩) := by
  have := Arg.agg (W := W) (l := l.map (.int .i64)) fun c hc => by obtain ⟨x, _, rfl⟩ := List.mem_map.1 hc; exact atomV_int _ _
  rwa [List.map_map] at this
end
end Go.Rex
