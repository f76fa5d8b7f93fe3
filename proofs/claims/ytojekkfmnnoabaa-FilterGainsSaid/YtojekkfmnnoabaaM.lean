/- What these functions return: facts on lists and numbers. -/
import Derived.Test.YtojekkfmnnoabaaTexR
import Derived.Test.YtojekkfmnnoabaaS
import Derived.Test.YtojekkfmnnoabaaTexU
import Derived.ProofKit
import Derived.OpenShut
import Derived.ShutString
import Derived.ChangeOld
import Derived.Below
import Derived.Lib.SmallJoins
import Derived.ChangeShapes
import Derived.ChangeArms
import Derived.WideShapes
set_option linter.unusedSimpArgs false
set_option linter.unusedVariables false
set_option linter.defProp false
namespace Go.Rex
/-! ### plain facts for shallow functions -/
theorem w64 {x : Int} (h : -9223372036854775808 ≤ x ∧ x ≤ 9223372036854775807) : IntKind.i64.wrap x = x := IntWalk.i64_in x (by omega)
/-- a loop that counts -/
theorem run_count {σ ε : Type} {step : σ → Option (σ ⊕ ε)} (f : Nat → σ) {n : Nat} {e : ε} (h : ∀ k, k < n → step (f k) = some (.inl (f (k + 1)))) (hn : step (f n) = some (.inr e)) : run step (f 0) = some e := by
  suffices H : ∀ j k, n - k = j → k ≤ n → run step (f k) = some e from H n 0 (by omega) (Nat.zero_le _)
  intro j
  induction j with
  | zero => intro k hj hk; obtain rfl : k = n := by omega
            exact run_stop hn
  | succ j ih => intro k hj hk; rw [run_next (h k (by omega))]; exact ih (k + 1) (by omega) (by omega)
/-- a loop that ends early -/
theorem run_until {σ ε : Type} {step : σ → Option (σ ⊕ ε)} (f : Nat → σ) {m : Nat} {e : ε} (h : ∀ k, k < m → step (f k) = some (.inl (f (k + 1)))) (hm : step (f m) = some (.inr e)) : run step (f 0) = some e := run_count f h hm
theorem getI_nat {α : Type} {xs : List α} {k : Nat} : getI xs (k : Int) = xs[k]? := by
  unfold getI
  rw [if_pos (by omega), Int.toNat_natCast]
theorem getI_of {α : Type} {xs : List α} {i : Int} {k : Nat} (h : i = (k : Int)) : getI xs i = xs[k]? := by subst h; exact getI_nat
theorem appI_one {α : Type} {b : Nat} {xs : List α} {y : α} (h : xs.length < 2 ^ 40) (hb : b ≤ 128) : appI b xs [y] = some (xs ++ [y]) := by
  unfold appI
  rw [if_pos]
  refine ⟨by simp; omega, ?_⟩
  have h1 : (xs.length + [y].length) * b ≤ 2 ^ 40 * 128 := Nat.mul_le_mul (by simp; omega) hb
  omega
end Go.Rex

namespace Go.Rex
/-! ### loops that look for the first one of a list -/
def firstOr {α ε : Type} (P : α → Bool) (ex : Nat → α → ε) (en : ε) : Nat → List α → ε
  | _, [] => en
  | k, x :: t => if P x = true then ex k x else firstOr P ex en (k + 1) t
theorem run_first_from {α σ ε : Type} {step : σ → Option (σ ⊕ ε)} (st : Nat → σ) (P : α → Bool) (ex : Nat → α → ε) (en : ε) :
    ∀ (xs ys : List α), (∀ (k : Nat) x, (ys ++ xs)[k]? = some x → step (st k) = some (if P x = true then .inr (ex k x) else .inl (st (k + 1)))) → step (st (ys ++ xs).length) = some (.inr en) → run step (st ys.length) = some (firstOr P ex en ys.length xs)
  | [], ys, _, he => by rw [List.append_nil] at he; exact run_stop he
  | x :: t, ys, hs, he => by
    have h1 := hs ys.length x (by simp)
    by_cases hp : P x = true
    · rw [if_pos hp] at h1
      rw [run_stop h1, firstOr, if_pos hp]
    · rw [if_neg hp] at h1
      rw [run_next h1, firstOr, if_neg hp]
      have := run_first_from st P ex en t (ys ++ [x]) (fun k y hk => hs k y (by simpa using hk)) (by simpa using he)
      simpa using this
theorem run_first {α σ ε : Type} {step : σ → Option (σ ⊕ ε)} (st : Nat → σ) (P : α → Bool) (ex : Nat → α → ε) (en : ε) (xs : List α) (hs : ∀ (k : Nat) x, xs[k]? = some x → step (st k) = some (if P x = true then .inr (ex k x) else .inl (st (k + 1)))) (he : step (st xs.length) = some (.inr en)) {s : σ} (h0 : s = st 0) : run step s = some (firstOr P ex en 0 xs) := by
  subst h0
  exact run_first_from st P ex en xs [] hs he
theorem firstOr_map {α β γ : Type} (f : β → γ) (P : α → Bool) (ex : Nat → α → β) (en : β) : ∀ (xs : List α) k, f (firstOr P ex en k xs) = firstOr P (fun k x => f (ex k x)) (f en) k xs
  | [], _ => rfl
  | x :: t, k => by
    unfold firstOr
    split
    · rfl
    · exact firstOr_map f P ex en t (k + 1)
theorem firstOr_all {α β : Type} (P : α → Bool) (c en : β) : ∀ (xs : List α) k, firstOr P (fun _ _ => c) en k xs = if (xs.all fun x => !P x) = true then en else c
  | [], _ => rfl
  | x :: t, k => by
    unfold firstOr
    rw [firstOr_all P c en t (k + 1)]
    cases h : P x <;> simp [h]
theorem firstOr_congr {α β : Type} {P Q : α → Bool} {ex ex' : Nat → α → β} {en : β} : ∀ (xs : List α) k, (∀ x, x ∈ xs → P x = Q x) → (∀ j x, x ∈ xs → P x = true → ex j x = ex' j x) → firstOr P ex en k xs = firstOr Q ex' en k xs
  | [], _, _, _ => rfl
  | x :: t, k, h1, h2 => by
    unfold firstOr
    rw [← h1 x (by simp), firstOr_congr t (k + 1) (fun y hy => h1 y (by simp [hy])) (fun j y hy => h2 j y (by simp [hy]))]
    split
    · rename_i hp
      exact h2 k x (by simp) hp
    · rfl
theorem bind_first {α σ ε β : Type} {step : σ → Option (σ ⊕ ε)} {s : σ} {F : ε → Option β} (st : Nat → σ) (P : α → Bool) (ex : Nat → α → ε) (en : ε) (xs : List α) (K : ε → β) (h0 : s = st 0) (hF : ∀ e, F e = some (K e)) (hs : ∀ (k : Nat) x, xs[k]? = some x → step (st k) = some (if P x = true then .inr (ex k x) else .inl (st (k + 1)))) (he : step (st xs.length) = some (.inr en)) :
    (run step s).bind F = some (firstOr P (fun k x => K (ex k x)) (K en) 0 xs) := by
  rw [run_first st P ex en xs hs he h0, Option.bind_some, hF, firstOr_map K]
/-! ### numbers -/
theorem wneg {x : Int} (h : -9223372036854775807 ≤ x ∧ x ≤ 9223372036854775807) : IntKind.i64.wrap (0 - x) = -x := by rw [w64 (by omega)]; omega
theorem wsucc {k : Nat} {n : Nat} (h : k ≤ n) (hn : n ≤ 2 ^ 62) : IntKind.i64.wrap ((k : Int) + 1) = ((k + 1 : Nat) : Int) := by rw [w64 (by omega)]; omega
theorem fsize_eq {x : Int} (h : -9223372036854775807 ≤ x ∧ x ≤ 9223372036854775807) : filter_size x = some (x.natAbs : Int) := by
  unfold filter_size
  rw [wneg h]
  split <;> (congr 1; omega)
theorem bsize_eq {x : Int} (h : -9223372036854775807 ≤ x ∧ x ≤ 9223372036854775807) : base_Size x = some (x.natAbs : Int) := by
  unfold base_Size
  rw [wneg h]
  split <;> (congr 1; omega)
theorem tmod_emod {x y : Int} (hy : 0 < y) : x.tmod y = if x.tmod y < 0 then x % y - y else x % y := by
  have h1 := Int.tmod_lt_of_pos x hy
  have h2 : -y < x.tmod y := by
    have h3 := Int.natAbs_tmod x y
    have h4 : (x.tmod y).natAbs < y.natAbs := by rw [h3]; exact Nat.mod_lt _ (by omega)
    omega
  have hdm := Int.tmod_add_mul_tdiv x y
  split
  · have : x % y = x.tmod y + y := by
      have e : x = (x.tmod y + y) + y * (x.tdiv y - 1) := by rw [Int.mul_sub, Int.mul_one]; omega
      rw [e, Int.add_mul_emod_self_left, Int.emod_eq_of_lt (by omega) (by omega)]
      rw [← e]
    omega
  · have : x % y = x.tmod y := by
      conv => lhs; rw [← hdm]
      rw [Int.add_mul_emod_self_left, Int.emod_eq_of_lt (by omega) (by omega)]
    omega
theorem ediv_le {x y b : Int} (hy : 0 < y) (hb : 0 ≤ b) (h : -b ≤ x ∧ x ≤ b) : -b ≤ x / y ∧ x / y ≤ b := by
  have h1 := Int.emod_add_mul_ediv x y
  have h2 := Int.emod_nonneg x (show y ≠ 0 by omega)
  have h3 := Int.emod_lt_of_pos x hy
  constructor
  · refine Int.le_ediv_of_mul_le hy ?_
    have : -b * y ≤ -b * 1 := Int.mul_le_mul_of_nonpos_left (by omega) (by omega)
    omega
  · refine Int.ediv_le_of_le_mul hy ?_
    have : b * 1 ≤ b * y := Int.mul_le_mul_of_nonneg_left (by omega) hb
    omega
theorem tdiv_ediv {x y : Int} (hy : 0 < y) : x.tdiv y = if x.tmod y < 0 then x / y + 1 else x / y := by
  have hdm := Int.tmod_add_mul_tdiv x y
  have h1 := Int.emod_add_mul_ediv x y
  have h2 := tmod_emod (x := x) hy
  refine Int.eq_of_mul_eq_mul_left (show y ≠ 0 by omega) ?_
  split
  · rename_i h
    rw [if_pos h] at h2
    rw [Int.mul_add, Int.mul_one]
    omega
  · rename_i h
    rw [if_neg h] at h2
    omega
/-! ### sections -/
def smallB (m x : Int) : Bool := decide (-m ≤ x ∧ x ≤ m)
theorem isSmall_eq {x m : Int} (hm : 0 ≤ m ∧ m ≤ 9223372036854775807) : filter_isSmall x m = some (smallB m x) := by
  unfold filter_isSmall smallB
  rw [wneg (by omega)]
  by_cases h : -m ≤ x <;> simp [h]
theorem within_eq (x a b : Int) : base_Within x a b = some (decide (a ≤ x ∧ x ≤ b)) := by
  unfold base_Within
  by_cases h : a ≤ x <;> simp [h]
theorem allSmall_eq (l : List Int) {m : Int} (hl : l.length ≤ 2 ^ 62) (hm : 0 ≤ m ∧ m ≤ 9223372036854775807) : filter_allSmall l m = some (if (l.all (smallB m)) = true then 0 else 2) := by
  unfold filter_allSmall
  refine (bind_first (fun k : Nat => (k : Int)) (fun x => !smallB m x) (fun _ _ => .inl ()) (.inr ()) l (Sum.elim (fun _ => 2) fun _ => 0) rfl (fun e => by rcases e with _ | _ <;> rfl) (fun k x hk => ?_) ?_).trans ?_
  · have hk2 := (List.getElem?_eq_some_iff.1 hk).1
    dsimp only [filter_allSmall_l1]
    rw [if_pos (by simpa using hk2), getI_nat, hk, Option.bind_some, isSmall_eq hm, Option.bind_some, wsucc (n := l.length) (by omega) hl]
    cases smallB m x <;> rfl
  · dsimp only [filter_allSmall_l1]
    rw [if_neg (by simp)]
  · simp only [Sum.elim_inl, Sum.elim_inr, firstOr_all, Bool.not_not]
theorem firstError_eq (l : List Int) (hl : l.length ≤ 2 ^ 62) : filter_firstError l = some (firstOr (fun x => decide (x ≠ 0)) (fun _ x => x) 0 0 l) := by
  unfold filter_firstError
  refine (bind_first (fun k : Nat => (k : Int)) (fun x => decide (x ≠ 0)) (fun _ x => .inl x) (.inr ()) l (Sum.elim id fun _ => 0) rfl (fun e => by rcases e with x | _ <;> rfl) (fun k x hk => ?_) ?_).trans rfl
  · have hk2 := (List.getElem?_eq_some_iff.1 hk).1
    dsimp only [filter_firstError_l1]
    rw [if_pos (by simpa using hk2), getI_nat, hk, Option.bind_some, wsucc (n := l.length) (by omega) hl]
    by_cases h : x = 0 <;> simp [h]
  · dsimp only [filter_firstError_l1]
    rw [if_neg (by simp)]
theorem refuse_eq (b : Bool) (e : Int) : filter_refuse b e = some (if b = true then e else 0) := by
  unfold filter_refuse
  cases b <;> rfl
theorem first2 (a b : Int) : filter_firstError [a, b] = some (if a ≠ 0 then a else b) := by
  rw [firstError_eq _ (by simp)]
  unfold firstOr firstOr firstOr
  by_cases h : a = 0 <;> by_cases h2 : b = 0 <;> simp [h, h2]
end Go.Rex

namespace Go.Rex
def secB (x : Int × Int × Int × Int × Int) : Bool := smallB 32768 x.1 && (smallB 32768 x.2.1 && (smallB 32768 x.2.2.1 && (smallB 32768 x.2.2.2.1 && smallB 32768 x.2.2.2.2)))
theorem secB_iff {a b c d e : Int} : secB (a, b, c, d, e) = true ↔ (-32768 ≤ a ∧ a ≤ 32768) ∧ (-32768 ≤ b ∧ b ≤ 32768) ∧ (-32768 ≤ c ∧ c ≤ 32768) ∧ (-32768 ≤ d ∧ d ≤ 32768) ∧ (-32768 ≤ e ∧ e ≤ 32768) := by
  simp [secB, smallB]
def secE (x : Int × Int × Int × Int × Int) : Int := if secB x = true then 0 else 2
theorem fsec_eq (a b c d e : Int) : filter_CheckSection a b c d e = some (secE (a, b, c, d, e)) := by
  unfold filter_CheckSection filter_coefficientsOf
  rw [Option.bind_some]
  dsimp only
  rw [allSmall_eq _ (by simp) (by omega)]
  simp only [Option.bind_some, secE, secB, List.all_cons, List.all_nil, Bool.and_true]
  rfl
theorem rsec_eq (a b c d e : Int) : ref06_CheckSection a b c d e = some (secE (a, b, c, d, e)) := by
  unfold ref06_CheckSection
  refine (bind_first (fun k : Nat => (k : Int)) (fun x => !smallB 32768 x) (fun _ _ => .inl ()) (.inr ()) [a, b, c, d, e] (Sum.elim (fun _ => 2) fun _ => 0) rfl (fun e => by rcases e with _ | _ <;> rfl) (fun k x hk => ?_) ?_).trans ?_
  · have hk2 := (List.getElem?_eq_some_iff.1 hk).1
    dsimp only [ref06_CheckSection_l1]
    simp only [List.length_cons, List.length_nil] at hk2
    rw [if_pos (by simp; omega), getI_nat, hk, Option.bind_some, within_eq, Option.bind_some, wsucc (n := 5) (by omega) (by omega)]
    unfold smallB
    cases (decide (-32768 ≤ x ∧ x ≤ 32768)) <;> rfl
  · dsimp only [ref06_CheckSection_l1]
    rw [if_neg (by simp)]
  · simp only [Sum.elim_inl, Sum.elim_inr, firstOr_all, Bool.not_not, secE, secB, List.all_cons, List.all_nil, Bool.and_true]
    rfl
end Go.Rex

namespace Go.Rex
theorem bfloor_eq {x y : Int} (hy : 0 < y) (hx : -9223372036854775807 ≤ x ∧ x ≤ 9223372036854775807) : base_Floor x y = some (x / y) := by
  unfold base_Floor
  rw [if_neg (by omega)]
  have hb := ediv_le (x := x) (b := 9223372036854775807) hy (by omega) (by omega)
  have ht := tdiv_ediv (x := x) hy
  by_cases h : x.tmod y < 0
  · rw [if_pos h] at ht
    have hb2 : x < 0 := by
      rcases Int.lt_or_le x 0 with hx | hx
      · exact hx
      · have := Int.tmod_nonneg y hx; omega
    have hb3 : x / y < 0 := Int.ediv_neg_of_neg_of_pos hb2 hy
    rw [if_pos (by simpa using h), ht, w64 (x := x / y + 1) (by omega), w64 (by omega)]
    congr 1
    omega
  · rw [if_neg h] at ht
    rw [if_neg (by simpa using h), ht, w64 (by omega)]
end Go.Rex

namespace Go.Rex
theorem gcd_run : ∀ (n : Nat) (a b : Int), b.natAbs = n → ∃ r, run base_Gcd_l1 (a, b) = some r ∧ r.natAbs = Nat.gcd a.natAbs b.natAbs := by
  intro n
  induction n using Nat.strongRecOn with
  | _ n ih =>
    intro a b hb
    by_cases h : b = 0
    · refine ⟨a, run_stop ?_, by subst h; simp⟩
      dsimp only [base_Gcd_l1]
      rw [if_neg (by simp [h])]
    · have h1 : base_Gcd_l1 (a, b) = some (.inl (b, a.tmod b)) := by
        dsimp only [base_Gcd_l1]
        rw [if_pos (by simpa using h), if_neg h]
      obtain ⟨r, hr, hg⟩ := ih (a.tmod b).natAbs (by rw [Int.natAbs_tmod, ← hb]; exact Nat.mod_lt _ (by omega)) b (a.tmod b) rfl
      refine ⟨r, by rw [run_next h1]; exact hr, ?_⟩
      rw [hg, Int.natAbs_tmod, Nat.gcd_comm, ← Nat.gcd_rec, Nat.gcd_comm]
theorem gcd_eq {a b : Int} (ha : -9223372036854775807 ≤ a ∧ a ≤ 9223372036854775807) (hb : -9223372036854775807 ≤ b ∧ b ≤ 9223372036854775807) : base_Gcd a b = some ((Nat.gcd a.natAbs b.natAbs : Nat) : Int) := by
  obtain ⟨r, hr, hg⟩ := gcd_run b.natAbs a b rfl
  have hle : r.natAbs ≤ 9223372036854775807 := by
    rw [hg]
    by_cases h : b = 0
    · subst h
      rw [Int.natAbs_zero, Nat.gcd_zero_right]
      omega
    · have := Nat.gcd_le_right a.natAbs (n := b.natAbs) (by omega)
      omega
  unfold base_Gcd
  rw [hr, Option.bind_some, bsize_eq (by omega), hg]
  rfl
theorem div_gcd (a b : Int) : filter_divisor a b = base_Gcd a b := rfl
end Go.Rex

namespace Go.Rex
theorem fwithin_eq (x a b : Int) : filter_within x a b = some (if a ≤ x ∧ x ≤ b then 0 else 2) := by
  unfold filter_within
  simp only [refuse_eq, Option.bind_some, decide_eq_true_eq, if_true]
  split
  · split
    · omega
    · rfl
  · split
    · split
      · omega
      · rfl
    · split
      · rfl
      · omega
end Go.Rex

namespace Go.Rex
/-! ### products of 128 bits -/
theorem wu64 {x : Int} (h : 0 ≤ x ∧ x ≤ 18446744073709551615) : IntKind.u64.wrap x = x := IntWalk.u64_in x (by omega)
theorem shr32 {a : Int} (h : 0 ≤ a) : shI .shr .u64 a 32 = some (a / 4294967296) := by
  unfold shI
  rw [if_neg (by omega)]
  show some (a.fdiv (2 ^ 32)) = _
  rw [Int.fdiv_eq_ediv_of_nonneg _ (by omega)]
  rfl
theorem and32 {a : Int} (h : 0 ≤ a ∧ a ≤ 18446744073709551615) : bitI .and .u64 a 4294967295 = a % 4294967296 := by
  obtain ⟨n, rfl⟩ : ∃ n : Nat, a = n := ⟨a.toNat, by omega⟩
  unfold bitI
  show IntKind.u64.wrap (((BitVec.ofInt 64 (n : Int)) &&& (BitVec.ofInt 64 4294967295)).toNat : Int) = _
  have e : ((BitVec.ofInt 64 (n : Int)) &&& (BitVec.ofInt 64 4294967295)).toNat = n % 4294967296 := by
    rw [BitVec.toNat_and]
    have h1 : (BitVec.ofInt 64 (n : Int)).toNat = n := by
      rw [BitVec.toNat_ofInt]
      omega
    have h2 : (BitVec.ofInt 64 4294967295).toNat = 2 ^ 32 - 1 := by decide
    rw [h1, h2, Nat.and_two_pow_sub_one_eq_mod]
  rw [e, wu64 (by omega)]
  omega
theorem mul64_eq {a b : Int} (ha : 0 ≤ a ∧ a ≤ 9223372036854775807) (hb : 0 ≤ b ∧ b ≤ 9223372036854775807) : math_bits_Mul64 a b = some (a * b / 18446744073709551616, a * b % 18446744073709551616) := by
  unfold math_bits_Mul64
  have p1 := Int.mul_nonneg (Int.emod_nonneg a (show (4294967296 : Int) ≠ 0 by omega)) (Int.emod_nonneg b (show (4294967296 : Int) ≠ 0 by omega))
  have A0 := Int.emod_nonneg a (show (4294967296 : Int) ≠ 0 by omega)
  have A1 := Int.emod_lt_of_pos a (show (0 : Int) < 4294967296 by omega)
  have B0 := Int.emod_nonneg b (show (4294967296 : Int) ≠ 0 by omega)
  have B1 := Int.emod_lt_of_pos b (show (0 : Int) < 4294967296 by omega)
  have ea := Int.emod_add_mul_ediv a 4294967296
  have eb := Int.emod_add_mul_ediv b 4294967296
  rw [shr32 ha.1, shr32 hb.1, Option.bind_some, Option.bind_some, and32 (a := a) (by omega), and32 (a := b) (by omega)]
  generalize a % 4294967296 = a0 at *
  generalize b % 4294967296 = b0 at *
  have C0 : 0 ≤ a / 4294967296 := Int.ediv_nonneg ha.1 (by omega)
  have D0 : 0 ≤ b / 4294967296 := Int.ediv_nonneg hb.1 (by omega)
  generalize a / 4294967296 = a1 at *
  generalize b / 4294967296 = b1 at *
  have hm : a * b = a1 * b1 * 18446744073709551616 + (a1 * b0 + a0 * b1) * 4294967296 + a0 * b0 := by
    rw [← ea, ← eb]
    simp only [Int.add_mul, Int.mul_add]
    have x1 : 4294967296 * a1 * (4294967296 * b1) = a1 * b1 * 18446744073709551616 := by
      rw [Int.mul_assoc, Int.mul_left_comm a1, ← Int.mul_assoc]
      omega
    have x2 : a0 * (4294967296 * b1) = a0 * b1 * 4294967296 := by rw [Int.mul_left_comm]; omega
    have x3 : 4294967296 * a1 * b0 = a1 * b0 * 4294967296 := by rw [Int.mul_assoc]; omega
    rw [x1, x2, x3]
    omega
  have hA1 : a1 ≤ 2147483647 := by omega
  have hB1 : b1 ≤ 2147483647 := by omega
  have q00 : 0 ≤ a0 * b0 ∧ a0 * b0 ≤ 4294967295 * 4294967295 := ⟨Int.mul_nonneg A0 B0, Int.mul_le_mul (by omega) (by omega) B0 (by omega)⟩
  have q10 : 0 ≤ a1 * b0 ∧ a1 * b0 ≤ 2147483647 * 4294967295 := ⟨Int.mul_nonneg C0 B0, Int.mul_le_mul (by omega) (by omega) B0 (by omega)⟩
  have q01 : 0 ≤ a0 * b1 ∧ a0 * b1 ≤ 4294967295 * 2147483647 := ⟨Int.mul_nonneg A0 D0, Int.mul_le_mul (by omega) (by omega) D0 (by omega)⟩
  have q11 : 0 ≤ a1 * b1 ∧ a1 * b1 ≤ 2147483647 * 2147483647 := ⟨Int.mul_nonneg C0 D0, Int.mul_le_mul (by omega) (by omega) D0 (by omega)⟩
  have e0 : IntKind.u64.wrap (a * b) = a * b % 18446744073709551616 := by
    have := Int.emod_nonneg (a * b) (show (18446744073709551616 : Int) ≠ 0 by omega)
    have h2 := Int.emod_lt_of_pos (a * b) (show (0 : Int) < 18446744073709551616 by omega)
    show (a * b) % 18446744073709551616 = _
    rfl
  rw [e0, hm]
  generalize a0 * b0 = z00 at *
  generalize a1 * b0 = z10 at *
  generalize a0 * b1 = z01 at *
  generalize a1 * b1 = z11 at *
  rw [wu64 (x := z00) (by omega), shr32 (a := z00) (by omega), Option.bind_some, wu64 (x := z10) (by omega), wu64 (x := z10 + z00 / 4294967296) (by omega), shr32 (by omega), Option.bind_some, and32 (a := z10 + z00 / 4294967296) (by omega), wu64 (x := z01) (by omega), wu64 (x := (z10 + z00 / 4294967296) % 4294967296 + z01) (by omega), shr32 (by omega), Option.bind_some, wu64 (x := z11) (by omega), wu64 (x := z11 + (z10 + z00 / 4294967296) / 4294967296) (by omega), wu64 (by omega)]
  congr 1
  congr 1
  omega
theorem product_eq {a b : Int} (ha : 0 ≤ a ∧ a ≤ 9223372036854775807) (hb : 0 ≤ b ∧ b ≤ 9223372036854775807) : filter_product a b = some (a * b / 18446744073709551616, a * b % 18446744073709551616) := by
  unfold filter_product
  rw [wu64 (by omega), wu64 (by omega), mul64_eq ha hb]
  rfl
/-! ### comparing -/
def sgn (z : Int) : Int := if z < 0 then -1 else if z > 0 then 1 else 0
theorem sgn_mul {g z : Int} (hg : 0 < g) : sgn (g * z) = sgn z := by
  unfold sgn
  have h1 : g * z < 0 ↔ z < 0 := by
    constructor
    · intro h
      rcases Int.lt_or_le z 0 with hz | hz
      · exact hz
      · have := Int.mul_nonneg (by omega : 0 ≤ g) hz; omega
    · intro h; exact Int.mul_neg_of_pos_of_neg hg h
  have h2 : g * z > 0 ↔ z > 0 := by
    constructor
    · intro h
      rcases Int.lt_or_le 0 z with hz | hz
      · exact hz
      · have := Int.mul_nonpos_of_nonneg_of_nonpos (by omega : 0 ≤ g) hz; omega
    · intro h; exact Int.mul_pos hg h
  simp only [h1, h2]
theorem cmp64 (x y : Int) : cmp_Compare_uint64 x y = some (sgn (x - y)) := by
  unfold cmp_Compare_uint64 cmp_isNaN_uint64 sgn
  simp only [Option.bind_some, ne_eq, not_true, decide_false, Bool.false_eq_true, if_false]
  simp only [decide_eq_true_eq]
  split
  · rw [if_pos (by omega)]
  · split
    · rw [if_neg (by omega), if_pos (by omega)]
    · rw [if_neg (by omega), if_neg (by omega)]
theorem or2 (a b : Int) : cmp_Or_int [a, b] = some (if a ≠ 0 then a else b) := by
  unfold cmp_Or_int
  refine (bind_first (fun k : Nat => (k : Int)) (fun x => decide (x ≠ 0)) (fun _ x => .inl x) (.inr ()) [a, b] (Sum.elim id fun _ => 0) rfl (fun e => by rcases e with x | _ <;> rfl) (fun k x hk => ?_) ?_).trans ?_
  · have hk2 := (List.getElem?_eq_some_iff.1 hk).1
    dsimp only [cmp_Or_int_l1]
    simp only [List.length_cons, List.length_nil] at hk2
    rw [if_pos (by simp; omega), getI_nat, hk, Option.bind_some, wsucc (n := 2) (by omega) (by omega)]
    by_cases h : x = 0 <;> simp [h]
  · dsimp only [cmp_Or_int_l1]
    rw [if_neg (by simp)]
  · unfold firstOr firstOr firstOr
    by_cases h : a = 0 <;> by_cases h2 : b = 0 <;> simp [h, h2]
theorem wcmp_eq (X Y : Int) : filter_wide_compare (X / 18446744073709551616) (X % 18446744073709551616) (Y / 18446744073709551616) (Y % 18446744073709551616) = some (sgn (X - Y)) := by
  unfold filter_wide_compare
  rw [cmp64, cmp64, Option.bind_some, Option.bind_some, or2, Option.bind_some]
  unfold sgn
  congr 1
  split <;> split <;> (try split) <;> (try split) <;> (try split) <;> (try split) <;> omega
/-- comparing by whole parts -/
theorem bcmp_run : ∀ (s : Nat) (n d m k : Int), 0 ≤ n ∧ n ≤ 4611686018427387904 → 0 < d ∧ d ≤ 4611686018427387904 → 0 ≤ m ∧ m ≤ 4611686018427387904 → 0 < k ∧ k ≤ 4611686018427387904 → d + k = s → run base_Compare_l1 (n, d, m, k) = some (sgn (n * k - m * d)) := by
  intro s
  induction s using Nat.strongRecOn with
  | _ s ih =>
    intro n d m k hn hd hm hk hs
    have e1 := Int.emod_add_mul_ediv n d
    have e2 := Int.emod_add_mul_ediv m k
    have r1 := Int.emod_nonneg n (show d ≠ 0 by omega)
    have r2 := Int.emod_lt_of_pos n hd.1
    have r3 := Int.emod_nonneg m (show k ≠ 0 by omega)
    have r4 := Int.emod_lt_of_pos m hk.1
    have p0 : 0 ≤ n / d := Int.ediv_nonneg hn.1 (by omega)
    have q0 : 0 ≤ m / k := Int.ediv_nonneg hm.1 (by omega)
    have d1 : d * (n / d) = n - n % d := by omega
    have d2 : k * (m / k) = m - m % k := by omega
    have step : base_Compare_l1 (n, d, m, k) = if decide (n / d < m / k) = true then some (.inr (-1)) else if decide (n / d > m / k) = true then some (.inr 1) else if decide (n % d = 0) = true then (if decide (m % k = 0) = true then some (.inr 0) else some (.inr (-1))) else if decide (m % k = 0) = true then some (.inr 1) else some (.inl (k, m % k, d, n % d)) := by
      dsimp only [base_Compare_l1]
      rw [bfloor_eq hd.1 (by omega), bfloor_eq hk.1 (by omega), Option.bind_some, Option.bind_some, Int.mul_comm (n / d) d, Int.mul_comm (m / k) k, d1, d2, w64 (x := n - n % d) (by omega), w64 (x := m - m % k) (by omega), w64 (x := n - (n - n % d)) (by omega), w64 (x := m - (m - m % k)) (by omega), show n - (n - n % d) = n % d by omega, show m - (m - m % k) = m % k by omega]
    have hz : n * k - m * d = d * k * (n / d - m / k) + (n % d * k - m % k * d) := by
      have h1 : n * k = d * k * (n / d) + n % d * k := by
        conv => lhs; rw [← e1]
        rw [Int.add_mul, Int.mul_right_comm, Int.add_comm]
      have h2 : m * d = d * k * (m / k) + m % k * d := by
        conv => lhs; rw [← e2]
        rw [Int.add_mul, Int.mul_right_comm, Int.add_comm, Int.mul_comm k d]
      rw [h1, h2, Int.mul_sub]
      omega
    have t1 : 0 ≤ n % d * k := Int.mul_nonneg r1 (by omega)
    have t2 : 0 ≤ m % k * d := Int.mul_nonneg r3 (by omega)
    have t3 : n % d * k < d * k := Int.mul_lt_mul_of_pos_right r2 hk.1
    have t4 : m % k * d < d * k := by rw [Int.mul_comm d k]; exact Int.mul_lt_mul_of_pos_right r4 hd.1
    have t5 : 0 < d * k := Int.mul_pos hd.1 hk.1
    by_cases c1 : n / d < m / k
    · rw [if_pos (by simpa using c1)] at step
      rw [run_stop step]
      have h : d * k * (n / d - m / k) ≤ d * k * (-1) := Int.mul_le_mul_of_nonneg_left (by omega) (by omega)
      unfold sgn
      rw [if_pos (by omega)]
    · rw [if_neg (by simpa using c1)] at step
      by_cases c2 : n / d > m / k
      · rw [if_pos (by simpa using c2)] at step
        rw [run_stop step]
        have h : d * k * 1 ≤ d * k * (n / d - m / k) := Int.mul_le_mul_of_nonneg_left (by omega) (by omega)
        unfold sgn
        rw [if_neg (by omega), if_pos (by omega)]
      · rw [if_neg (by simpa using c2)] at step
        have hz2 : n * k - m * d = n % d * k - m % k * d := by
          rw [hz, show n / d - m / k = 0 by omega, Int.mul_zero, Int.zero_add]
        rw [hz2]
        by_cases c3 : n % d = 0
        · rw [if_pos (by simpa using c3)] at step
          by_cases c4 : m % k = 0
          · rw [if_pos (by simpa using c4)] at step
            rw [run_stop step, c3, c4]
            simp [sgn]
          · rw [if_neg (by simpa using c4)] at step
            have := Int.mul_pos (show 0 < m % k by omega) hd.1
            rw [run_stop step, c3, Int.zero_mul]
            unfold sgn
            rw [if_pos (by omega)]
        · rw [if_neg (by simpa using c3)] at step
          have h5 := Int.mul_pos (show 0 < n % d by omega) hk.1
          by_cases c4 : m % k = 0
          · rw [if_pos (by simpa using c4)] at step
            rw [run_stop step, c4, Int.zero_mul]
            unfold sgn
            rw [if_neg (by omega), if_pos (by omega)]
          · rw [if_neg (by simpa using c4)] at step
            rw [run_next step, ih (m % k + n % d).toNat (by omega) k (m % k) d (n % d) (by omega) (by omega) (by omega) (by omega) (by omega), Int.mul_comm k, Int.mul_comm d]

theorem bcmp_eq {n d m k : Int} (hn : 0 ≤ n ∧ n ≤ 4611686018427387904) (hd : 0 < d ∧ d ≤ 4611686018427387904) (hm : 0 ≤ m ∧ m ≤ 4611686018427387904) (hk : 0 < k ∧ k ≤ 4611686018427387904) : base_Compare n d m k = some (sgn (n * k - m * d)) := by
  unfold base_Compare
  rw [bcmp_run (d + k).toNat n d m k hn hd hm hk (by omega)]
  rfl
theorem pcmp_eq {n d m k : Int} (hn : 0 ≤ n ∧ n ≤ 4611686018427387904) (hd : 0 < d ∧ d ≤ 4611686018427387904) (hm : 0 ≤ m ∧ m ≤ 4611686018427387904) (hk : 0 < k ∧ k ≤ 4611686018427387904) :
    ((filter_product n k).bind fun (a, b) => (filter_product m d).bind fun (c, e) => filter_wide_compare a b c e) = some (sgn (n * k - m * d)) := by
  rw [product_eq (by omega) (by omega), Option.bind_some]
  dsimp only
  rw [product_eq (by omega) (by omega), Option.bind_some]
  exact wcmp_eq _ _
/-! ### squares -/
def sqr (a b c p q r : Int) : Int := (a * (p * p - q * q) + b * p * r + c * r * r) * (a * (p * p - q * q) + b * p * r + c * r * r) + (2 * a * p * q + b * q * r) * (2 * a * p * q + b * q * r)
theorem mulb {a b : Int} {A B : Nat} (ha : -(A : Int) ≤ a ∧ a ≤ A) (hb : -(B : Int) ≤ b ∧ b ≤ B) : -((A * B : Nat) : Int) ≤ a * b ∧ a * b ≤ ((A * B : Nat) : Int) := by
  have : (a * b).natAbs ≤ A * B := by rw [Int.natAbs_mul]; exact Nat.mul_le_mul (by omega) (by omega)
  omega
theorem sqr_eq {a b c p q r : Int} (ha : -32768 ≤ a ∧ a ≤ 32768) (hb : -32768 ≤ b ∧ b ≤ 32768) (hc : -32768 ≤ c ∧ c ≤ 32768) (hp : -100 ≤ p ∧ p ≤ 100) (hq : -100 ≤ q ∧ q ≤ 100) (hr : -100 ≤ r ∧ r ≤ 100) :
    ref06_square a b c p q r = some (sqr a b c p q r) ∧ 0 ≤ sqr a b c p q r ∧ sqr a b c p q r ≤ 4611686018427387904 := by
  have pp := mulb (A := 100) (B := 100) hp hp
  have qq := mulb (A := 100) (B := 100) hq hq
  have pp0 : 0 ≤ p * p := by rw [← Int.natAbs_mul_self]; omega
  have qq0 : 0 ≤ q * q := by rw [← Int.natAbs_mul_self]; omega
  have x1 := mulb (A := 32768) (B := 10000) (a := a) (b := p * p - q * q) (by omega) (by omega)
  have x2 := mulb (A := 32768) (B := 100) (a := b) (b := p) (by omega) (by omega)
  have x3 := mulb (A := 3276800) (B := 100) (a := b * p) (b := r) (by omega) (by omega)
  have x4 := mulb (A := 32768) (B := 100) (a := c) (b := r) (by omega) (by omega)
  have x5 := mulb (A := 3276800) (B := 100) (a := c * r) (b := r) (by omega) (by omega)
  have y1 := mulb (A := 65536) (B := 100) (a := 2 * a) (b := p) (by omega) (by omega)
  have y2 := mulb (A := 6553600) (B := 100) (a := 2 * a * p) (b := q) (by omega) (by omega)
  have y3 := mulb (A := 32768) (B := 100) (a := b) (b := q) (by omega) (by omega)
  have y4 := mulb (A := 3276800) (B := 100) (a := b * q) (b := r) (by omega) (by omega)
  have z1 := mulb (A := 983040000) (B := 983040000) (a := a * (p * p - q * q) + b * p * r + c * r * r) (b := a * (p * p - q * q) + b * p * r + c * r * r) (by omega) (by omega)
  have z2 := mulb (A := 983040000) (B := 983040000) (a := 2 * a * p * q + b * q * r) (b := 2 * a * p * q + b * q * r) (by omega) (by omega)
  have z3 : 0 ≤ (a * (p * p - q * q) + b * p * r + c * r * r) * (a * (p * p - q * q) + b * p * r + c * r * r) := by rw [← Int.natAbs_mul_self]; omega
  have z4 : 0 ≤ (2 * a * p * q + b * q * r) * (2 * a * p * q + b * q * r) := by rw [← Int.natAbs_mul_self]; omega
  refine ⟨?_, by unfold sqr; omega, by unfold sqr; omega⟩
  unfold ref06_square sqr
  rw [w64 (x := p * p) (by omega), w64 (x := q * q) (by omega), w64 (x := p * p - q * q) (by omega), w64 (x := a * (p * p - q * q)) (by omega), w64 (x := b * p) (by omega), w64 (x := b * p * r) (by omega), w64 (x := a * (p * p - q * q) + b * p * r) (by omega), w64 (x := c * r) (by omega), w64 (x := c * r * r) (by omega), w64 (x := a * (p * p - q * q) + b * p * r + c * r * r) (by omega), w64 (x := 2 * a) (by omega), w64 (x := 2 * a * p) (by omega), w64 (x := 2 * a * p * q) (by omega), w64 (x := b * q) (by omega), w64 (x := b * q * r) (by omega), w64 (x := 2 * a * p * q + b * q * r) (by omega),
    w64 (x := (a * (p * p - q * q) + b * p * r + c * r * r) * (a * (p * p - q * q) + b * p * r + c * r * r)) (by omega), w64 (x := (2 * a * p * q + b * q * r) * (2 * a * p * q + b * q * r)) (by omega), w64 (by omega)]
theorem sqr_opp (a b c p q r : Int) : sqr a b c p (-q) r = sqr a b c p q r := by
  unfold sqr
  have h1 : -q * -q = q * q := Int.neg_mul_neg q q
  have h2 : 2 * a * p * -q + b * -q * r = -(2 * a * p * q + b * q * r) := by
    rw [Int.mul_neg, Int.mul_neg, Int.neg_mul]
    omega
  rw [h1, h2, Int.neg_mul_neg]
theorem fsq (a b c p q r : Int) : filter_sizeSquared a b c p q r = ref06_square a b c p q r := rfl
/-! ### turns -/
def trE (p q r : Int) : Int := if 1 ≤ r ∧ r ≤ 100 then (if (-r ≤ p ∧ p ≤ r) ∧ (-r ≤ q ∧ q ≤ r) ∧ p * p + q * q = r * r then 0 else 10) else 2
theorem isSmall_some (x m : Int) : ∃ b, filter_isSmall x m = some b := by
  unfold filter_isSmall
  split <;> exact ⟨_, rfl⟩
theorem first2' {a : Int} (h : a ≠ 0) (b : Int) : filter_firstError [a, b] = some a := by rw [first2, if_pos h]
theorem sq_w {p r : Int} (hr : 1 ≤ r ∧ r ≤ 100) (hp : -r ≤ p ∧ p ≤ r) : IntKind.i64.wrap (p * p) = p * p ∧ 0 ≤ p * p ∧ p * p ≤ 10000 := by
  have pp := mulb (A := 100) (B := 100) (a := p) (b := p) (by omega) (by omega)
  have pp0 : 0 ≤ p * p := by rw [← Int.natAbs_mul_self]; omega
  exact ⟨w64 (by omega), pp0, by omega⟩
theorem fturn_eq (p q r : Int) : filter_turnError p q r = some (trE p q r) := by
  unfold filter_turnError trE
  by_cases hr : 1 ≤ r ∧ r ≤ 100
  · rw [if_pos hr, isSmall_eq (by omega), isSmall_eq (by omega), fwithin_eq, if_pos hr]
    simp only [Option.bind_some, refuse_eq, first2]
    by_cases hp : -r ≤ p ∧ p ≤ r
    · have b1 : smallB r p = true := by unfold smallB; rw [decide_eq_true_eq]; exact hp
      rw [b1, if_pos rfl]
      by_cases hq : -r ≤ q ∧ q ≤ r
      · have b2 : smallB r q = true := by unfold smallB; rw [decide_eq_true_eq]; exact hq
        obtain ⟨p1, p2, p3⟩ := sq_w hr hp
        obtain ⟨q1, q2, q3⟩ := sq_w hr hq
        obtain ⟨r1, r2, r3⟩ := sq_w (p := r) hr (by omega)
        rw [b2, if_pos rfl, p1, q1, r1, w64 (x := p * p + q * q) (by omega)]
        by_cases h : p * p + q * q = r * r <;> simp [h, hp, hq]
      · have b2 : smallB r q = false := by unfold smallB; rw [decide_eq_false_iff_not]; exact hq
        have nq : ¬ ((-r ≤ p ∧ p ≤ r) ∧ (-r ≤ q ∧ q ≤ r) ∧ p * p + q * q = r * r) := fun h => hq h.2.1
        rw [b2, if_neg nq]
        simp
    · have b1 : smallB r p = false := by unfold smallB; rw [decide_eq_false_iff_not]; exact hp
      have np : ¬ ((-r ≤ p ∧ p ≤ r) ∧ (-r ≤ q ∧ q ≤ r) ∧ p * p + q * q = r * r) := fun h => hp h.1
      rw [b1, if_neg np]
      simp
  · rw [if_neg hr, fwithin_eq, if_neg hr]
    obtain ⟨b1, h1⟩ := isSmall_some p r
    obtain ⟨b2, h2⟩ := isSmall_some q r
    rw [h1, h2]
    simp only [Option.bind_some, refuse_eq, first2' (show (2 : Int) ≠ 0 by omega)]
    cases b1 <;> cases b2 <;> rfl
theorem rturn_eq (p q r : Int) : ref06_TurnErr p q r = some (trE p q r) := by
  unfold ref06_TurnErr trE
  rw [within_eq, Option.bind_some]
  by_cases hr : 1 ≤ r ∧ r ≤ 100
  · rw [if_pos (by rw [decide_eq_true_eq]; exact hr), if_pos hr, wneg (by omega), within_eq, within_eq, Option.bind_some, Option.bind_some]
    by_cases hp : -r ≤ p ∧ p ≤ r
    · rw [if_pos (by rw [decide_eq_true_eq]; exact hp)]
      by_cases hq : -r ≤ q ∧ q ≤ r
      · obtain ⟨p1, p2, p3⟩ := sq_w hr hp
        obtain ⟨q1, q2, q3⟩ := sq_w hr hq
        obtain ⟨r1, r2, r3⟩ := sq_w (p := r) hr (by omega)
        rw [if_pos (by rw [decide_eq_true_eq]; exact hq), p1, q1, r1, w64 (x := p * p + q * q) (by omega)]
        by_cases h : p * p + q * q = r * r <;> simp [h, hp, hq]
      · rw [if_neg (by rw [decide_eq_true_eq]; exact hq), if_neg (fun h => hq h.2.1)]
    · rw [if_neg (by rw [decide_eq_true_eq]; exact hp), if_neg (fun h => hp h.1)]
  · rw [if_neg (by rw [decide_eq_true_eq]; exact hr), if_neg hr]
end Go.Rex

namespace Go.Rex
theorem gcd_some (a b : Int) : ∃ g, base_Gcd a b = some g := by
  obtain ⟨r, hr, _⟩ := gcd_run b.natAbs a b rfl
  unfold base_Gcd
  rw [hr]
  exact ⟨_, rfl⟩
noncomputable def frE (f : Int × Int) : Int := if f.2 ≤ 0 then 3 else if base_Gcd f.1 f.2 ≠ some 1 then 3 else if (smallB 1000000000 f.1 && smallB 1000000000 f.2) = true then 0 else 2
theorem smallB_iff {m x : Int} : smallB m x = true ↔ -m ≤ x ∧ x ≤ m := by
  unfold smallB
  rw [decide_eq_true_eq]
theorem frE_zero {f : Int × Int} (h : frE f = 0) : 0 < f.2 ∧ f.2 ≤ 1000000000 ∧ -1000000000 ≤ f.1 ∧ f.1 ≤ 1000000000 := by
  unfold frE at h
  split at h
  · cases h
  · split at h
    · cases h
    · split at h
      · rename_i h1 _ h2
        rw [Bool.and_eq_true, smallB_iff, smallB_iff] at h2
        omega
      · cases h
theorem form_eq (a b : Int) : filter_formError a b = some (if b ≤ 0 then 3 else if base_Gcd a b ≠ some 1 then 3 else 0) := by
  unfold filter_formError
  simp only [div_gcd, refuse_eq, Option.bind_some]
  by_cases h : b ≤ 0
  · rw [if_pos (by rw [decide_eq_true_eq]; exact h), if_pos h]
    rfl
  · rw [if_neg (by rw [decide_eq_true_eq]; exact h), if_neg h]
    obtain ⟨g, hg⟩ := gcd_some a b
    rw [hg, Option.bind_some]
    by_cases h2 : g = 1 <;> simp [h2]
theorem rfrac_eq (a b : Int) : ref06_FracErr a b = some (frE (a, b)) := by
  unfold ref06_FracErr base_IsLowest base_IsSmall frE
  by_cases h : b ≤ 0
  · rw [if_neg (by rw [decide_eq_true_eq]; omega), if_pos h]
    rfl
  · rw [if_pos (by rw [decide_eq_true_eq]; omega), if_neg h]
    obtain ⟨g, hg⟩ := gcd_some a b
    rw [hg, within_eq, within_eq]
    simp only [Option.bind_some]
    by_cases h2 : g = 1
    · subst h2
      simp only [decide_true, if_true, ne_eq, not_true, if_false, smallB]
      by_cases h3 : -1000000000 ≤ a ∧ a ≤ 1000000000
      · by_cases h4 : b ≤ 1000000000
        · have h5 : (-1000000000 : Int) ≤ b ∧ b ≤ 1000000000 := by omega
          have h6 : (1 : Int) ≤ b ∧ b ≤ 1000000000 := by omega
          simp [h3, h5, h6]
        · simp [h3, h4]
      · have h3' : -1000000000 ≤ a → 1000000000 < a := by omega
        simp only [h3, decide_false, Bool.false_eq_true, if_false, Bool.false_and, Option.bind_some]
    · have h3 : ¬ (some g = some 1) := by simp [h2]
      simp [h2]
end Go.Rex

namespace Go.Rex
theorem low_big {n d : Int} (hn : 0 ≤ n ∧ n ≤ 4611686018427387904) (hd : 0 < d ∧ d ≤ 4611686018427387904) : ∃ x y g : Int, 0 < g ∧ filter_lowest n d = some (x, y) ∧ base_Lowest n d = some (x, y) ∧ x * g = n ∧ y * g = d ∧ 0 ≤ x ∧ 0 < y := by
  have hgp : 0 < Nat.gcd n.natAbs d.natAbs := Nat.gcd_pos_of_pos_right _ (by omega)
  have d1 : ((Nat.gcd n.natAbs d.natAbs : Nat) : Int) ∣ n := Int.natAbs_dvd_natAbs.1 (by simpa using Nat.gcd_dvd_left n.natAbs d.natAbs)
  have d2 : ((Nat.gcd n.natAbs d.natAbs : Nat) : Int) ∣ d := Int.natAbs_dvd_natAbs.1 (by simpa using Nat.gcd_dvd_right n.natAbs d.natAbs)
  have e := gcd_eq (a := n) (b := d) (by omega) (by omega)
  generalize Nat.gcd n.natAbs d.natAbs = g at *
  have h1 := Int.natAbs_tdiv_le_natAbs n (g : Int)
  have h2 := Int.natAbs_tdiv_le_natAbs d (g : Int)
  have h3 := Int.tdiv_nonneg hn.1 (show (0 : Int) ≤ g by omega)
  have h4 := Int.tdiv_nonneg (show 0 ≤ d by omega) (show (0 : Int) ≤ g by omega)
  have c1 := Int.tdiv_mul_cancel d1
  have c2 := Int.tdiv_mul_cancel d2
  have h5 : d.tdiv g ≠ 0 := by
    intro h
    rw [h, Int.zero_mul] at c2
    omega
  refine ⟨n.tdiv g, d.tdiv g, g, by omega, ?_, ?_, c1, c2, h3, by omega⟩
  · unfold filter_lowest
    rw [if_neg (by rw [decide_eq_true_eq]; omega), div_gcd, e, Option.bind_some, if_neg (by omega), w64 (by omega), w64 (by omega)]
  · unfold base_Lowest
    rw [e, Option.bind_some, if_neg (by rw [decide_eq_true_eq]; omega), if_neg (by omega), w64 (by omega), w64 (by omega)]
/-- a right section, a right turn -/
structure Fit (a b c d e p q r : Int) : Prop where
  sec : secB (a, b, c, d, e) = true
  tr : trE p q r = 0
theorem Fit.turn {a b c d e p q r : Int} (h : Fit a b c d e p q r) : (1 ≤ r ∧ r ≤ 100) ∧ (-r ≤ p ∧ p ≤ r) ∧ (-r ≤ q ∧ q ≤ r) ∧ p * p + q * q = r * r := by
  have := h.tr
  unfold trE at this
  split at this
  · split at this
    · rename_i h1 h2
      exact ⟨h1, h2⟩
    · cases this
  · cases this
theorem Fit.opp {a b c d e p q r : Int} (h : Fit a b c d e p q r) : Fit a b c d e p (-q) r := by
  obtain ⟨h1, h2, h3, h4⟩ := h.turn
  refine ⟨h.sec, ?_⟩
  unfold trE
  rw [if_pos h1, if_pos ⟨h2, by omega, by rw [Int.neg_mul_neg]; exact h4⟩]
def gN (a b c p q r : Int) : Int := sqr a b c p q r
theorem Fit.num {a b c d e p q r : Int} (h : Fit a b c d e p q r) : ref06_square a b c p q r = some (sqr a b c p q r) ∧ 0 ≤ sqr a b c p q r ∧ sqr a b c p q r ≤ 4611686018427387904 := by
  obtain ⟨h1, h2, h3, h4⟩ := h.turn
  obtain ⟨s1, s2, s3, s4, s5⟩ := secB_iff.1 h.sec
  exact sqr_eq s1 s2 s3 (by omega) (by omega) (by omega)
theorem Fit.den {a b c d e p q r : Int} (h : Fit a b c d e p q r) : ref06_square 16384 d e p q r = some (sqr 16384 d e p q r) ∧ 0 ≤ sqr 16384 d e p q r ∧ sqr 16384 d e p q r ≤ 4611686018427387904 := by
  obtain ⟨h1, h2, h3, h4⟩ := h.turn
  obtain ⟨s1, s2, s3, s4, s5⟩ := secB_iff.1 h.sec
  exact sqr_eq (by omega) s4 s5 (by omega) (by omega) (by omega)
theorem gainOf_eq {a b c d e p q r n m : Int} (h1 : ref06_square a b c p q r = some n) (h2 : ref06_square 16384 d e p q r = some m) : filter_gainOf a b c d e p q r = some (if m = 0 then (0, 0, 11) else (n, m, 0)) := by
  unfold filter_gainOf
  rw [fsq, fsq, h1, h2, Option.bind_some, Option.bind_some]
  by_cases h : m = 0
  · rw [if_pos (by rw [decide_eq_true_eq]; exact h), if_pos h]
  · rw [if_neg (by rw [decide_eq_true_eq]; exact h), if_neg h]
theorem rGain_eq {a b c d e p q r n m : Int} (h1 : ref06_square a b c p q r = some n) (h2 : ref06_square 16384 d e p q r = some m) : ref06_Gain a b c d e p q r = some (n, m) := by
  unfold ref06_Gain
  rw [h1, h2]
  rfl
/-- a gain that is told -/
def gTold (n m x y : Int) : Int × Int × Int := if m = 0 then (0, 0, 11) else if x ≤ 1000000000 ∧ y ≤ 1000000000 then (x, y, 0) else (0, 0, 8)
theorem fTold {a b c d e p q r n m x y : Int} (hs : filter_CheckSection a b c d e = some 0) (ht : filter_turnError p q r = some 0) (h1 : ref06_square a b c p q r = some n) (h2 : ref06_square 16384 d e p q r = some m) (hl : m ≠ 0 → filter_lowest n m = some (x, y)) : filter_GainSquare a b c d e p q r = some (gTold n m x y) := by
  unfold filter_GainSquare gTold
  rw [hs, ht, gainOf_eq h1 h2]
  simp only [Option.bind_some, first2]
  by_cases h : m = 0
  · simp [h]
  · simp only [h, hl h, if_false, ne_eq, not_true, decide_false, Bool.false_eq_true, Option.bind_some]
    by_cases hc : x ≤ 1000000000 ∧ y ≤ 1000000000
    · rw [if_pos hc, if_neg]
      rw [decide_eq_true_eq]
      split <;> omega
    · rw [if_neg hc, if_pos]
      rw [decide_eq_true_eq]
      split <;> omega
theorem rTold {a b c d e p q r n m x y : Int} (h1 : ref06_square a b c p q r = some n) (h2 : ref06_square 16384 d e p q r = some m) (hl : m ≠ 0 → base_Lowest n m = some (x, y) ∧ 0 ≤ x ∧ 0 < y) : ref06_GainSquare a b c d e p q r = some (gTold n m x y) := by
  unfold ref06_GainSquare gTold
  rw [rGain_eq h1 h2, Option.bind_some]
  dsimp only
  by_cases h : m = 0
  · rw [if_pos (by rw [decide_eq_true_eq]; exact h), if_pos h]
  · obtain ⟨l1, l2, l3⟩ := hl h
    rw [if_neg (by rw [decide_eq_true_eq]; exact h), if_neg h, l1, Option.bind_some]
    dsimp only
    unfold base_IsSmall
    rw [within_eq, within_eq]
    simp only [Option.bind_some]
    by_cases hc : x ≤ 1000000000 ∧ y ≤ 1000000000
    · have c1 : -1000000000 ≤ x ∧ x ≤ 1000000000 := by omega
      have c2 : 1 ≤ y ∧ y ≤ 1000000000 := by omega
      simp [c1, c2]
    · rw [if_neg hc]
      by_cases c1 : -1000000000 ≤ x ∧ x ≤ 1000000000
      · have c2 : ¬ (1 ≤ y ∧ y ≤ 1000000000) := by omega
        simp only [c1, c2, and_self, decide_true, if_true, decide_false, Option.bind_some, Bool.false_eq_true, if_false]
      · simp only [c1, decide_false, Option.bind_some, Bool.false_eq_true, if_false]
/-- the error of a comparison, in a right case -/
def cmE (fr num : Int) : Int := if fr ≠ 0 then fr else if num < 0 then 2 else 0
theorem first5 {f w1 w2 : Int} : filter_firstError [0, 0, f, w1, w2] = some (if f ≠ 0 then f else if w1 ≠ 0 then w1 else w2) := by
  rw [firstError_eq _ (by simp)]
  unfold firstOr firstOr firstOr firstOr firstOr firstOr
  by_cases h : f = 0 <;> by_cases h1 : w1 = 0 <;> by_cases h2 : w2 = 0 <;> simp [h, h1, h2]
theorem form_frE (x y : Int) : (if (if y ≤ 0 then (3 : Int) else if base_Gcd x y ≠ some 1 then 3 else 0) ≠ 0 then (if y ≤ 0 then (3 : Int) else if base_Gcd x y ≠ some 1 then 3 else 0) else if (if 0 ≤ x ∧ x ≤ 1000000000 then (0 : Int) else 2) ≠ 0 then (if 0 ≤ x ∧ x ≤ 1000000000 then (0 : Int) else 2) else (if 1 ≤ y ∧ y ≤ 1000000000 then (0 : Int) else 2)) = cmE (frE (x, y)) x := by
  unfold cmE frE
  by_cases hy : y ≤ 0
  · simp [hy]
  · by_cases hg : base_Gcd x y = some 1
    · have e : (smallB 1000000000 x && smallB 1000000000 y) = decide ((-1000000000 ≤ x ∧ x ≤ 1000000000) ∧ y ≤ 1000000000) := by
        rw [Bool.eq_iff_iff, Bool.and_eq_true, smallB_iff, smallB_iff, decide_eq_true_eq]
        constructor <;> intro h <;> omega
      simp only [hy, hg, ne_eq, not_true, if_false, e, decide_eq_true_eq]
      by_cases c1 : 0 ≤ x ∧ x ≤ 1000000000
      · have c3 : -1000000000 ≤ x ∧ x ≤ 1000000000 := by omega
        have c4 : ¬ x < 0 := by omega
        by_cases c2 : y ≤ 1000000000
        · have c5 : 1 ≤ y ∧ y ≤ 1000000000 := by omega
          simp only [c1, c2, c3, c4, c5, and_self, not_true, if_true, if_false]
        · have c5 : ¬ (1 ≤ y ∧ y ≤ 1000000000) := by omega
          simp only [c1, c2, c3, c4, c5, and_self, and_false, not_true, if_true, if_false]
          rfl
      · by_cases c3 : (-1000000000 ≤ x ∧ x ≤ 1000000000) ∧ y ≤ 1000000000
        · have c4 : x < 0 := by omega
          have c5 : ¬ 0 ≤ x := by omega
          simp [c3, c4, c5]
        · simp only [c1, c3, if_false]
          rfl
    · simp [hy, hg]
theorem fComp {a b c d e p q r n m u v z : Int} (hs : filter_CheckSection a b c d e = some 0) (ht : filter_turnError p q r = some 0) (h1 : ref06_square a b c p q r = some n) (h2 : ref06_square 16384 d e p q r = some m) (hc : cmE (frE (u, v)) u = 0 → m ≠ 0 → ((filter_product n v).bind fun (a, b) => (filter_product u m).bind fun (c, e) => filter_wide_compare a b c e) = some z) :
    filter_CompareGain a b c d e p q r u v = some (if cmE (frE (u, v)) u ≠ 0 then (0, cmE (frE (u, v)) u) else if m = 0 then (0, 11) else (z, 0)) := by
  unfold filter_CompareGain
  rw [hs, ht, form_eq, fwithin_eq, fwithin_eq, gainOf_eq h1 h2]
  simp only [Option.bind_some, first5, form_frE]
  generalize cmE (frE (u, v)) u = w at hc
  by_cases hw : w = 0
  · by_cases h : m = 0
    · simp [hw, h]
    · have := hc hw h
      simp only [hw, h, ne_eq, not_true, decide_false, Bool.false_eq_true, if_false]
      rw [Option.bind_eq_some_iff] at this
      obtain ⟨⟨a1, a2⟩, k1, k2⟩ := this
      rw [Option.bind_eq_some_iff] at k2
      obtain ⟨⟨a3, a4⟩, k3, k4⟩ := k2
      simp only at k4
      simp only [k1, k3, k4, Option.bind_some]
  · simp [hw]
theorem rComp {a b c d e p q r n m u v z : Int} (h1 : ref06_square a b c p q r = some n) (h2 : ref06_square 16384 d e p q r = some m) (hc : m ≠ 0 → base_Compare n m u v = some z) : ref06_CompareGain a b c d e p q r u v = some (if m = 0 then (0, 11) else (z, 0)) := by
  unfold ref06_CompareGain
  rw [rGain_eq h1 h2, Option.bind_some]
  dsimp only
  by_cases h : m = 0
  · rw [if_pos (by rw [decide_eq_true_eq]; exact h), if_pos h]
  · rw [if_neg (by rw [decide_eq_true_eq]; exact h), if_neg h, hc h]
    rfl
theorem cmp_eq {x y u v g n m : Int} (hx : 0 ≤ x ∧ x ≤ 1000000000) (hy : 0 < y ∧ y ≤ 1000000000) (hu : 0 ≤ u ∧ u ≤ 1000000000) (hv : 0 < v ∧ v ≤ 1000000000) (hg : 0 < g) (h1 : x * g = n) (h2 : y * g = m) : base_Cmp x y u v = some (sgn (n * v - u * m)) := by
  have p1 := mulb (A := 1000000000) (B := 1000000000) (a := x) (b := v) (by omega) (by omega)
  have p2 := mulb (A := 1000000000) (B := 1000000000) (a := u) (b := y) (by omega) (by omega)
  have e : n * v - u * m = g * (x * v - u * y) := by
    subst h1 h2
    rw [Int.mul_sub, Int.mul_right_comm, Int.mul_comm _ g, ← Int.mul_assoc, ← Int.mul_assoc u, Int.mul_comm (u * y) g]
  rw [e, sgn_mul hg]
  unfold base_Cmp sgn
  rw [w64 (x := x * v) (by omega), w64 (x := u * y) (by omega)]
  simp only [decide_eq_true_eq]
  split
  · rw [if_pos (by omega)]
  · split
    · rw [if_neg (by omega), if_pos (by omega)]
    · rw [if_neg (by omega), if_neg (by omega)]
/-! ### the law -/
section
variable {v1 v2 v3 v4 v5 v6 v7 v8 v9 v10 : Int}
theorem law_bad1 {k : Int} (hk : k ≠ 0) (c1 : filter_CompareGain v1 v2 v3 v4 v5 v6 v7 v8 v9 v10 = some (0, k)) (c2 : filter_GainSquare v1 v2 v3 v4 v5 v6 v7 v8 = some (0, 0, k)) (c3 : ref06_CheckSection v1 v2 v3 v4 v5 = some k) : law06_FilterGains v1 v2 v3 v4 v5 v6 v7 v8 v9 v10 = some true := by
  unfold law06_FilterGains
  simp [c1, c2, c3, hk]
theorem law_bad2 {k : Int} (hk : k ≠ 0) (c1 : filter_CompareGain v1 v2 v3 v4 v5 v6 v7 v8 v9 v10 = some (0, k)) (c2 : filter_GainSquare v1 v2 v3 v4 v5 v6 v7 v8 = some (0, 0, k)) (c3 : ref06_CheckSection v1 v2 v3 v4 v5 = some 0) (c4 : ref06_TurnErr v6 v7 v8 = some k) : law06_FilterGains v1 v2 v3 v4 v5 v6 v7 v8 v9 v10 = some true := by
  unfold law06_FilterGains
  simp [c1, c2, c3, c4, hk]
theorem law_good {x y k cv ce fr q' : Int} (hq : IntKind.i64.wrap (0 - v7) = q') (c1 : filter_CompareGain v1 v2 v3 v4 v5 v6 v7 v8 v9 v10 = some (cv, ce)) (c2 : filter_GainSquare v1 v2 v3 v4 v5 v6 v7 v8 = some (x, y, k)) (c3 : ref06_CheckSection v1 v2 v3 v4 v5 = some 0) (c4 : ref06_TurnErr v6 v7 v8 = some 0) (c5 : ref06_GainSquare v1 v2 v3 v4 v5 v6 v7 v8 = some (x, y, k)) (c6 : filter_GainSquare v1 v2 v3 v4 v5 v6 q' v8 = some (x, y, k)) (c7 : ref06_FracErr v9 v10 = some fr)
    (hc : (fr ≠ 0 ∧ ce = fr ∧ cv = 0) ∨ (fr = 0 ∧ v9 < 0 ∧ ce = 2 ∧ cv = 0) ∨ (fr = 0 ∧ ¬ v9 < 0 ∧ ref06_CompareGain v1 v2 v3 v4 v5 v6 v7 v8 v9 v10 = some (cv, ce) ∧ (k = 0 → ce = 0 → base_Cmp x y v9 v10 = some cv))) : law06_FilterGains v1 v2 v3 v4 v5 v6 v7 v8 v9 v10 = some true := by
  unfold law06_FilterGains
  simp only [hq]
  rcases hc with ⟨h1, rfl, rfl⟩ | ⟨rfl, h2, rfl, rfl⟩ | ⟨rfl, h2, h3, h4⟩
  · by_cases hk : k = 0 <;> simp [c1, c2, c3, c4, c5, c6, c7, h1, hk]
  · by_cases hk : k = 0 <;> simp [c1, c2, c3, c4, c5, c6, c7, h2, hk]
  · by_cases hk : k = 0
    · by_cases he : ce = 0
      · have h5 := h4 hk he
        simp [c1, c2, c3, c4, c5, c6, c7, h2, h3, h5, hk, he]
      · simp [c1, c2, c3, c4, c5, c6, c7, h2, h3, hk, he]
    · simp [c1, c2, c3, c4, c5, c6, c7, h2, h3, hk]
end
theorem gains_true (a b c d e p q r u v : Int) : law06_FilterGains a b c d e p q r u v = some true := by
  have s1 := fsec_eq a b c d e
  have s2 := rsec_eq a b c d e
  have t1 := fturn_eq p q r
  have t2 := rturn_eq p q r
  by_cases hs : secB (a, b, c, d, e) = true
  · have hE : secE (a, b, c, d, e) = 0 := by unfold secE; rw [if_pos hs]
    rw [hE] at s1 s2
    by_cases ht : trE p q r = 0
    · rw [ht] at t1 t2
      have F : Fit a b c d e p q r := ⟨hs, ht⟩
      have G := F.opp
      obtain ⟨n1, n2, n3⟩ := F.num
      obtain ⟨m1, m2, m3⟩ := F.den
      have n1' := G.num.1
      have m1' := G.den.1
      rw [sqr_opp] at n1' m1'
      have t1' := fturn_eq p (-q) r
      rw [G.tr] at t1'
      obtain ⟨hr, hp, hq, _⟩ := F.turn
      generalize sqr a b c p q r = n at *
      generalize sqr 16384 d e p q r = m at *
      obtain ⟨x, y, g, L⟩ : ∃ x y g : Int, m ≠ 0 → 0 < g ∧ filter_lowest n m = some (x, y) ∧ base_Lowest n m = some (x, y) ∧ x * g = n ∧ y * g = m ∧ 0 ≤ x ∧ 0 < y := by
        by_cases h : m = 0
        · exact ⟨0, 0, 0, fun hc => absurd h hc⟩
        · obtain ⟨x, y, g, l⟩ := low_big (n := n) (d := m) ⟨n2, n3⟩ ⟨by omega, m3⟩
          exact ⟨x, y, g, fun _ => l⟩
      have g1 := fTold s1 t1 n1 m1 fun h => (L h).2.1
      have g2 := rTold n1 m1 fun h => ⟨(L h).2.2.1, (L h).2.2.2.2.2⟩
      have g3 := fTold s1 t1' n1' m1' fun h => (L h).2.1
      have f1 := rfrac_eq u v
      have k1 := fComp (u := u) (v := v) (z := sgn (n * v - u * m)) s1 t1 n1 m1 fun hc h => by
        have hf : frE (u, v) = 0 ∧ ¬ u < 0 := by
          unfold cmE at hc
          split at hc
          · rename_i h1; exact absurd hc h1
          · rename_i h1
            split at hc
            · cases hc
            · rename_i h2; exact ⟨Classical.byContradiction h1, h2⟩
        obtain ⟨f1, f2, f3, f4⟩ := frE_zero hf.1
        simp only at f1 f2 f3 f4
        exact pcmp_eq ⟨n2, n3⟩ ⟨by omega, m3⟩ (by omega) (by omega)
      have hw : IntKind.i64.wrap (0 - q) = -q := wneg (by omega)
      refine law_good hw (fr := frE (u, v)) (by rw [k1]) (by rw [g1]) s2 t2 (by rw [g2]) (by rw [g3]) f1 ?_
      by_cases hf : frE (u, v) = 0
      · by_cases hu : u < 0
        · right; left
          have : cmE (frE (u, v)) u = 2 := by unfold cmE; rw [if_neg (fun h => h hf), if_pos hu]
          rw [this]
          exact ⟨hf, hu, rfl, rfl⟩
        · right; right
          have hz : cmE (frE (u, v)) u = 0 := by unfold cmE; rw [if_neg (fun h => h hf), if_neg hu]
          obtain ⟨f1, f2, f3, f4⟩ := frE_zero hf
          simp only at f1 f2 f3 f4
          rw [hz, if_neg (fun h => h rfl)]
          refine ⟨hf, hu, ?_, ?_⟩
          · rw [rComp (z := sgn (n * v - u * m)) n1 m1 fun h => bcmp_eq ⟨n2, n3⟩ ⟨by omega, m3⟩ (by omega) (by omega)]
          · unfold gTold
            by_cases h : m = 0
            · rw [if_pos h]
              intro hk
              cases hk
            · obtain ⟨l1, l2, l3, l4, l5, l6, l7⟩ := L h
              rw [if_neg h, if_neg h]
              by_cases hxy : x ≤ 1000000000 ∧ y ≤ 1000000000
              · rw [if_pos hxy]
                intro _ _
                exact cmp_eq ⟨l6, hxy.1⟩ ⟨l7, hxy.2⟩ (by omega) (by omega) l1 l4 l5
              · rw [if_neg hxy]
                intro hk
                cases hk
      · left
        have : cmE (frE (u, v)) u = frE (u, v) := by unfold cmE; rw [if_pos hf]
        rw [this, if_pos hf]
        exact ⟨hf, rfl, rfl⟩
    · refine law_bad2 ht ?_ ?_ s2 t2
      · unfold filter_CompareGain
        rw [s1, t1, form_eq, fwithin_eq, fwithin_eq]
        simp only [Option.bind_some]
        rw [firstError_eq _ (by simp)]
        unfold firstOr firstOr
        simp [ht]
      · unfold filter_GainSquare
        rw [s1, t1]
        simp only [Option.bind_some, first2]
        simp [ht]
  · have hE : secE (a, b, c, d, e) = 2 := by unfold secE; rw [if_neg hs]
    rw [hE] at s1 s2
    refine law_bad1 (k := 2) (by omega) ?_ ?_ s2
    · unfold filter_CompareGain
      rw [s1, t1, form_eq, fwithin_eq, fwithin_eq]
      simp only [Option.bind_some]
      rw [firstError_eq _ (by simp)]
      unfold firstOr
      simp
    · unfold filter_GainSquare
      rw [s1, t1]
      simp only [Option.bind_some, first2]
      simp
end Go.Rex

namespace Go.Rex
open Go Go.ChangeShapes Go.WideShapes Go.ChangeAt Go.RowKit Go.Joins Go.Proofs
/-! ### arguments: what they are as trees, and the names of their blocks -/
structure Arg (W : World) (v' : Value) (p : TV) (bs : List Blk) (is : List Info) (av : Nat → Value) : Prop where
  vr : ∀ (D : Nat → Prop) (m : NMap) n, (∀ j, j < bs.length → D (n + j)) → (∀ (j : Nat) i, is[j]? = some i → m (n + j) = i) → VR D m (av n) v'
  vl : ∀ (Fz : Nat → Prop) (h : List Blk) n, (∀ j, j < bs.length → Fz (n + j)) → (∀ (j : Nat) b, bs[j]? = some b → h[n + j]? = some b) → VL Fz h noL p (av n)
  ok : ∀ (D : Nat → Prop) (m : NMap) n, (∀ j, j < bs.length → D (n + j)) → (∀ (j : Nat) i, is[j]? = some i → m (n + j) = i) → ∀ (j : Nat) b, bs[j]? = some b → BlkOk D m W (n + j) b
  lt : ∀ (j : Nat) b i, bs[j]? = some b → is[j]? = some i → b ≠ .dead → i.block < W.heap.size
  len : is.length = bs.length
structure Args (W : World) (vs' : List Value) (ps : List TV) (bs : List Blk) (is : List Info) (av : Nat → List Value) : Prop where
  vr : ∀ (D : Nat → Prop) (m : NMap) n, (∀ j, j < bs.length → D (n + j)) → (∀ (j : Nat) i, is[j]? = some i → m (n + j) = i) → VRs D m (av n) vs'
  vl : ∀ (Fz : Nat → Prop) (h : List Blk) n, (∀ j, j < bs.length → Fz (n + j)) → (∀ (j : Nat) b, bs[j]? = some b → h[n + j]? = some b) → VLs Fz h noL ps (av n)
  ok : ∀ (D : Nat → Prop) (m : NMap) n, (∀ j, j < bs.length → D (n + j)) → (∀ (j : Nat) i, is[j]? = some i → m (n + j) = i) → ∀ (j : Nat) b, bs[j]? = some b → BlkOk D m W (n + j) b
  lt : ∀ (j : Nat) b i, bs[j]? = some b → is[j]? = some i → b ≠ .dead → i.block < W.heap.size
  len : is.length = bs.length
theorem Args.nil (W : World) : Args W [] [] [] [] (fun _ => []) :=
  ⟨fun _ _ _ _ _ => ⟨rfl, fun i a a' h => by simp at h⟩, fun _ _ _ _ _ => .nil, fun _ _ _ _ _ j b h => by simp at h, fun j b i h => by simp at h, rfl⟩
theorem Args.cons {W : World} {v' : Value} {p : TV} {bs bs2 : List Blk} {is is2 : List Info} {av : Nat → Value} {vs' : List Value} {ps : List TV} {avs : Nat → List Value}
    (a : Arg W v' p bs is av) (as : Args W vs' ps bs2 is2 avs) : Args W (v' :: vs') (p :: ps) (bs ++ bs2) (is ++ is2) (fun n => av n :: avs (n + bs.length)) := by
  have cD : ∀ (D : Nat → Prop) n, (∀ j, j < (bs ++ bs2).length → D (n + j)) → (∀ j, j < bs.length → D (n + j)) ∧ (∀ j, j < bs2.length → D (n + bs.length + j)) := by
    intro D n h
    refine ⟨fun j hj => h j (by simp; omega), fun j hj => ?_⟩
    have := h (bs.length + j) (by simp; omega)
    rwa [← Nat.add_assoc] at this
  have cI : ∀ (m : NMap) n, (∀ (j : Nat) i, (is ++ is2)[j]? = some i → m (n + j) = i) → (∀ (j : Nat) i, is[j]? = some i → m (n + j) = i) ∧ (∀ (j : Nat) i, is2[j]? = some i → m (n + bs.length + j) = i) := by
    intro m n h
    refine ⟨fun j i hj => h j i (by rw [List.getElem?_append_left (List.getElem?_eq_some_iff.1 hj).1]; exact hj), fun j i hj => ?_⟩
    have := h (bs.length + j) i (by rw [List.getElem?_append_right (by rw [a.len]; omega), a.len, Nat.add_sub_cancel_left]; exact hj)
    rwa [← Nat.add_assoc] at this
  refine ⟨fun D m n hD hm => ?_, fun Fz h n hF hh => ?_, fun D m n hD hm j b hb => ?_, fun j b i hb hi hd => ?_, by simp [a.len, as.len]⟩
  · have h1 := a.vr D m n (cD D n hD).1 (cI m n hm).1
    have h2 := as.vr D m (n + bs.length) (cD D n hD).2 (cI m n hm).2
    refine ⟨by simp [h2.len], fun i x x' hx hx' => ?_⟩
    cases i with
    | zero => simp at hx hx'; subst hx hx'; exact h1
    | succ i => simp at hx hx'; exact h2.at' i x x' hx hx'
  · refine .cons (a.vl Fz h n (cD Fz n hF).1 fun j b hb => hh j b (by rw [List.getElem?_append_left (List.getElem?_eq_some_iff.1 hb).1]; exact hb)) (as.vl Fz h (n + bs.length) (cD Fz n hF).2 fun j b hb => ?_)
    have := hh (bs.length + j) b (by rw [List.getElem?_append_right (by omega), Nat.add_sub_cancel_left]; exact hb)
    rwa [← Nat.add_assoc] at this
  · rcases Nat.lt_or_ge j bs.length with hj | hj
    · rw [List.getElem?_append_left hj] at hb
      exact a.ok D m n (cD D n hD).1 (cI m n hm).1 j b hb
    · rw [List.getElem?_append_right hj] at hb
      have := as.ok D m (n + bs.length) (cD D n hD).2 (cI m n hm).2 _ b hb
      rwa [show n + bs.length + (j - bs.length) = n + j by omega] at this
  · rcases Nat.lt_or_ge j bs.length with hj | hj
    · rw [List.getElem?_append_left hj] at hb
      rw [List.getElem?_append_left (by rw [a.len]; exact hj)] at hi
      exact a.lt j b i hb hi hd
    · rw [List.getElem?_append_right hj] at hb
      rw [List.getElem?_append_right (by rw [a.len]; exact hj), a.len] at hi
      exact as.lt _ b i hb hi hd
/-- the names of the arguments -/
def nm (is : List Info) : NMap := fun n => is.getD n ⟨0, 0, 0, 0⟩
theorem nm_at {is : List Info} {j : Nat} {i : Info} (h : is[j]? = some i) : nm is (0 + j) = i := by
  unfold nm
  rw [Nat.zero_add, List.getD_eq_getElem?_getD, h]
  rfl
section
variable {W : World} {vs' : List Value} {ps : List TV} {bs : List Blk} {is : List Info} {av : Nat → List Value}
theorem Args.rel (a : Args W vs' ps bs is av) : Rel W.heap.size bs.length (fun k => k < bs.length) (nm is) bs W := by
  refine ⟨Nat.le_refl _, fun _ h => h, fun n b hn hb => ?_, fun n b hn hb hd => ?_, fun n b hD hl => absurd hD (by omega), fun n b hn _ hb hd => ?_, fun n b hD hl => absurd hD (by omega), fun n n' b b' hD _ hl => absurd hD (by omega)⟩
  · have := a.ok (fun k => k < bs.length) (nm is) 0 (fun j hj => by omega) (fun j i hi => nm_at hi) n b hb
    rwa [Nat.zero_add] at this
  all_goals
    have hi : n < is.length := by rw [a.len]; exact hn
    have e := nm_at (List.getElem?_eq_getElem hi)
    rw [Nat.zero_add] at e
    rw [e]
    exact a.lt n b _ hb (List.getElem?_eq_getElem hi) hd
theorem Args.vls (a : Args W vs' ps bs is av) : VLs (fun k => k < bs.length) bs noL ps (av 0) := a.vl _ _ 0 (fun j hj => by omega) (fun j b hb => by rw [Nat.zero_add]; exact hb)
theorem Args.vrs (a : Args W vs' ps bs is av) : VRs (fun k => k < bs.length) (nm is) (av 0) vs' := a.vr _ _ 0 (fun j hj => by omega) (fun j i hi => nm_at hi)
end
theorem len1 {α : Type} {l : List α} (h : l.length = 1) : ∃ x0, l = [x0] := by
  match l, h with
  | [x0], _ => exact ⟨_, rfl⟩
theorem len2 {α : Type} {l : List α} (h : l.length = 2) : ∃ x0 x1, l = [x0, x1] := by
  match l, h with
  | [x0, x1], _ => exact ⟨_, _, rfl⟩
theorem len3 {α : Type} {l : List α} (h : l.length = 3) : ∃ x0 x1 x2, l = [x0, x1, x2] := by
  match l, h with
  | [x0, x1, x2], _ => exact ⟨_, _, _, rfl⟩
theorem len4 {α : Type} {l : List α} (h : l.length = 4) : ∃ x0 x1 x2 x3, l = [x0, x1, x2, x3] := by
  match l, h with
  | [x0, x1, x2, x3], _ => exact ⟨_, _, _, _, rfl⟩
theorem len5 {α : Type} {l : List α} (h : l.length = 5) : ∃ x0 x1 x2 x3 x4, l = [x0, x1, x2, x3, x4] := by
  match l, h with
  | [x0, x1, x2, x3, x4], _ => exact ⟨_, _, _, _, _, rfl⟩
theorem len6 {α : Type} {l : List α} (h : l.length = 6) : ∃ x0 x1 x2 x3 x4 x5, l = [x0, x1, x2, x3, x4, x5] := by
  match l, h with
  | [x0, x1, x2, x3, x4, x5], _ => exact ⟨_, _, _, _, _, _, rfl⟩
theorem len7 {α : Type} {l : List α} (h : l.length = 7) : ∃ x0 x1 x2 x3 x4 x5 x6, l = [x0, x1, x2, x3, x4, x5, x6] := by
  match l, h with
  | [x0, x1, x2, x3, x4, x5, x6], _ => exact ⟨_, _, _, _, _, _, _, rfl⟩
theorem len8 {α : Type} {l : List α} (h : l.length = 8) : ∃ x0 x1 x2 x3 x4 x5 x6 x7, l = [x0, x1, x2, x3, x4, x5, x6, x7] := by
  match l, h with
  | [x0, x1, x2, x3, x4, x5, x6, x7], _ => exact ⟨_, _, _, _, _, _, _, _, rfl⟩
theorem len9 {α : Type} {l : List α} (h : l.length = 9) : ∃ x0 x1 x2 x3 x4 x5 x6 x7 x8, l = [x0, x1, x2, x3, x4, x5, x6, x7, x8] := by
  match l, h with
  | [x0, x1, x2, x3, x4, x5, x6, x7, x8], _ => exact ⟨_, _, _, _, _, _, _, _, _, rfl⟩
theorem len10 {α : Type} {l : List α} (h : l.length = 10) : ∃ x0 x1 x2 x3 x4 x5 x6 x7 x8 x9, l = [x0, x1, x2, x3, x4, x5, x6, x7, x8, x9] := by
  match l, h with
  | [x0, x1, x2, x3, x4, x5, x6, x7, x8, x9], _ => exact ⟨_, _, _, _, _, _, _, _, _, _, rfl⟩
/-! ### arguments without names -/
def AtomV (c : Value) : Prop := isAtom c = true ∧ ∀ D m, VR D m c c
theorem atomV_int (k : IntKind) (n : Int) : AtomV (.int k n) := ⟨rfl, fun _ _ => .int _ _⟩
theorem Arg.atom {W : World} {v : Value} (h : AtomV v) : Arg W v (.v v) [] [] (fun _ => v) :=
  ⟨fun _ _ _ _ _ => h.2 _ _, fun _ _ _ _ _ => .v _ _ h.1, fun _ _ _ _ _ j b h => by simp at h, fun j b i h => by simp at h, rfl⟩
theorem Arg.agg {W : World} {l : List Value} (h : ∀ c ∈ l, AtomV c) : Arg W (.agg ⟨l⟩) (.agg (l.map .v)) [] [] (fun _ => .agg ⟨l⟩) := by
  refine ⟨fun _ _ _ _ _ => .agg _ _ rfl fun i v v' hv hv' => ?_, fun _ _ _ _ _ => .agg _ _ _ (by simp) fun i p x hp hx => ?_, fun _ _ _ _ _ j b h => by simp at h, fun j b i h => by simp at h, rfl⟩
  · obtain rfl : v = v' := Option.some.inj (hv.symm.trans hv')
    exact (h v (List.mem_of_getElem? hv)).2 _ _
  · rw [List.getElem?_map, hx] at hp
    obtain rfl := Option.some.inj hp
    exact .v _ _ (h x (List.mem_of_getElem? hx)).1
/-! ### a slice of rows -/
theorem flatMap_at {α β : Type} {g : α → List β} {es : Nat} (hg : ∀ x, (g x).length = es) (he : 0 < es) : ∀ (xs : List α) i, (xs.flatMap g)[i]? = (xs[i / es]?).bind fun x => (g x)[i % es]?
  | [], i => by simp
  | x :: t, i => by
    rw [List.flatMap_cons]
    rcases Nat.lt_or_ge i es with h | h
    · rw [List.getElem?_append_left (by rw [hg]; exact h), Nat.div_eq_of_lt h, Nat.mod_eq_of_lt h]
      rfl
    · rw [List.getElem?_append_right (by rw [hg]; exact h), hg, flatMap_at hg he t (i - es)]
      have e1 : i / es = (i - es) / es + 1 := by rw [Nat.div_eq_sub_div he h]
      have e2 : i % es = (i - es) % es := Nat.mod_eq_sub_mod h
      rw [e1, e2]
      rfl
theorem flatMap_len {α β : Type} {g : α → List β} {es : Nat} (hg : ∀ x, (g x).length = es) : ∀ (xs : List α), (xs.flatMap g).length = xs.length * es
  | [] => by simp
  | x :: t => by rw [List.flatMap_cons, List.length_append, hg, flatMap_len hg t, List.length_cons, Nat.add_mul]; omega
theorem flatMap_map {α : Type} {f : α → List TV} {g : α → List Value} (hf : ∀ x, f x = (g x).map .v) : ∀ (xs : List α), (xs.map f).flatten = (xs.flatMap g).map .v
  | [] => rfl
  | x :: t => by rw [List.map_cons, List.flatten_cons, flatMap_map hf t, List.flatMap_cons, List.map_append, hf]
theorem choose_list {α : Type} {Q : Nat → α → Prop} : ∀ n, (∀ i, i < n → ∃ x, Q i x) → ∃ xs : List α, xs.length = n ∧ ∀ (i : Nat) x, xs[i]? = some x → Q i x
  | 0, _ => ⟨[], rfl, fun i x h => by simp at h⟩
  | n + 1, h => by
    obtain ⟨xs, hl, hq⟩ := choose_list n (fun i hi => h i (by omega))
    obtain ⟨x, hx⟩ := h n (by omega)
    refine ⟨xs ++ [x], by simp [hl], fun i y hy => ?_⟩
    rcases Nat.lt_or_ge i n with hi | hi
    · rw [List.getElem?_append_left (by omega)] at hy
      exact hq i y hy
    · rw [List.getElem?_append_right (by omega), hl] at hy
      have : i = n := by
        rcases Nat.lt_or_ge 0 (i - n) with g | g
        · rw [List.getElem?_eq_none (by simp; omega)] at hy; cases hy
        · omega
      subst this
      simp at hy
      subst hy
      exact hx
section
variable {H : Type} {enc : TypeId × Value → H} {W : World} {base : Nat} {spare : Nat → Bool} {held : Bool}
theorem open_rows {α : Type} {f : α → List TV} {g : α → List Value} {es : Nat} (he : 0 < es) (hf : ∀ x, f x = (g x).map .v) (hg : ∀ x, (g x).length = es) (hat : ∀ x, ∀ c ∈ g x, AtomV c)
    {P : Program} {t te : TypeId} (ht : P.underlying t = some (.slice te)) (hC : P.cellsOf te = es) {r : Reach} {b0 : Nat} {v' : Value} (hval : Value.okWide P W r b0 t v')
    (elem : ∀ n cs y, DataW.trod enc P W base spare held n te cs = some y → cs.length = es → ∃ x : α, cs = g x)
    {fuel : Nat} {x : DataW H × List MemPlace} (h : DataW.trod enc P W base spare held fuel t [v'] = some x) : ∃ (xs : List α) (bs : List Blk) (is : List Info) (av : Nat → Value), Arg W v' (.list es (xs.map f)) bs is av := by
  rcases DataW.trod_slice ht h with ⟨hv, _⟩ | ⟨a, len, cap, elems, rest, n, _, hv, _, hb, hlc, hcm, hel, hel2, _, _⟩
  · obtain rfl : v' = .slice none 0 0 := by simpa using hv
    exact ⟨[], [], [], fun _ => .slice none 0 0, fun _ _ _ _ _ => .nilSlice 0 0, fun _ _ _ _ _ => .nillist _ _, fun _ _ _ _ _ j b h => by simp at h, fun j b i h => by simp at h, rfl⟩
  · obtain rfl : v' = .slice (some a) len cap := by simpa using hv
    have hok : len ≤ cap ∧ (cap : Int) ≤ IntKind.i64.max ∧ W.has P r b0 a te cap := by
      unfold Value.okWide at hval
      simp only [ht] at hval
      unfold Cell.okWide at hval
      simp only [ht] at hval
      unfold Cell.ok at hval
      simpa only [ht] using hval
    obtain ⟨gb, o, s⟩ := a
    obtain ⟨_, _, _, hs, row, cells, hsh, _⟩ := hok
    simp only at hs hsh
    subst hs
    have hgb : gb < W.heap.size := by
      unfold World.shape? at hsh
      rcases Nat.lt_or_ge gb W.heap.size with hg | hg
      · exact hg
      · rw [Array.getElem?_eq_none hg] at hsh
        simp at hsh
    have key : ∀ i, i < len → ∃ x : α, ∀ j, j < es → W.cell? ⟨gb, o + i * es + j, none⟩ = (g x)[j]? := fun i hi => by
      have h1 := hel2 i hi
      rw [List.getElem?_eq_getElem (by omega), Option.bind_eq_some_iff] at h1
      obtain ⟨cs, hcs, htr⟩ := h1
      rw [hC] at hcs
      unfold World.cells? at hcs
      split at hcs
      · have hlen := mapM_some_length hcs
        simp at hlen
        obtain ⟨x, rfl⟩ := elem n cs _ htr hlen
        refine ⟨x, fun j hj => ?_⟩
        have := mapM_some_get hcs j j (by simp [hj])
        have e : ((⟨gb, o, none⟩ : Addr).add (i * es)).add j = ⟨gb, o + i * es + j, none⟩ := by
          unfold Addr.add
          split <;> split <;> simp_all
        rw [← e]
        exact this
      · cases hcs
    obtain ⟨xs, hl, hq⟩ := choose_list len key
    subst hl
    have hlen := flatMap_len hg xs
    have hfl := flatMap_map hf xs
    refine ⟨xs, [.cells es (xs.flatMap g)], [⟨gb, o, cap * es, es⟩], fun n => .slice (some ⟨n, 0, none⟩) xs.length xs.length, fun D m n hD hm => ?_, fun Fz h n hF hh => ?_, fun D m n hD hm j b hb => ?_, fun j b i hb hi hd => ?_, rfl⟩
    · have e := hm 0 _ rfl
      rw [Nat.add_zero] at e
      have := VR.slice (D := D) (m := m) n 0 xs.length xs.length cap (hD 0 (by simp)) (Nat.le_refl _) hlc (.inr (by rw [e]; simp))
      rw [e] at this
      exact this
    · have hw : ∀ r ∈ xs.map f, r.length = es := fun r hr => by obtain ⟨x, _, rfl⟩ := List.mem_map.1 hr; rw [hf, List.length_map, hg]
      have := VL.list (Fz := Fz) (h := h) noL es (xs.map f) n 0 xs.length (xs.flatMap g) es (hF 0 (by simp)) (hh 0 _ rfl) (.inl rfl) hw (by simp) (by rw [List.length_map, hlen]; omega) (fun j p x hp hx => by
        rw [hfl, List.getElem?_map, Option.map_eq_some_iff] at hp
        rw [Nat.zero_add] at hx
        obtain ⟨y, h1, rfl⟩ := hp
        obtain rfl : y = x := Option.some.inj (h1.symm.trans hx)
        obtain ⟨z, _, hz⟩ := List.mem_flatMap.1 (List.mem_of_getElem? hx)
        exact .v _ _ (hat z y hz).1)
      rw [List.length_map] at this
      exact this
    · match j, hb with
      | 0, hb =>
        obtain rfl := Option.some.inj hb
        have e := hm 0 _ rfl
        rw [Nat.add_zero] at e ⊢
        refine ⟨by rw [e], fun i v hv => ⟨v, ?_, ?_⟩⟩
        · rw [flatMap_at hg he, Option.bind_eq_some_iff] at hv
          obtain ⟨x, hx, hv⟩ := hv
          rw [e]
          have := hq _ x hx (i % es) (Nat.mod_lt _ he)
          rw [Nat.add_assoc, Nat.mul_comm, Nat.div_add_mod] at this
          rw [this]
          exact hv
        · obtain ⟨z, _, hz⟩ := List.mem_flatMap.1 (List.mem_of_getElem? hv)
          exact (hat z v hz).2 _ _
      | j + 1, hb => simp at hb
    · match j, hb, hi with
      | 0, hb, hi => obtain rfl := Option.some.inj hi
                     exact hgb
      | j + 1, hb, hi => simp at hb
/-! ### aggregates of ints -/
def AI (cs : List Value) : Prop := ∀ c ∈ cs, ∃ n : Int, c = .int .i64 n
theorem AI.list {cs : List Value} (h : AI cs) : ∃ l : List Int, cs = l.map (.int .i64) := by
  induction cs with
  | nil => exact ⟨[], rfl⟩
  | cons c t ih =>
    obtain ⟨n, rfl⟩ := h c (by simp)
    obtain ⟨l, rfl⟩ := ih fun c hc => h c (by simp [hc])
    exact ⟨n :: l, rfl⟩
variable {P : Program}
theorem ai_int {te : TypeId} (ht : P.underlying te = some (.int .i64)) {fuel : Nat} {cs : List Value} {x : DataW H × List MemPlace} (h : DataW.trod enc P W base spare held fuel te cs = some x) : AI cs := by
  obtain ⟨n, rfl, _⟩ := DataW.trod_int ht h
  exact fun c hc => ⟨n, by simpa using hc⟩
theorem ai_arr {t e : TypeId} {m k : Nat} (ht : P.underlying t = some (.array m e)) (hk : P.cellsOf e = k) (hk0 : 0 < k) (hc : P.cellsOf t = m * k) (he : ∀ n cs y, DataW.trod enc P W base spare held n e cs = some y → AI cs)
    {fuel : Nat} {cs : List Value} {x : DataW H × List MemPlace} (h : DataW.trod enc P W base spare held fuel t cs = some x) : AI cs := by
  obtain ⟨xs, n, _, _, hl, hx, hi⟩ := DataW.trod_array ht h
  intro c hcm
  obtain ⟨j, hj, rfl⟩ := List.mem_iff_getElem.1 hcm
  rw [hl, hc] at hj
  have hd : j / k < m := (Nat.div_lt_iff_lt_mul hk0).2 hj
  have h1 := hi _ hd
  rw [List.getElem?_eq_getElem (by omega), hk] at h1
  refine he _ _ _ h1 _ ?_
  refine List.mem_of_getElem? (i := j % k) ?_
  rw [List.getElem?_take, if_pos (Nat.mod_lt _ hk0), List.getElem?_drop, Nat.mul_comm, Nat.div_add_mod, List.getElem?_eq_getElem]
theorem ai_struct {t : TypeId} {fs : Array Field} (ht : P.underlying t = some (.struct fs)) (hcov : ((List.range (P.cellsOf t)).all fun j => fs.toList.any fun f => decide (f.offset ≤ j) && decide (j < f.offset + P.cellsOf f.type)) = true) (he : ∀ f ∈ fs.toList, ∀ n cs y, DataW.trod enc P W base spare held n f.type cs = some y → AI cs)
    {fuel : Nat} {cs : List Value} {x : DataW H × List MemPlace} (h : DataW.trod enc P W base spare held fuel t cs = some x) : AI cs := by
  obtain ⟨xs, n, _, _, hl, hx, hi⟩ := DataW.trod_struct ht h
  intro c hcm
  obtain ⟨j, hj, rfl⟩ := List.mem_iff_getElem.1 hcm
  rw [hl] at hj
  have := List.all_eq_true.1 hcov j (by simpa using hj)
  obtain ⟨f, hf, hf2⟩ := List.any_eq_true.1 this
  simp only [Bool.and_eq_true, decide_eq_true_eq] at hf2
  obtain ⟨i, hil, hif⟩ := List.mem_iff_getElem.1 hf
  have hfi : fs[i]? = some f := by rw [← Array.getElem?_toList, List.getElem?_eq_getElem hil, hif]
  have h1 := hi i f hfi
  have hil2 : i < fs.size := by simpa using hil
  rw [List.getElem?_eq_getElem (by omega)] at h1
  refine he f hf _ _ _ h1 _ ?_
  refine List.mem_of_getElem? (i := j - f.offset) ?_
  rw [List.getElem?_take, if_pos (by omega), List.getElem?_drop, show f.offset + (j - f.offset) = j by omega, List.getElem?_eq_getElem]
theorem okW_int {t : TypeId} (ht : P.underlying t = some (.int .i64)) {r : Reach} {b : Nat} {v : Value} (w : Cell.okWide P W r b t v) : ∃ n : Int, v = .int .i64 n := by
  unfold Cell.okWide at w
  simp only [ht] at w
  unfold Cell.ok at w
  simp only [ht] at w
  cases v <;> first | exact ⟨_, by rw [w.1]⟩ | exact absurd w (by simp)
theorem open_int {t : TypeId} (ht : P.underlying t = some (.int .i64)) {r : Reach} {b : Nat} {v : Value} (w : Value.okWide P W r b t v) : ∃ n : Int, v = .int .i64 n := by
  unfold Value.okWide at w
  simp only [ht] at w
  exact okW_int ht w
theorem open_sti {t ti : TypeId} {fs : Array Field} {n : Nat} (ht : P.underlying t = some (.struct fs)) (hti : P.underlying ti = some (.int .i64)) (hct : P.cellTypes P.depth t = some (List.replicate n ti)) (hn : P.cellsOf t = n)
    {r : Reach} {b : Nat} {v : Value} (w : Value.okWide P W r b t v) : ∃ l : List Int, l.length = n ∧ v = .agg ⟨l.map (.int .i64)⟩ := by
  unfold Value.okWide at w
  simp only [ht] at w
  obtain ⟨cs, rfl, hs, ts, hts, _, hc⟩ := w
  rw [hct] at hts
  obtain rfl := Option.some.inj hts
  obtain ⟨l⟩ := cs
  have : AI l := by
    intro c hcm
    obtain ⟨j, hj, rfl⟩ := List.mem_iff_getElem.1 hcm
    obtain ⟨u, hu, hok⟩ := hc j l[j] (by simp)
    have := List.eq_of_mem_replicate (List.mem_of_getElem? hu)
    subst this
    exact okW_int hti hok
  obtain ⟨l', rfl⟩ := this.list
  refine ⟨l', ?_, rfl⟩
  simpa [hn] using hs
theorem open_ari {t ti e : TypeId} {k n : Nat} (ht : P.underlying t = some (.array k e)) (hti : P.underlying ti = some (.int .i64)) (hct : P.cellTypes P.depth t = some (List.replicate n ti)) (hn : P.cellsOf t = n)
    {r : Reach} {b : Nat} {v : Value} (w : Value.okWide P W r b t v) : ∃ l : List Int, l.length = n ∧ v = .agg ⟨l.map (.int .i64)⟩ := by
  unfold Value.okWide at w
  simp only [ht] at w
  obtain ⟨cs, rfl, hs, ts, hts, _, hc⟩ := w
  rw [hct] at hts
  obtain rfl := Option.some.inj hts
  obtain ⟨l⟩ := cs
  have : AI l := by
    intro c hcm
    obtain ⟨j, hj, rfl⟩ := List.mem_iff_getElem.1 hcm
    obtain ⟨u, hu, hok⟩ := hc j l[j] (by simp)
    have := List.eq_of_mem_replicate (List.mem_of_getElem? hu)
    subst this
    exact okW_int hti hok
  obtain ⟨l', rfl⟩ := this.list
  refine ⟨l', ?_, rfl⟩
  simpa [hn] using hs
theorem arg_ints (l : List Int) : Arg W (.agg ⟨l.map (.int .i64)⟩) (.agg (l.map fun x => .v (.int .i64 x))) [] [] (fun _ => .agg ⟨l.map (.int .i64)⟩) := by
  have := Arg.agg (W := W) (l := l.map (.int .i64)) fun c hc => by obtain ⟨x, _, rfl⟩ := List.mem_map.1 hc; exact atomV_int _ _
  rwa [List.map_map] at this
end
end Go.Rex
