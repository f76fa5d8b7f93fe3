/- What these functions return: facts on lists and numbers. -/
import Derived.Test.YtojekkfmnnoabaaTexR
import Derived.Test.YtojekkfmnnoabaaS
import Derived.Test.YtojekkfmnnoabaaTexU
import Derived.ProofKit
import Derived.OpenShut
import Derived.ShutString
import Derived.ChangeOld
import Derived.Below
import Derived.Lib.SmallJoins
import Derived.ChangeShapes
import Derived.ChangeArms
import Derived.WideShapes
set_option linter.unusedSimpArgs false
set_option linter.unusedVariables false
set_option linter.defProp false
namespace Go.Rex
/-! ### plain facts for shallow functions -/
theorem w64 {x : Int} (h : -9223372036854775808 ≤ x ∧ x ≤ 9223372036854775807) : IntKind.i64.wrap x = x := IntWalk.i64_in x (by omega)
/-- a loop that counts -/
theorem run_count {σ ε : Type} {step : σ → Option (σ ⊕ ε)} (f : Nat → σ) {n : Nat} {e : ε} (h : ∀ k, k < n → step (f k) = some (.inl (f (k + 1)))) (hn : step (f n) = some (.inr e)) : run step (f 0) = some e := by
  suffices H : ∀ j k, n - k = j → k ≤ n → run step (f k) = some e from H n 0 (by omega) (Nat.zero_le _)
  intro j
  induction j with
  | zero => intro k hj hk; obtain rfl : k = n := by omega
            exact run_stop hn
  | succ j ih => intro k hj hk; rw [run_next (h k (by omega))]; exact ih (k + 1) (by omega) (by omega)
/-- a loop that ends early -/
theorem run_until {σ ε : Type} {step : σ → Option (σ ⊕ ε)} (f : Nat → σ) {m : Nat} {e : ε} (h : ∀ k, k < m → step (f k) = some (.inl (f (k + 1)))) (hm : step (f m) = some (.inr e)) : run step (f 0) = some e := run_count f h hm
theorem getI_nat {α : Type} {xs : List α} {k : Nat} : getI xs (k : Int) = xs[k]? := by
  unfold getI
  rw [if_pos (by omega), Int.toNat_natCast]
theorem getI_of {α : Type} {xs : List α} {i : Int} {k : Nat} (h : i = (k : Int)) : getI xs i = xs[k]? := by subst h; exact getI_nat
theorem appI_one {α : Type} {b : Nat} {xs : List α} {y : α} (h : xs.length < 2 ^ 40) (hb : b ≤ 128) : appI b xs [y] = some (xs ++ [y]) := by
  unfold appI
  rw [if_pos]
  refine ⟨by simp; omega, ?_⟩
  have h1 : (xs.length + [y].length) * b ≤ 2 ^ 40 * 128 := Nat.mul_le_mul (by simp; omega) hb
  omega
end Go.Rex

namespace Go.Rex
/-! ### loops that look for the first one of a list -/
def firstOr {α ε : Type} (P : α → Bool) (ex : Nat → α → ε) (en : ε) : Nat → List α → ε
  | _, [] => en
  | k, x :: t => if P x = true then ex k x else firstOr P ex en (k + 1) t
theorem run_first_from {α σ ε : Type} {step : σ → Option (σ ⊕ ε)} (st : Nat → σ) (P : α → Bool) (ex : Nat → α → ε) (en : ε) :
    ∀ (xs ys : List α), (∀ (k : Nat) x, (ys ++ xs)[k]? = some x → step (st k) = some (if P x = true then .inr (ex k x) else .inl (st (k + 1)))) → step (st (ys ++ xs).length) = some (.inr en) → run step (st ys.length) = some (firstOr P ex en ys.length xs)
  | [], ys, _, he => by rw [List.append_nil] at he; exact run_stop he
  | x :: t, ys, hs, he => by
    have h1 := hs ys.length x (by simp)
    by_cases hp : P x = true
    · rw [if_pos hp] at h1
      rw [run_stop h1, firstOr, if_pos hp]
    · rw [if_neg hp] at h1
      rw [run_next h1, firstOr, if_neg hp]
      have := run_first_from st P ex en t (ys ++ [x]) (fun k y hk => hs k y (by simpa using hk)) (by simpa using he)
      simpa using this
theorem run_first {α σ ε : Type} {step : σ → Option (σ ⊕ ε)} (st : Nat → σ) (P : α → Bool) (ex : Nat → α → ε) (en : ε) (xs : List α) (hs : ∀ (k : Nat) x, xs[k]? = some x → step (st k) = some (if P x = true then .inr (ex k x) else .inl (st (k + 1)))) (he : step (st xs.length) = some (.inr en)) {s : σ} (h0 : s = st 0) : run step s = some (firstOr P ex en 0 xs) := by
  subst h0
  exact run_first_from st P ex en xs [] hs he
theorem firstOr_map {α β γ : Type} (f : β → γ) (P : α → Bool) (ex : Nat → α → β) (en : β) : ∀ (xs : List α) k, f (firstOr P ex en k xs) = firstOr P (fun k x => f (ex k x)) (f en) k xs
  | [], _ => rfl
  | x :: t, k => by
    unfold firstOr
    split
    · rfl
    · exact firstOr_map f P ex en t (k + 1)
theorem firstOr_all {α β : Type} (P : α → Bool) (c en : β) : ∀ (xs : List α) k, firstOr P (fun _ _ => c) en k xs = if (xs.all fun x => !P x) = true then en else c
  | [], _ => rfl
  | x :: t, k => by
    unfold firstOr
    rw [firstOr_all P c en t (k + 1)]
    cases h : P x <;> simp [h]
theorem firstOr_congr {α β : Type} {P Q : α → Bool} {ex ex' : Nat → α → β} {en : β} : ∀ (xs : List α) k, (∀ x, x ∈ xs → P x = Q x) → (∀ j x, x ∈ xs → P x = true → ex j x = ex' j x) → firstOr P ex en k xs = firstOr Q ex' en k xs
  | [], _, _, _ => rfl
  | x :: t, k, h1, h2 => by
    unfold firstOr
    rw [← h1 x (by simp), firstOr_congr t (k + 1) (fun y hy => h1 y (by simp [hy])) (fun j y hy => h2 j y (by simp [hy]))]
    split
    · rename_i hp
      exact h2 k x (by simp) hp
    · rfl
theorem bind_first {α σ ε β : Type} {step : σ → Option (σ ⊕ ε)} {s : σ} {F : ε → Option β} (st : Nat → σ) (P : α → Bool) (ex : Nat → α → ε) (en : ε) (xs : List α) (K : ε → β) (h0 : s = st 0) (hF : ∀ e, F e = some (K e)) (hs : ∀ (k : Nat) x, xs[k]? = some x → step (st k) = some (if P x = true then .inr (ex k x) else .inl (st (k + 1)))) (he : step (st xs.length) = some (.inr en)) :
    (run step s).bind F = some (firstOr P (fun k x => K (ex k x)) (K en) 0 xs) := by
  rw [run_first st P ex en xs hs he h0, Option.bind_some, hF, firstOr_map K]
/-! ### numbers -/
theorem wneg {x : Int} (h : -9223372036854775807 ≤ x ∧ x ≤ 9223372036854775807) : IntKind.i64.wrap (0 - x) = -x := by rw [w64 (by omega)]; omega
theorem wsucc {k : Nat} {n : Nat} (h : k ≤ n) (hn : n ≤ 2 ^ 62) : IntKind.i64.wrap ((k : Int) + 1) = ((k + 1 : Nat) : Int) := by rw [w64 (by omega)]; omega
theorem fsize_eq {x : Int} (h : -9223372036854775807 ≤ x ∧ x ≤ 9223372036854775807) : filter_size x = some (x.natAbs : Int) := by
  unfold filter_size
  rw [wneg h]
  split <;> (congr 1; omega)
theorem bsize_eq {x : Int} (h : -9223372036854775807 ≤ x ∧ x ≤ 9223372036854775807) : base_Size x = some (x.natAbs : Int) := by
  unfold base_Size
  rw [wneg h]
  split <;> (congr 1; omega)
theorem tmod_emod {x y : Int} (hy : 0 < y) : x.tmod y = if x.tmod y < 0 then x % y - y else x % y := by
  have h1 := Int.tmod_lt_of_pos x hy
  have h2 : -y < x.tmod y := by
    have h3 := Int.natAbs_tmod x y
    have h4 : (x.tmod y).natAbs < y.natAbs := by rw [h3]; exact Nat.mod_lt _ (by omega)
    omega
  have hdm := Int.tmod_add_mul_tdiv x y
  split
  · have : x % y = x.tmod y + y := by
      have e : x = (x.tmod y + y) + y * (x.tdiv y - 1) := by rw [Int.mul_sub, Int.mul_one]; omega
      rw [e, Int.add_mul_emod_self_left, Int.emod_eq_of_lt (by omega) (by omega)]
      rw [← e]
    omega
  · have : x % y = x.tmod y := by
      conv => lhs; rw [← hdm]
      rw [Int.add_mul_emod_self_left, Int.emod_eq_of_lt (by omega) (by omega)]
    omega
theorem ediv_le {x y b : Int} (hy : 0 < y) (hb : 0 ≤ b) (h : -b ≤ x ∧ x ≤ b) : -b ≤ x / y ∧ x / y ≤ b := by
  have h1 := Int.emod_add_mul_ediv x y
  have h2 := Int.emod_nonneg x (show y ≠ 0 by omega)
  have h3 := Int.emod_lt_of_pos x hy
  constructor
  · refine Int.le_ediv_of_mul_le hy ?_
    have : -b * y ≤ -b * 1 := Int.mul_le_mul_of_nonpos_left (by omega) (by omega)
    omega
  · refine Int.ediv_le_of_le_mul hy ?_
    have : b * 1 ≤ b * y := Int.mul_le_mul_of_nonneg_left (by omega) hb
    omega
theorem tdiv_ediv {x y : Int} (hy : 0 < y) : x.tdiv y = if x.tmod y < 0 then x / y + 1 else x / y := by
  have hdm := Int.tmod_add_mul_tdiv x y
  have h1 := Int.emod_add_mul_ediv x y
  have h2 := tmod_emod (x := x) hy
  refine Int.eq_of_mul_eq_mul_left (show y ≠ 0 by omega) ?_
  split
  · rename_i h
    rw [if_pos h] at h2
    rw [Int.mul_add, Int.mul_one]
    omega
  · rename_i h
    rw [if_neg h] at h2
    omega
/-! ### sections -/
def smallB (m x : Int) : Bool := decide (-m ≤ x ∧ x ≤ m)
theorem isSmall_eq {x m : Int} (hm : 0 ≤ m ∧ m ≤ 9223372036854775807) : filter_isSmall x m = some (smallB m x) := by
  unfold filter_isSmall smallB
  rw [wneg (by omega)]
  by_cases h : -m ≤ x <;> simp [h]
theorem within_eq (x a b : Int) : base_Within x a b = some (decide (a ≤ x ∧ x ≤ b)) := by
  unfold base_Within
  by_cases h : a ≤ x <;> simp [h]
theorem allSmall_eq (l : List Int) {m : Int} (hl : l.length ≤ 2 ^ 62) (hm : 0 ≤ m ∧ m ≤ 9223372036854775807) : filter_allSmall l m = some (if (l.all (smallB m)) = true then 0 else 2) := by
  unfold filter_allSmall
  refine (bind_first (fun k : Nat => (k : Int)) (fun x => !smallB m x) (fun _ _ => .inl ()) (.inr ()) l (Sum.elim (fun _ => 2) fun _ => 0) rfl (fun e => by rcases e with _ | _ <;> rfl) (fun k x hk => ?_) ?_).trans ?_
  · have hk2 := (List.getElem?_eq_some_iff.1 hk).1
    dsimp only [filter_allSmall_l1]
    rw [if_pos (by simpa using hk2), getI_nat, hk, Option.bind_some, isSmall_eq hm, Option.bind_some, wsucc (n := l.length) (by omega) hl]
    cases smallB m x <;> rfl
  · dsimp only [filter_allSmall_l1]
    rw [if_neg (by simp)]
  · simp only [Sum.elim_inl, Sum.elim_inr, firstOr_all, Bool.not_not]
theorem firstError_eq (l : List Int) (hl : l.length ≤ 2 ^ 62) : filter_firstError l = some (firstOr (fun x => decide (x ≠ 0)) (fun _ x => x) 0 0 l) := by
  unfold filter_firstError
  refine (bind_first (fun k : Nat => (k : Int)) (fun x => decide (x ≠ 0)) (fun _ x => .inl x) (.inr ()) l (Sum.elim id fun _ => 0) rfl (fun e => by rcases e with x | _ <;> rfl) (fun k x hk => ?_) ?_).trans rfl
  · have hk2 := (List.getElem?_eq_some_iff.1 hk).1
    dsimp only [filter_firstError_l1]
    rw [if_pos (by simpa using hk2), getI_nat, hk, Option.bind_some, wsucc (n := l.length) (by omega) hl]
    by_cases h : x = 0 <;> simp [h]
  · dsimp only [filter_firstError_l1]
    rw [if_neg (by simp)]
theorem refuse_eq (b : Bool) (e : Int) : filter_refuse b e = some (if b = true then e else 0) := by
  unfold filter_refuse
  cases b <;> rfl
theorem first2 (a b : Int) : filter_firstError [a, b] = some (if a ≠ 0 then a else b) := by
  rw [firstError_eq _ (by simp)]
  unfold firstOr firstOr firstOr
  by_cases h : a = 0 <;> by_cases h2 : b = 0 <;> simp [h, h2]
end Go.Rex

namespace Go.Rex
def secB (x : Int × Int × Int × Int × Int) : Bool := smallB 32768 x.1 && (smallB 32768 x.2.1 && (smallB 32768 x.2.2.1 && (smallB 32768 x.2.2.2.1 && smallB 32768 x.2.2.2.2)))
theorem secB_iff {a b c d e : Int} : secB (a, b, c, d, e) = true ↔ (-32768 ≤ a ∧ a ≤ 32768) ∧ (-32768 ≤ b ∧ b ≤ 32768) ∧ (-32768 ≤ c ∧ c ≤ 32768) ∧ (-32768 ≤ d ∧ d ≤ 32768) ∧ (-32768 ≤ e ∧ e ≤ 32768) := by
  simp [secB, smallB]
def secE (x : Int × Int × Int × Int × Int) : Int := if secB x = true then 0 else 2
theorem fsec_eq (a b c d e : Int) : filter_CheckSection a b c d e = some (secE (a, b, c, d, e)) := by
  unfold filter_CheckSection filter_coefficientsOf
  rw [Option.bind_some]
  dsimp only
  rw [allSmall_eq _ (by simp) (by omega)]
  simp only [Option.bind_some, secE, secB, List.all_cons, List.all_nil, Bool.and_true]
  rfl
theorem rsec_eq (a b c d e : Int) : ref06_CheckSection a b c d e = some (secE (a, b, c, d, e)) := by
  unfold ref06_CheckSection
  refine (bind_first (fun k : Nat => (k : Int)) (fun x => !smallB 32768 x) (fun _ _ => .inl ()) (.inr ()) [a, b, c, d, e] (Sum.elim (fun _ => 2) fun _ => 0) rfl (fun e => by rcases e with _ | _ <;> rfl) (fun k x hk => ?_) ?_).trans ?_
  · have hk2 := (List.getElem?_eq_some_iff.1 hk).1
    dsimp only [ref06_CheckSection_l1]
    simp only [List.length_cons, List.length_nil] at hk2
    rw [if_pos (by simp; omega), getI_nat, hk, Option.bind_some, within_eq, Option.bind_some, wsucc (n := 5) (by omega) (by omega)]
    unfold smallB
    cases (decide (-32768 ≤ x ∧ x ≤ 32768)) <;> rfl
  · dsimp only [ref06_CheckSection_l1]
    rw [if_neg (by simp)]
  · simp only [Sum.elim_inl, Sum.elim_inr, firstOr_all, Bool.not_not, secE, secB, List.all_cons, List.all_nil, Bool.and_true]
    rfl
end Go.Rex

namespace Go.Rex
/-- the error of a cascade, with its number -/
def casE (l : List (Int × Int × Int × Int × Int)) : Int × Int := if l.length > 6 then (0, 8) else firstOr (fun x => !secB x) (fun k _ => ((k : Int), 2)) (0, 0) 0 l
theorem fcas_eq (l : List (Int × Int × Int × Int × Int)) : filter_CheckCascade l = some (casE l) := by
  unfold filter_CheckCascade casE
  by_cases hl : l.length > 6
  · rw [if_pos (by simp; omega), if_pos hl]
  · rw [if_neg (by simp; omega), if_neg hl]
    refine (bind_first (fun k : Nat => (k : Int)) (fun x => !secB x) (fun k _ => .inl ((k : Int), (2 : Int))) (.inr ()) l (Sum.elim id fun _ => (0, 0)) rfl (fun e => by rcases e with ⟨x, y⟩ | _ <;> rfl) (fun k x hk => ?_) ?_).trans rfl
    · have hk2 := (List.getElem?_eq_some_iff.1 hk).1
      obtain ⟨a, b, c, d, e⟩ := x
      dsimp only [filter_CheckCascade_l1]
      rw [if_pos (by simpa using hk2), getI_nat, hk, Option.bind_some]
      dsimp only
      rw [fsec_eq, Option.bind_some, wsucc (n := l.length) (by omega) (by omega)]
      unfold secE
      cases secB (a, b, c, d, e) <;> rfl
    · dsimp only [filter_CheckCascade_l1]
      rw [if_neg (by simp)]
theorem rcas_eq (l : List (Int × Int × Int × Int × Int)) : ref06_CheckCascade l = some (casE l) := by
  unfold ref06_CheckCascade casE
  by_cases hl : l.length > 6
  · rw [if_pos (by simp; omega), if_pos hl]
  · rw [if_neg (by simp; omega), if_neg hl]
    refine (bind_first (fun k : Nat => (k : Int)) (fun x => !secB x) (fun k _ => .inl ((k : Int), (2 : Int))) (.inr ()) l (Sum.elim id fun _ => (0, 0)) rfl (fun e => by rcases e with ⟨x, y⟩ | _ <;> rfl) (fun k x hk => ?_) ?_).trans rfl
    · have hk2 := (List.getElem?_eq_some_iff.1 hk).1
      obtain ⟨a, b, c, d, e⟩ := x
      dsimp only [ref06_CheckCascade_l1]
      rw [if_pos (by simpa using hk2), getI_nat, hk, Option.bind_some]
      dsimp only
      rw [rsec_eq, Option.bind_some, wsucc (n := l.length) (by omega) (by omega)]
      unfold secE
      cases secB (a, b, c, d, e) <;> rfl
    · dsimp only [ref06_CheckCascade_l1]
      rw [if_neg (by simp)]
theorem casE_zero {l : List (Int × Int × Int × Int × Int)} (h : (casE l).2 = 0) : l.length ≤ 6 ∧ ∀ x, x ∈ l → secB x = true := by
  unfold casE at h
  split at h
  · cases h
  · rename_i hl
    refine ⟨by omega, ?_⟩
    have : ∀ (xs : List (Int × Int × Int × Int × Int)) k, (firstOr (fun x => !secB x) (fun k _ => ((k : Int), (2 : Int))) (0, 0) k xs).2 = 0 → ∀ x, x ∈ xs → secB x = true := by
      intro xs
      induction xs with
      | nil => intro k _ x hx; cases hx
      | cons y t ih =>
        intro k hk x hx
        unfold firstOr at hk
        cases hy : secB y with
        | false => simp [hy] at hk
        | true =>
          rw [if_neg (by simp [hy])] at hk
          rcases List.mem_cons.1 hx with rfl | hx
          · exact hy
          · exact ih _ hk x hx
    exact this l 0 h
theorem copy_eq {l : List (Int × Int × Int × Int × Int)} (h : l.length ≤ 1024) : ref06_Copy l = some l := by
  unfold ref06_Copy appI
  rw [if_pos (by simp; omega)]
  rfl
end Go.Rex

namespace Go.Rex
def stabB (p q : Int) : Bool := decide ((q.natAbs : Int) < 16384) && decide ((p.natAbs : Int) < 16384 + q)
theorem stab_if {p q : Int} : ((some (q.natAbs : Int)).bind fun v4 => if decide (v4 < 16384) = true then ((some (p.natAbs : Int)).bind fun v5 => some (decide (v5 < 16384 + q))) else some false) = some (stabB p q) := by
  rw [Option.bind_some, Option.bind_some]
  unfold stabB
  by_cases h : (q.natAbs : Int) < 16384
  · rw [if_pos (decide_eq_true h), decide_eq_true h, Bool.true_and]
  · rw [if_neg (by simpa using h), decide_eq_false h, Bool.false_and]
theorem fstab_eq {p q : Int} (hp : -40000 ≤ p ∧ p ≤ 40000) (hq : -40000 ≤ q ∧ q ≤ 40000) : filter_isStable p q = some (stabB p q) := by
  unfold filter_isStable
  rw [fsize_eq (by omega), fsize_eq (by omega), w64 (x := 16384 + q) (by omega)]
  exact stab_if
theorem rstab_eq {p q : Int} (a b c : Int) (hp : -40000 ≤ p ∧ p ≤ 40000) (hq : -40000 ≤ q ∧ q ≤ 40000) : ref06_IsStable a b c p q = some (stabB p q) := by
  unfold ref06_IsStable
  rw [bsize_eq (by omega), bsize_eq (by omega), w64 (x := 16384 + q) (by omega)]
  exact stab_if
theorem stabB_iff {p q : Int} : stabB p q = true ↔ (q.natAbs : Int) < 16384 ∧ (p.natAbs : Int) < 16384 + q := by
  unfold stabB
  rw [Bool.and_eq_true, decide_eq_true_eq, decide_eq_true_eq]
end Go.Rex

namespace Go.Rex
theorem gcd_run : ∀ (n : Nat) (a b : Int), b.natAbs = n → ∃ r, run base_Gcd_l1 (a, b) = some r ∧ r.natAbs = Nat.gcd a.natAbs b.natAbs := by
  intro n
  induction n using Nat.strongRecOn with
  | _ n ih =>
    intro a b hb
    by_cases h : b = 0
    · refine ⟨a, run_stop ?_, by subst h; simp⟩
      dsimp only [base_Gcd_l1]
      rw [if_neg (by simp [h])]
    · have h1 : base_Gcd_l1 (a, b) = some (.inl (b, a.tmod b)) := by
        dsimp only [base_Gcd_l1]
        rw [if_pos (by simpa using h), if_neg h]
      obtain ⟨r, hr, hg⟩ := ih (a.tmod b).natAbs (by rw [Int.natAbs_tmod, ← hb]; exact Nat.mod_lt _ (by omega)) b (a.tmod b) rfl
      refine ⟨r, by rw [run_next h1]; exact hr, ?_⟩
      rw [hg, Int.natAbs_tmod, Nat.gcd_comm, ← Nat.gcd_rec, Nat.gcd_comm]
theorem gcd_eq {a b : Int} (ha : -9223372036854775807 ≤ a ∧ a ≤ 9223372036854775807) (hb : -9223372036854775807 ≤ b ∧ b ≤ 9223372036854775807) : base_Gcd a b = some ((Nat.gcd a.natAbs b.natAbs : Nat) : Int) := by
  obtain ⟨r, hr, hg⟩ := gcd_run b.natAbs a b rfl
  have hle : r.natAbs ≤ 9223372036854775807 := by
    rw [hg]
    by_cases h : b = 0
    · subst h
      rw [Int.natAbs_zero, Nat.gcd_zero_right]
      omega
    · have := Nat.gcd_le_right a.natAbs (n := b.natAbs) (by omega)
      omega
  unfold base_Gcd
  rw [hr, Option.bind_some, bsize_eq (by omega), hg]
  rfl
theorem div_gcd (a b : Int) : filter_divisor a b = base_Gcd a b := rfl
end Go.Rex

namespace Go.Rex
theorem low_eq {a b : Int} (ha : -1000000 ≤ a ∧ a ≤ 1000000) (hb : -1000000 ≤ b ∧ b ≤ 1000000) (hb0 : b ≠ 0) : ∃ x y g : Int, 0 < g ∧ filter_lowest a b = some (x, y) ∧ ref06_fraction a b = some (x, y) ∧ (x.natAbs : Int) * g = a.natAbs ∧ y * g = b.natAbs := by
  have key : ∀ c d : Int, -1000000 ≤ c ∧ c ≤ 1000000 → 0 < d ∧ d ≤ 1000000 → ∃ g : Int, 0 < g ∧ base_Gcd c d = some g ∧ ((c.tdiv g).natAbs : Int) * g = c.natAbs ∧ d.tdiv g * g = d ∧ -1000000 ≤ c.tdiv g ∧ c.tdiv g ≤ 1000000 ∧ 0 ≤ d.tdiv g ∧ d.tdiv g ≤ 1000000 := by
    intro c d hc hd
    have hgp : 0 < Nat.gcd c.natAbs d.natAbs := Nat.gcd_pos_of_pos_right _ (by omega)
    have d1 : ((Nat.gcd c.natAbs d.natAbs : Nat) : Int) ∣ c := Int.natAbs_dvd_natAbs.1 (by simpa using Nat.gcd_dvd_left c.natAbs d.natAbs)
    have d2 : ((Nat.gcd c.natAbs d.natAbs : Nat) : Int) ∣ d := Int.natAbs_dvd_natAbs.1 (by simpa using Nat.gcd_dvd_right c.natAbs d.natAbs)
    refine ⟨(Nat.gcd c.natAbs d.natAbs : Nat), by omega, gcd_eq (by omega) (by omega), ?_, Int.tdiv_mul_cancel d2, ?_⟩
    · have := congrArg Int.natAbs (Int.tdiv_mul_cancel d1)
      rw [Int.natAbs_mul] at this
      simp only [Int.natAbs_natCast] at this
      rw [← Int.natCast_mul, this]
    · have h1 := Int.natAbs_tdiv_le_natAbs c ((Nat.gcd c.natAbs d.natAbs : Nat) : Int)
      have h2 := Int.natAbs_tdiv_le_natAbs d ((Nat.gcd c.natAbs d.natAbs : Nat) : Int)
      have h3 := Int.tdiv_nonneg (show 0 ≤ d by omega) (show (0 : Int) ≤ ((Nat.gcd c.natAbs d.natAbs : Nat) : Int) by omega)
      omega
  unfold filter_lowest ref06_fraction base_Lowest
  simp only [div_gcd]
  by_cases hn : b < 0
  · rw [if_pos (by rw [decide_eq_true_eq]; exact hn), if_pos (by rw [decide_eq_true_eq]; exact hn), wneg (x := a) (by omega), wneg (x := b) (by omega)]
    obtain ⟨g, g0, g1, g2, g3, g4, g5, g6, g7⟩ := key (-a) (-b) (by omega) (by omega)
    refine ⟨(-a).tdiv g, (-b).tdiv g, g, g0, ?_, ?_, by rw [g2]; omega, by rw [g3]; omega⟩
    · rw [g1, Option.bind_some, if_neg (by omega), w64 (by omega), w64 (by omega)]
    · rw [g1, Option.bind_some, if_neg (by rw [decide_eq_true_eq]; omega), if_neg (by omega), w64 (by omega), w64 (by omega)]
      rfl
  · rw [if_neg (by rw [decide_eq_true_eq]; exact hn), if_neg (by rw [decide_eq_true_eq]; exact hn)]
    obtain ⟨g, g0, g1, g2, g3, g4, g5, g6, g7⟩ := key a b (by omega) (by omega)
    refine ⟨a.tdiv g, b.tdiv g, g, g0, ?_, ?_, g2, by rw [g3]; omega⟩
    · rw [g1, Option.bind_some, if_neg (by omega), w64 (by omega), w64 (by omega)]
    · rw [g1, Option.bind_some, if_neg (by rw [decide_eq_true_eq]; omega), if_neg (by omega), w64 (by omega), w64 (by omega)]
      rfl
theorem frac_lt {x y g a b : Int} (hg : 0 < g) (h1 : x * g = a) (h2 : y * g = b) : x < y ↔ a < b := by
  subst h1 h2
  exact (Int.mul_lt_mul_right hg).symm
/-- the first section that is not stable -/
def unsE (l : List (Int × Int × Int × Int × Int)) : Int × Int := firstOr (fun x => !stabB x.2.2.2.1 x.2.2.2.2) (fun k _ => ((k : Int), 0)) (0, 12) 0 l
theorem funs_eq {l : List (Int × Int × Int × Int × Int)} (hl : l.length ≤ 1024) : filter_FirstUnstable l = if (casE l).2 = 0 then some (unsE l) else some (0, (casE l).2) := by
  unfold filter_FirstUnstable filter_cascadeError
  rw [fcas_eq]
  dsimp only [Option.bind_some]
  by_cases h : (casE l).2 = 0
  · obtain ⟨_, hs⟩ := casE_zero h
    rw [if_neg (by rw [decide_eq_true_eq]; exact fun hc => hc h), if_pos h]
    refine (bind_first (fun k : Nat => (k : Int)) (fun x => !stabB x.2.2.2.1 x.2.2.2.2) (fun k _ => .inl (k : Int)) (.inr ()) l (Sum.elim (fun k => (k, 0)) fun _ => (0, 12)) rfl (fun e => by rcases e with _ | _ <;> rfl) (fun k x hk => ?_) ?_).trans (by unfold unsE; simp only [Sum.elim_inl, Sum.elim_inr])
    · have hk2 := (List.getElem?_eq_some_iff.1 hk).1
      have hx := hs x (List.mem_of_getElem? hk)
      obtain ⟨a, b, c, d, e⟩ := x
      obtain ⟨h1, h2, h3, h4, h5⟩ := secB_iff.1 hx
      dsimp only [filter_FirstUnstable_l1]
      rw [if_pos (by simpa using hk2), getI_nat, hk, Option.bind_some]
      dsimp only
      rw [fstab_eq (by omega) (by omega), Option.bind_some, wsucc (n := l.length) (by omega) (by omega)]
      cases stabB d e <;> rfl
    · dsimp only [filter_FirstUnstable_l1]
      rw [if_neg (by simp)]
  · rw [if_pos (by rw [decide_eq_true_eq]; exact h), if_neg h]
theorem runs_eq {l : List (Int × Int × Int × Int × Int)} (hl : l.length ≤ 1024) (h : (casE l).2 = 0) : ref06_FirstUnstable l = some (unsE l) := by
  unfold ref06_FirstUnstable
  obtain ⟨_, hs⟩ := casE_zero h
  refine (bind_first (fun k : Nat => (k : Int)) (fun x => !stabB x.2.2.2.1 x.2.2.2.2) (fun k _ => .inl (k : Int)) (.inr ()) l (Sum.elim (fun k => (k, 0)) fun _ => (0, 12)) rfl (fun e => by rcases e with _ | _ <;> rfl) (fun k x hk => ?_) ?_).trans (by unfold unsE; simp only [Sum.elim_inl, Sum.elim_inr])
  · have hk2 := (List.getElem?_eq_some_iff.1 hk).1
    have hx := hs x (List.mem_of_getElem? hk)
    obtain ⟨a, b, c, d, e⟩ := x
    obtain ⟨h1, h2, h3, h4, h5⟩ := secB_iff.1 hx
    dsimp only [ref06_FirstUnstable_l1]
    rw [if_pos (by simpa using hk2), getI_nat, hk, Option.bind_some]
    dsimp only
    rw [rstab_eq _ _ _ (by omega) (by omega), Option.bind_some, wsucc (n := l.length) (by omega) (by omega)]
    cases stabB d e <;> rfl
  · dsimp only [ref06_FirstUnstable_l1]
    rw [if_neg (by simp)]
theorem fIs_eq {a b c d e : Int} : filter_IsStable a b c d e = some (if secB (a, b, c, d, e) = true then (stabB d e, 0) else (false, 2)) := by
  unfold filter_IsStable
  rw [fsec_eq, Option.bind_some]
  unfold secE
  by_cases h : secB (a, b, c, d, e) = true
  · obtain ⟨h1, h2, h3, h4, h5⟩ := secB_iff.1 h
    rw [if_pos h, if_pos h, if_neg (by simp), fstab_eq (by omega) (by omega)]
    rfl
  · rw [if_neg h, if_neg h, if_pos (by simp)]
theorem fRef_bad {a b c d e : Int} (h : secB (a, b, c, d, e) ≠ true) : filter_Reflections a b c d e = some (0, 0, 0, 0, 2) := by
  unfold filter_Reflections
  rw [fsec_eq, refuse_eq, Option.bind_some, Option.bind_some, first2, Option.bind_some]
  unfold secE
  rw [if_neg h, if_pos (by simp), if_pos (by simp)]
theorem fRef_zero {a b c d e : Int} (h : secB (a, b, c, d, e) = true) (h0 : 16384 + e = 0) : filter_Reflections a b c d e = some (0, 0, 0, 0, 11) ∧ ref06_Reflections a b c d e = some (0, 0, 0, 0, 11) := by
  unfold filter_Reflections ref06_Reflections
  rw [fsec_eq, refuse_eq, Option.bind_some, Option.bind_some, first2, Option.bind_some, w64 (x := 16384 + e) (by omega), h0]
  unfold secE
  rw [if_pos h]
  exact ⟨rfl, rfl⟩
theorem fRef_good {a b c d e : Int} (h : secB (a, b, c, d, e) = true) (h0 : 16384 + e ≠ 0) : ∃ x y z w : Int, filter_Reflections a b c d e = some (x, y, z, w, 0) ∧ ref06_Reflections a b c d e = some (x, y, z, w, 0) ∧ ((x.natAbs : Int) < y ↔ (e.natAbs : Int) < 16384) ∧ ((z.natAbs : Int) < w ↔ (d.natAbs : Int) < (16384 + e).natAbs) ∧ -1000000 ≤ x ∧ x ≤ 1000000 ∧ -1000000 ≤ z ∧ z ≤ 1000000 := by
  obtain ⟨h1, h2, h3, h4, h5⟩ := secB_iff.1 h
  obtain ⟨x, y, g, g0, g1, g2, g3, g4⟩ := low_eq (a := e) (b := 16384) (by omega) (by omega) (by omega)
  obtain ⟨z, w, k, k0, k1, k2, k3, k4⟩ := low_eq (a := d) (b := 16384 + e) (by omega) (by omega) h0
  have g5 : y * g = 16384 := by simpa using g4
  have hx : (x.natAbs : Int) ≤ (x.natAbs : Int) * g := by
    have : (x.natAbs : Int) * 1 ≤ (x.natAbs : Int) * g := Int.mul_le_mul_of_nonneg_left (by omega) (by omega)
    omega
  have hz : (z.natAbs : Int) ≤ (z.natAbs : Int) * k := by
    have : (z.natAbs : Int) * 1 ≤ (z.natAbs : Int) * k := Int.mul_le_mul_of_nonneg_left (by omega) (by omega)
    omega
  clear g4
  have l1 : (x.natAbs : Int) < y ↔ (e.natAbs : Int) < 16384 := frac_lt g0 g3 g5
  have l2 : (z.natAbs : Int) < w ↔ (d.natAbs : Int) < (16384 + e).natAbs := frac_lt k0 k3 k4
  have l3 : -1000000 ≤ x ∧ x ≤ 1000000 := by rw [g3] at hx; omega
  have l4 : -1000000 ≤ z ∧ z ≤ 1000000 := by rw [k3] at hz; omega
  refine ⟨x, y, z, w, ?_, ?_, l1, l2, l3.1, l3.2, l4.1, l4.2⟩
  · unfold filter_Reflections
    have hE : secE (a, b, c, d, e) = 0 := by unfold secE; rw [if_pos h]
    rw [fsec_eq, refuse_eq, Option.bind_some, Option.bind_some, first2, Option.bind_some, w64 (x := 16384 + e) (by omega), hE]
    simp [h0, g1, k1]
  · unfold ref06_Reflections
    rw [w64 (x := 16384 + e) (by omega), if_neg (by rw [decide_eq_true_eq]; exact h0), g2]
    dsimp only [Option.bind_some]
    rw [k2, Option.bind_some]
noncomputable def restX (a b c d e : Int) : Option Bool := (
      (filter_IsStable a b c d e).bind fun (v19, v20) =>
              (filter_Reflections a b c d e).bind fun (v21, v22, v23, v24, v25) =>
              (ref06_CheckSection a b c d e).bind fun v26 =>
              (filter_CheckSection a b c d e).bind fun v27 =>
              if (decide (v27 ≠ v26)) = true then
                (some (false))
              else
                (if (decide (v26 ≠ 0)) = true then
                  (if (decide (v20 = v26)) = true then
                    (if (decide (v25 = v26)) = true then
                      (if v19 = true then
                        (some (false))
                      else
                        (some (([[v21 == 0, v22 == 0].all id, [v23 == 0, v24 == 0].all id].all id))))
                    else
                      (some (false)))
                  else
                    (some (false)))
                else
                  ((ref06_Reflections a b c d e).bind fun (v28, v29, v30, v31, v32) =>
                  if (decide (v20 ≠ 0)) = true then
                    (some (false))
                  else
                    ((ref06_IsStable a b c d e).bind fun v33 =>
                    if (v19 == v33) = true then
                      (if (decide (v25 ≠ v32)) = true then
                        (some (false))
                      else
                        (if ([[v21 == v28, v22 == v29].all id, [v23 == v30, v24 == v31].all id].all id) = true then
                          (if (decide (v32 ≠ 0)) = true then
                            (some (true))
                          else
                            ((base_Size v21).bind fun v34 =>
                            if (decide (v34 < v22)) = true then
                              ((base_Size v23).bind fun v35 =>
                              some ((v19 == (decide (v35 < v24)))))
                            else
                              (some ((v19 == false)))))
                        else
                          (some (false))))
                    else
                      (some (false))))))
theorem rest_zero {a b c d e : Int} (sb : Bool) (i1 : filter_IsStable a b c d e = some (sb, 0)) (i2 : ref06_CheckSection a b c d e = some 0) (i3 : filter_CheckSection a b c d e = some 0) (b3 : ref06_IsStable a b c d e = some sb) (r1 : filter_Reflections a b c d e = some (0, 0, 0, 0, 11)) (r2 : ref06_Reflections a b c d e = some (0, 0, 0, 0, 11)) : restX a b c d e = some true := by
  unfold restX
  simp [r1, r2, i1, i2, i3, b3]
theorem rest_good {a b c d e x y z w p q : Int} (sb : Bool) (i1 : filter_IsStable a b c d e = some (sb, 0)) (i2 : ref06_CheckSection a b c d e = some 0) (i3 : filter_CheckSection a b c d e = some 0) (b3 : ref06_IsStable a b c d e = some sb) (r1 : filter_Reflections a b c d e = some (x, y, z, w, 0)) (r2 : ref06_Reflections a b c d e = some (x, y, z, w, 0))
    (b1 : base_Size x = some p) (b2 : base_Size z = some q) (hsb : sb = true ↔ p < y ∧ q < w) : restX a b c d e = some true := by
  unfold restX
  simp only [r1, r2, b1, b2, b3, i1, i2, i3, Option.bind_some]
  by_cases q1 : p < y <;> by_cases q2 : q < w <;> simp only [q1, q2, and_self, and_true, true_and, and_false, false_and, iff_true, iff_false, Bool.not_eq_true] at hsb <;> subst hsb <;> simp [q1, q2]
theorem rest_bad {a b c d e : Int} (i1 : filter_IsStable a b c d e = some (false, 2)) (i2 : ref06_CheckSection a b c d e = some 2) (i3 : filter_CheckSection a b c d e = some 2) (r1 : filter_Reflections a b c d e = some (0, 0, 0, 0, 2)) : restX a b c d e = some true := by
  unfold restX
  simp [r1, i1, i2, i3]
theorem rest_true (a b c d e : Int) : restX a b c d e = some true := by
  have i1 := @fIs_eq a b c d e
  have i2 := rsec_eq a b c d e
  have i3 := fsec_eq a b c d e
  by_cases h : secB (a, b, c, d, e) = true
  · have hE : secE (a, b, c, d, e) = 0 := by unfold secE; rw [if_pos h]
    rw [if_pos h] at i1
    rw [hE] at i2 i3
    obtain ⟨h1, h2, h3, h4, h5⟩ := secB_iff.1 h
    have b3 := rstab_eq a b c (p := d) (q := e) (by omega) (by omega)
    by_cases h0 : 16384 + e = 0
    · obtain ⟨r1, r2⟩ := fRef_zero h h0
      exact rest_zero _ i1 i2 i3 b3 r1 r2
    · obtain ⟨x, y, z, w, r1, r2, r3, r4, r5, r6, r7, r8⟩ := fRef_good h h0
      refine rest_good _ i1 i2 i3 b3 r1 r2 (bsize_eq (x := x) (by omega)) (bsize_eq (x := z) (by omega)) ?_
      rw [stabB_iff, r3, r4]
      constructor <;> intro hh <;> omega
  · have hE : secE (a, b, c, d, e) = 2 := by unfold secE; rw [if_neg h]
    rw [if_neg h] at i1
    rw [hE] at i2 i3
    exact rest_bad i1 i2 i3 (fRef_bad h)
theorem checks_true (l : List (Int × Int × Int × Int × Int)) (a b c d e : Int) : law06_FilterChecks l a b c d e = some true := by
  unfold law06_FilterChecks law06_few
  rw [Option.bind_some]
  by_cases hl : (l.length : Int) ≤ 8
  · have R := rest_true a b c d e
    unfold restX at R
    have hf := funs_eq (l := l) (by omega)
    have hr := runs_eq (l := l) (by omega)
    have c1 := fcas_eq l
    have c2 := rcas_eq l
    obtain ⟨⟨ci, ce⟩, hc⟩ : ∃ x, casE l = x := ⟨_, rfl⟩
    obtain ⟨⟨ui, ue⟩, hu⟩ : ∃ x, unsE l = x := ⟨_, rfl⟩
    rw [hc] at hf hr c1 c2
    rw [hu] at hf hr
    rw [if_pos (by simpa using hl)]
    simp only [copy_eq (l := l) (by omega), Option.bind_some, c1, c2, hf]
    by_cases h : ce = 0
    · subst h
      simp only [hr, Option.bind_some, ne_eq, not_true, decide_false, Bool.false_eq_true, if_false, decide_true, if_true]
      exact R
    · simp only [h, Option.bind_some, ne_eq, not_true, decide_false, Bool.false_eq_true, if_false, decide_true, if_true]
      exact R
  · rw [if_neg (by simpa using hl)]
end Go.Rex

namespace Go.Rex
open Go Go.ChangeShapes Go.WideShapes Go.ChangeAt Go.RowKit Go.Joins Go.Proofs
/-! ### arguments: what they are as trees, and the names of their blocks -/
structure Arg (W : World) (v' : Value) (p : TV) (bs : List Blk) (is : List Info) (av : Nat → Value) : Prop where
  vr : ∀ (D : Nat → Prop) (m : NMap) n, (∀ j, j < bs.length → D (n + j)) → (∀ (j : Nat) i, is[j]? = some i → m (n + j) = i) → VR D m (av n) v'
  vl : ∀ (Fz : Nat → Prop) (h : List Blk) n, (∀ j, j < bs.length → Fz (n + j)) → (∀ (j : Nat) b, bs[j]? = some b → h[n + j]? = some b) → VL Fz h noL p (av n)
  ok : ∀ (D : Nat → Prop) (m : NMap) n, (∀ j, j < bs.length → D (n + j)) → (∀ (j : Nat) i, is[j]? = some i → m (n + j) = i) → ∀ (j : Nat) b, bs[j]? = some b → BlkOk D m W (n + j) b
  lt : ∀ (j : Nat) b i, bs[j]? = some b → is[j]? = some i → b ≠ .dead → i.block < W.heap.size
  len : is.length = bs.length
structure Args (W : World) (vs' : List Value) (ps : List TV) (bs : List Blk) (is : List Info) (av : Nat → List Value) : Prop where
  vr : ∀ (D : Nat → Prop) (m : NMap) n, (∀ j, j < bs.length → D (n + j)) → (∀ (j : Nat) i, is[j]? = some i → m (n + j) = i) → VRs D m (av n) vs'
  vl : ∀ (Fz : Nat → Prop) (h : List Blk) n, (∀ j, j < bs.length → Fz (n + j)) → (∀ (j : Nat) b, bs[j]? = some b → h[n + j]? = some b) → VLs Fz h noL ps (av n)
  ok : ∀ (D : Nat → Prop) (m : NMap) n, (∀ j, j < bs.length → D (n + j)) → (∀ (j : Nat) i, is[j]? = some i → m (n + j) = i) → ∀ (j : Nat) b, bs[j]? = some b → BlkOk D m W (n + j) b
  lt : ∀ (j : Nat) b i, bs[j]? = some b → is[j]? = some i → b ≠ .dead → i.block < W.heap.size
  len : is.length = bs.length
theorem Args.nil (W : World) : Args W [] [] [] [] (fun _ => []) :=
  ⟨fun _ _ _ _ _ => ⟨rfl, fun i a a' h => by simp at h⟩, fun _ _ _ _ _ => .nil, fun _ _ _ _ _ j b h => by simp at h, fun j b i h => by simp at h, rfl⟩
theorem Args.cons {W : World} {v' : Value} {p : TV} {bs bs2 : List Blk} {is is2 : List Info} {av : Nat → Value} {vs' : List Value} {ps : List TV} {avs : Nat → List Value}
    (a : Arg W v' p bs is av) (as : Args W vs' ps bs2 is2 avs) : Args W (v' :: vs') (p :: ps) (bs ++ bs2) (is ++ is2) (fun n => av n :: avs (n + bs.length)) := by
  have cD : ∀ (D : Nat → Prop) n, (∀ j, j < (bs ++ bs2).length → D (n + j)) → (∀ j, j < bs.length → D (n + j)) ∧ (∀ j, j < bs2.length → D (n + bs.length + j)) := by
    intro D n h
    refine ⟨fun j hj => h j (by simp; omega), fun j hj => ?_⟩
    have := h (bs.length + j) (by simp; omega)
    rwa [← Nat.add_assoc] at this
  have cI : ∀ (m : NMap) n, (∀ (j : Nat) i, (is ++ is2)[j]? = some i → m (n + j) = i) → (∀ (j : Nat) i, is[j]? = some i → m (n + j) = i) ∧ (∀ (j : Nat) i, is2[j]? = some i → m (n + bs.length + j) = i) := by
    intro m n h
    refine ⟨fun j i hj => h j i (by rw [List.getElem?_append_left (List.getElem?_eq_some_iff.1 hj).1]; exact hj), fun j i hj => ?_⟩
    have := h (bs.length + j) i (by rw [List.getElem?_append_right (by rw [a.len]; omega), a.len, Nat.add_sub_cancel_left]; exact hj)
    rwa [← Nat.add_assoc] at this
  refine ⟨fun D m n hD hm => ?_, fun Fz h n hF hh => ?_, fun D m n hD hm j b hb => ?_, fun j b i hb hi hd => ?_, by simp [a.len, as.len]⟩
  · have h1 := a.vr D m n (cD D n hD).1 (cI m n hm).1
    have h2 := as.vr D m (n + bs.length) (cD D n hD).2 (cI m n hm).2
    refine ⟨by simp [h2.len], fun i x x' hx hx' => ?_⟩
    cases i with
    | zero => simp at hx hx'; subst hx hx'; exact h1
    | succ i => simp at hx hx'; exact h2.at' i x x' hx hx'
  · refine .cons (a.vl Fz h n (cD Fz n hF).1 fun j b hb => hh j b (by rw [List.getElem?_append_left (List.getElem?_eq_some_iff.1 hb).1]; exact hb)) (as.vl Fz h (n + bs.length) (cD Fz n hF).2 fun j b hb => ?_)
    have := hh (bs.length + j) b (by rw [List.getElem?_append_right (by omega), Nat.add_sub_cancel_left]; exact hb)
    rwa [← Nat.add_assoc] at this
  · rcases Nat.lt_or_ge j bs.length with hj | hj
    · rw [List.getElem?_append_left hj] at hb
      exact a.ok D m n (cD D n hD).1 (cI m n hm).1 j b hb
    · rw [List.getElem?_append_right hj] at hb
      have := as.ok D m (n + bs.length) (cD D n hD).2 (cI m n hm).2 _ b hb
      rwa [show n + bs.length + (j - bs.length) = n + j by omega] at this
  · rcases Nat.lt_or_ge j bs.length with hj | hj
    · rw [List.getElem?_append_left hj] at hb
      rw [List.getElem?_append_left (by rw [a.len]; exact hj)] at hi
      exact a.lt j b i hb hi hd
    · rw [List.getElem?_append_right hj] at hb
      rw [List.getElem?_append_right (by rw [a.len]; exact hj), a.len] at hi
      exact as.lt _ b i hb hi hd
/-- the names of the arguments -/
def nm (is : List Info) : NMap := fun n => is.getD n ⟨0, 0, 0, 0⟩
theorem nm_at {is : List Info} {j : Nat} {i : Info} (h : is[j]? = some i) : nm is (0 + j) = i := by
  unfold nm
  rw [Nat.zero_add, List.getD_eq_getElem?_getD, h]
  rfl
section
variable {W : World} {vs' : List Value} {ps : List TV} {bs : List Blk} {is : List Info} {av : Nat → List Value}
theorem Args.rel (a : Args W vs' ps bs is av) : Rel W.heap.size bs.length (fun k => k < bs.length) (nm is) bs W := by
  refine ⟨Nat.le_refl _, fun _ h => h, fun n b hn hb => ?_, fun n b hn hb hd => ?_, fun n b hD hl => absurd hD (by omega), fun n b hn _ hb hd => ?_, fun n b hD hl => absurd hD (by omega), fun n n' b b' hD _ hl => absurd hD (by omega)⟩
  · have := a.ok (fun k => k < bs.length) (nm is) 0 (fun j hj => by omega) (fun j i hi => nm_at hi) n b hb
    rwa [Nat.zero_add] at this
  all_goals
    have hi : n < is.length := by rw [a.len]; exact hn
    have e := nm_at (List.getElem?_eq_getElem hi)
    rw [Nat.zero_add] at e
    rw [e]
    exact a.lt n b _ hb (List.getElem?_eq_getElem hi) hd
theorem Args.vls (a : Args W vs' ps bs is av) : VLs (fun k => k < bs.length) bs noL ps (av 0) := a.vl _ _ 0 (fun j hj => by omega) (fun j b hb => by rw [Nat.zero_add]; exact hb)
theorem Args.vrs (a : Args W vs' ps bs is av) : VRs (fun k => k < bs.length) (nm is) (av 0) vs' := a.vr _ _ 0 (fun j hj => by omega) (fun j i hi => nm_at hi)
end
theorem len1 {α : Type} {l : List α} (h : l.length = 1) : ∃ x0, l = [x0] := by
  match l, h with
  | [x0], _ => exact ⟨_, rfl⟩
theorem len2 {α : Type} {l : List α} (h : l.length = 2) : ∃ x0 x1, l = [x0, x1] := by
  match l, h with
  | [x0, x1], _ => exact ⟨_, _, rfl⟩
theorem len3 {α : Type} {l : List α} (h : l.length = 3) : ∃ x0 x1 x2, l = [x0, x1, x2] := by
  match l, h with
  | [x0, x1, x2], _ => exact ⟨_, _, _, rfl⟩
theorem len4 {α : Type} {l : List α} (h : l.length = 4) : ∃ x0 x1 x2 x3, l = [x0, x1, x2, x3] := by
  match l, h with
  | [x0, x1, x2, x3], _ => exact ⟨_, _, _, _, rfl⟩
theorem len5 {α : Type} {l : List α} (h : l.length = 5) : ∃ x0 x1 x2 x3 x4, l = [x0, x1, x2, x3, x4] := by
  match l, h with
  | [x0, x1, x2, x3, x4], _ => exact ⟨_, _, _, _, _, rfl⟩
theorem len6 {α : Type} {l : List α} (h : l.length = 6) : ∃ x0 x1 x2 x3 x4 x5, l = [x0, x1, x2, x3, x4, x5] := by
  match l, h with
  | [x0, x1, x2, x3, x4, x5], _ => exact ⟨_, _, _, _, _, _, rfl⟩
theorem len7 {α : Type} {l : List α} (h : l.length = 7) : ∃ x0 x1 x2 x3 x4 x5 x6, l = [x0, x1, x2, x3, x4, x5, x6] := by
  match l, h with
  | [x0, x1, x2, x3, x4, x5, x6], _ => exact ⟨_, _, _, _, _, _, _, rfl⟩
theorem len8 {α : Type} {l : List α} (h : l.length = 8) : ∃ x0 x1 x2 x3 x4 x5 x6 x7, l = [x0, x1, x2, x3, x4, x5, x6, x7] := by
  match l, h with
  | [x0, x1, x2, x3, x4, x5, x6, x7], _ => exact ⟨_, _, _, _, _, _, _, _, rfl⟩
theorem len9 {α : Type} {l : List α} (h : l.length = 9) : ∃ x0 x1 x2 x3 x4 x5 x6 x7 x8, l = [x0, x1, x2, x3, x4, x5, x6, x7, x8] := by
  match l, h with
  | [x0, x1, x2, x3, x4, x5, x6, x7, x8], _ => exact ⟨_, _, _, _, _, _, _, _, _, rfl⟩
theorem len10 {α : Type} {l : List α} (h : l.length = 10) : ∃ x0 x1 x2 x3 x4 x5 x6 x7 x8 x9, l = [x0, x1, x2, x3, x4, x5, x6, x7, x8, x9] := by
  match l, h with
  | [x0, x1, x2, x3, x4, x5, x6, x7, x8, x9], _ => exact ⟨_, _, _, _, _, _, _, _, _, _, rfl⟩
/-! ### arguments without names -/
def AtomV (c : Value) : Prop := isAtom c = true ∧ ∀ D m, VR D m c c
theorem atomV_int (k : IntKind) (n : Int) : AtomV (.int k n) := ⟨rfl, fun _ _ => .int _ _⟩
theorem Arg.atom {W : World} {v : Value} (h : AtomV v) : Arg W v (.v v) [] [] (fun _ => v) :=
  ⟨fun _ _ _ _ _ => h.2 _ _, fun _ _ _ _ _ => .v _ _ h.1, fun _ _ _ _ _ j b h => by simp at h, fun j b i h => by simp at h, rfl⟩
theorem Arg.agg {W : World} {l : List Value} (h : ∀ c ∈ l, AtomV c) : Arg W (.agg ⟨l⟩) (.agg (l.map .v)) [] [] (fun _ => .agg ⟨l⟩) := by
  refine ⟨fun _ _ _ _ _ => .agg _ _ rfl fun i v v' hv hv' => ?_, fun _ _ _ _ _ => .agg _ _ _ (by simp) fun i p x hp hx => ?_, fun _ _ _ _ _ j b h => by simp at h, fun j b i h => by simp at h, rfl⟩
  · obtain rfl : v = v' := Option.some.inj (hv.symm.trans hv')
    exact (h v (List.mem_of_getElem? hv)).2 _ _
  · rw [List.getElem?_map, hx] at hp
    obtain rfl := Option.some.inj hp
    exact .v _ _ (h x (List.mem_of_getElem? hx)).1
/-! ### a slice of rows -/
theorem flatMap_at {α β : Type} {g : α → List β} {es : Nat} (hg : ∀ x, (g x).length = es) (he : 0 < es) : ∀ (xs : List α) i, (xs.flatMap g)[i]? = (xs[i / es]?).bind fun x => (g x)[i % es]?
  | [], i => by simp
  | x :: t, i => by
    rw [List.flatMap_cons]
    rcases Nat.lt_or_ge i es with h | h
    · rw [List.getElem?_append_left (by rw [hg]; exact h), Nat.div_eq_of_lt h, Nat.mod_eq_of_lt h]
      rfl
    · rw [List.getElem?_append_right (by rw [hg]; exact h), hg, flatMap_at hg he t (i - es)]
      have e1 : i / es = (i - es) / es + 1 := by rw [Nat.div_eq_sub_div he h]
      have e2 : i % es = (i - es) % es := Nat.mod_eq_sub_mod h
      rw [e1, e2]
      rfl
theorem flatMap_len {α β : Type} {g : α → List β} {es : Nat} (hg : ∀ x, (g x).length = es) : ∀ (xs : List α), (xs.flatMap g).length = xs.length * es
  | [] => by simp
  | x :: t => by rw [List.flatMap_cons, List.length_append, hg, flatMap_len hg t, List.length_cons, Nat.add_mul]; omega
theorem flatMap_map {α : Type} {f : α → List TV} {g : α → List Value} (hf : ∀ x, f x = (g x).map .v) : ∀ (xs : List α), (xs.map f).flatten = (xs.flatMap g).map .v
  | [] => rfl
  | x :: t => by rw [List.map_cons, List.flatten_cons, flatMap_map hf t, List.flatMap_cons, List.map_append, hf]
theorem choose_list {α : Type} {Q : Nat → α → Prop} : ∀ n, (∀ i, i < n → ∃ x, Q i x) → ∃ xs : List α, xs.length = n ∧ ∀ (i : Nat) x, xs[i]? = some x → Q i x
  | 0, _ => ⟨[], rfl, fun i x h => by simp at h⟩
  | n + 1, h => by
    obtain ⟨xs, hl, hq⟩ := choose_list n (fun i hi => h i (by omega))
    obtain ⟨x, hx⟩ := h n (by omega)
    refine ⟨xs ++ [x], by simp [hl], fun i y hy => ?_⟩
    rcases Nat.lt_or_ge i n with hi | hi
    · rw [List.getElem?_append_left (by omega)] at hy
      exact hq i y hy
    · rw [List.getElem?_append_right (by omega), hl] at hy
      have : i = n := by
        rcases Nat.lt_or_ge 0 (i - n) with g | g
        · rw [List.getElem?_eq_none (by simp; omega)] at hy; cases hy
        · omega
      subst this
      simp at hy
      subst hy
      exact hx
section
variable {H : Type} {enc : TypeId × Value → H} {W : World} {base : Nat} {spare : Nat → Bool} {held : Bool}
theorem open_rows {α : Type} {f : α → List TV} {g : α → List Value} {es : Nat} (he : 0 < es) (hf : ∀ x, f x = (g x).map .v) (hg : ∀ x, (g x).length = es) (hat : ∀ x, ∀ c ∈ g x, AtomV c)
    {P : Program} {t te : TypeId} (ht : P.underlying t = some (.slice te)) (hC : P.cellsOf te = es) {r : Reach} {b0 : Nat} {v' : Value} (hval : Value.okWide P W r b0 t v')
    (elem : ∀ n cs y, DataW.trod enc P W base spare held n te cs = some y → cs.length = es → ∃ x : α, cs = g x)
    {fuel : Nat} {x : DataW H × List MemPlace} (h : DataW.trod enc P W base spare held fuel t [v'] = some x) : ∃ (xs : List α) (bs : List Blk) (is : List Info) (av : Nat → Value), Arg W v' (.list es (xs.map f)) bs is av := by
  rcases DataW.trod_slice ht h with ⟨hv, _⟩ | ⟨a, len, cap, elems, rest, n, _, hv, _, hb, hlc, hcm, hel, hel2, _, _⟩
  · obtain rfl : v' = .slice none 0 0 := by simpa using hv
    exact ⟨[], [], [], fun _ => .slice none 0 0, fun _ _ _ _ _ => .nilSlice 0 0, fun _ _ _ _ _ => .nillist _ _, fun _ _ _ _ _ j b h => by simp at h, fun j b i h => by simp at h, rfl⟩
  · obtain rfl : v' = .slice (some a) len cap := by simpa using hv
    have hok : len ≤ cap ∧ (cap : Int) ≤ IntKind.i64.max ∧ W.has P r b0 a te cap := by
      unfold Value.okWide at hval
      simp only [ht] at hval
      unfold Cell.okWide at hval
      simp only [ht] at hval
      unfold Cell.ok at hval
      simpa only [ht] using hval
    obtain ⟨gb, o, s⟩ := a
    obtain ⟨_, _, _, hs, row, cells, hsh, _⟩ := hok
    simp only at hs hsh
    subst hs
    have hgb : gb < W.heap.size := by
      unfold World.shape? at hsh
      rcases Nat.lt_or_ge gb W.heap.size with hg | hg
      · exact hg
      · rw [Array.getElem?_eq_none hg] at hsh
        simp at hsh
    have key : ∀ i, i < len → ∃ x : α, ∀ j, j < es → W.cell? ⟨gb, o + i * es + j, none⟩ = (g x)[j]? := fun i hi => by
      have h1 := hel2 i hi
      rw [List.getElem?_eq_getElem (by omega), Option.bind_eq_some_iff] at h1
      obtain ⟨cs, hcs, htr⟩ := h1
      rw [hC] at hcs
      unfold World.cells? at hcs
      split at hcs
      · have hlen := mapM_some_length hcs
        simp at hlen
        obtain ⟨x, rfl⟩ := elem n cs _ htr hlen
        refine ⟨x, fun j hj => ?_⟩
        have := mapM_some_get hcs j j (by simp [hj])
        have e : ((⟨gb, o, none⟩ : Addr).add (i * es)).add j = ⟨gb, o + i * es + j, none⟩ := by
          unfold Addr.add
          split <;> split <;> simp_all
        rw [← e]
        exact this
      · cases hcs
    obtain ⟨xs, hl, hq⟩ := choose_list len key
    subst hl
    have hlen := flatMap_len hg xs
    have hfl := flatMap_map hf xs
    refine ⟨xs, [.cells es (xs.flatMap g)], [⟨gb, o, cap * es, es⟩], fun n => .slice (some ⟨n, 0, none⟩) xs.length xs.length, fun D m n hD hm => ?_, fun Fz h n hF hh => ?_, fun D m n hD hm j b hb => ?_, fun j b i hb hi hd => ?_, rfl⟩
    · have e := hm 0 _ rfl
      rw [Nat.add_zero] at e
      have := VR.slice (D := D) (m := m) n 0 xs.length xs.length cap (hD 0 (by simp)) (Nat.le_refl _) hlc (.inr (by rw [e]; simp))
      rw [e] at this
      exact this
    · have hw : ∀ r ∈ xs.map f, r.length = es := fun r hr => by obtain ⟨x, _, rfl⟩ := List.mem_map.1 hr; rw [hf, List.length_map, hg]
      have := VL.list (Fz := Fz) (h := h) noL es (xs.map f) n 0 xs.length (xs.flatMap g) es (hF 0 (by simp)) (hh 0 _ rfl) (.inl rfl) hw (by simp) (by rw [List.length_map, hlen]; omega) (fun j p x hp hx => by
        rw [hfl, List.getElem?_map, Option.map_eq_some_iff] at hp
        rw [Nat.zero_add] at hx
        obtain ⟨y, h1, rfl⟩ := hp
        obtain rfl : y = x := Option.some.inj (h1.symm.trans hx)
        obtain ⟨z, _, hz⟩ := List.mem_flatMap.1 (List.mem_of_getElem? hx)
        exact .v _ _ (hat z y hz).1)
      rw [List.length_map] at this
      exact this
    · match j, hb with
      | 0, hb =>
        obtain rfl := Option.some.inj hb
        have e := hm 0 _ rfl
        rw [Nat.add_zero] at e ⊢
        refine ⟨by rw [e], fun i v hv => ⟨v, ?_, ?_⟩⟩
        · rw [flatMap_at hg he, Option.bind_eq_some_iff] at hv
          obtain ⟨x, hx, hv⟩ := hv
          rw [e]
          have := hq _ x hx (i % es) (Nat.mod_lt _ he)
          rw [Nat.add_assoc, Nat.mul_comm, Nat.div_add_mod] at this
          rw [this]
          exact hv
        · obtain ⟨z, _, hz⟩ := List.mem_flatMap.1 (List.mem_of_getElem? hv)
          exact (hat z v hz).2 _ _
      | j + 1, hb => simp at hb
    · match j, hb, hi with
      | 0, hb, hi => obtain rfl := Option.some.inj hi
                     exact hgb
      | j + 1, hb, hi => simp at hb
/-! ### aggregates of ints -/
def AI (cs : List Value) : Prop := ∀ c ∈ cs, ∃ n : Int, c = .int .i64 n
theorem AI.list {cs : List Value} (h : AI cs) : ∃ l : List Int, cs = l.map (.int .i64) := by
  induction cs with
  | nil => exact ⟨[], rfl⟩
  | cons c t ih =>
    obtain ⟨n, rfl⟩ := h c (by simp)
    obtain ⟨l, rfl⟩ := ih fun c hc => h c (by simp [hc])
    exact ⟨n :: l, rfl⟩
variable {P : Program}
theorem ai_int {te : TypeId} (ht : P.underlying te = some (.int .i64)) {fuel : Nat} {cs : List Value} {x : DataW H × List MemPlace} (h : DataW.trod enc P W base spare held fuel te cs = some x) : AI cs := by
  obtain ⟨n, rfl, _⟩ := DataW.trod_int ht h
  exact fun c hc => ⟨n, by simpa using hc⟩
theorem ai_arr {t e : TypeId} {m k : Nat} (ht : P.underlying t = some (.array m e)) (hk : P.cellsOf e = k) (hk0 : 0 < k) (hc : P.cellsOf t = m * k) (he : ∀ n cs y, DataW.trod enc P W base spare held n e cs = some y → AI cs)
    {fuel : Nat} {cs : List Value} {x : DataW H × List MemPlace} (h : DataW.trod enc P W base spare held fuel t cs = some x) : AI cs := by
  obtain ⟨xs, n, _, _, hl, hx, hi⟩ := DataW.trod_array ht h
  intro c hcm
  obtain ⟨j, hj, rfl⟩ := List.mem_iff_getElem.1 hcm
  rw [hl, hc] at hj
  have hd : j / k < m := (Nat.div_lt_iff_lt_mul hk0).2 hj
  have h1 := hi _ hd
  rw [List.getElem?_eq_getElem (by omega), hk] at h1
  refine he _ _ _ h1 _ ?_
  refine List.mem_of_getElem? (i := j % k) ?_
  rw [List.getElem?_take, if_pos (Nat.mod_lt _ hk0), List.getElem?_drop, Nat.mul_comm, Nat.div_add_mod, List.getElem?_eq_getElem]
theorem ai_struct {t : TypeId} {fs : Array Field} (ht : P.underlying t = some (.struct fs)) (hcov : ((List.range (P.cellsOf t)).all fun j => fs.toList.any fun f => decide (f.offset ≤ j) && decide (j < f.offset + P.cellsOf f.type)) = true) (he : ∀ f ∈ fs.toList, ∀ n cs y, DataW.trod enc P W base spare held n f.type cs = some y → AI cs)
    {fuel : Nat} {cs : List Value} {x : DataW H × List MemPlace} (h : DataW.trod enc P W base spare held fuel t cs = some x) : AI cs := by
  obtain ⟨xs, n, _, _, hl, hx, hi⟩ := DataW.trod_struct ht h
  intro c hcm
  obtain ⟨j, hj, rfl⟩ := List.mem_iff_getElem.1 hcm
  rw [hl] at hj
  have := List.all_eq_true.1 hcov j (by simpa using hj)
  obtain ⟨f, hf, hf2⟩ := List.any_eq_true.1 this
  simp only [Bool.and_eq_true, decide_eq_true_eq] at hf2
  obtain ⟨i, hil, hif⟩ := List.mem_iff_getElem.1 hf
  have hfi : fs[i]? = some f := by rw [← Array.getElem?_toList, List.getElem?_eq_getElem hil, hif]
  have h1 := hi i f hfi
  have hil2 : i < fs.size := by simpa using hil
  rw [List.getElem?_eq_getElem (by omega)] at h1
  refine he f hf _ _ _ h1 _ ?_
  refine List.mem_of_getElem? (i := j - f.offset) ?_
  rw [List.getElem?_take, if_pos (by omega), List.getElem?_drop, show f.offset + (j - f.offset) = j by omega, List.getElem?_eq_getElem]
theorem okW_int {t : TypeId} (ht : P.underlying t = some (.int .i64)) {r : Reach} {b : Nat} {v : Value} (w : Cell.okWide P W r b t v) : ∃ n : Int, v = .int .i64 n := by
  unfold Cell.okWide at w
  simp only [ht] at w
  unfold Cell.ok at w
  simp only [ht] at w
  cases v <;> first | exact ⟨_, by rw [w.1]⟩ | exact absurd w (by simp)
theorem open_int {t : TypeId} (ht : P.underlying t = some (.int .i64)) {r : Reach} {b : Nat} {v : Value} (w : Value.okWide P W r b t v) : ∃ n : Int, v = .int .i64 n := by
  unfold Value.okWide at w
  simp only [ht] at w
  exact okW_int ht w
theorem open_sti {t ti : TypeId} {fs : Array Field} {n : Nat} (ht : P.underlying t = some (.struct fs)) (hti : P.underlying ti = some (.int .i64)) (hct : P.cellTypes P.depth t = some (List.replicate n ti)) (hn : P.cellsOf t = n)
    {r : Reach} {b : Nat} {v : Value} (w : Value.okWide P W r b t v) : ∃ l : List Int, l.length = n ∧ v = .agg ⟨l.map (.int .i64)⟩ := by
  unfold Value.okWide at w
  simp only [ht] at w
  obtain ⟨cs, rfl, hs, ts, hts, _, hc⟩ := w
  rw [hct] at hts
  obtain rfl := Option.some.inj hts
  obtain ⟨l⟩ := cs
  have : AI l := by
    intro c hcm
    obtain ⟨j, hj, rfl⟩ := List.mem_iff_getElem.1 hcm
    obtain ⟨u, hu, hok⟩ := hc j l[j] (by simp)
    have := List.eq_of_mem_replicate (List.mem_of_getElem? hu)
    subst this
    exact okW_int hti hok
  obtain ⟨l', rfl⟩ := this.list
  refine ⟨l', ?_, rfl⟩
  simpa [hn] using hs
theorem open_ari {t ti e : TypeId} {k n : Nat} (ht : P.underlying t = some (.array k e)) (hti : P.underlying ti = some (.int .i64)) (hct : P.cellTypes P.depth t = some (List.replicate n ti)) (hn : P.cellsOf t = n)
    {r : Reach} {b : Nat} {v : Value} (w : Value.okWide P W r b t v) : ∃ l : List Int, l.length = n ∧ v = .agg ⟨l.map (.int .i64)⟩ := by
  unfold Value.okWide at w
  simp only [ht] at w
  obtain ⟨cs, rfl, hs, ts, hts, _, hc⟩ := w
  rw [hct] at hts
  obtain rfl := Option.some.inj hts
  obtain ⟨l⟩ := cs
  have : AI l := by
    intro c hcm
    obtain ⟨j, hj, rfl⟩ := List.mem_iff_getElem.1 hcm
    obtain ⟨u, hu, hok⟩ := hc j l[j] (by simp)
    have := List.eq_of_mem_replicate (List.mem_of_getElem? hu)
    subst this
    exact okW_int hti hok
  obtain ⟨l', rfl⟩ := this.list
  refine ⟨l', ?_, rfl⟩
  simpa [hn] using hs
theorem arg_ints (l : List Int) : Arg W (.agg ⟨l.map (.int .i64)⟩) (.agg (l.map fun x => .v (.int .i64 x))) [] [] (fun _ => .agg ⟨l.map (.int .i64)⟩) := by
  have := Arg.agg (W := W) (l := l.map (.int .i64)) fun c hc => by obtain ⟨x, _, rfl⟩ := List.mem_map.1 hc; exact atomV_int _ _
  rwa [List.map_map] at this
end
end Go.Rex
