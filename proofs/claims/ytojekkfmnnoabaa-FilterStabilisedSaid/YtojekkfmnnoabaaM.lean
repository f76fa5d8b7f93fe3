/- What these functions return: facts on lists and numbers. -/
import Derived.Test.YtojekkfmnnoabaaTexR
import Derived.Test.YtojekkfmnnoabaaS
import Derived.Test.YtojekkfmnnoabaaTexU
import Derived.ProofKit
import Derived.OpenShut
import Derived.ShutString
import Derived.ChangeOld
import Derived.Below
import Derived.Lib.SmallJoins
import Derived.ChangeShapes
import Derived.ChangeArms
import Derived.WideShapes
set_option linter.unusedSimpArgs false
set_option linter.unusedVariables false
set_option linter.defProp false
namespace Go.Rex
/-! ### plain facts for shallow functions -/
theorem w64 {x : Int} (h : -9223372036854775808 ≤ x ∧ x ≤ 9223372036854775807) : IntKind.i64.wrap x = x := IntWalk.i64_in x (by omega)
/-- a loop that counts -/
theorem run_count {σ ε : Type} {step : σ → Option (σ ⊕ ε)} (f : Nat → σ) {n : Nat} {e : ε} (h : ∀ k, k < n → step (f k) = some (.inl (f (k + 1)))) (hn : step (f n) = some (.inr e)) : run step (f 0) = some e := by
  suffices H : ∀ j k, n - k = j → k ≤ n → run step (f k) = some e from H n 0 (by omega) (Nat.zero_le _)
  intro j
  induction j with
  | zero => intro k hj hk; obtain rfl : k = n := by omega
            exact run_stop hn
  | succ j ih => intro k hj hk; rw [run_next (h k (by omega))]; exact ih (k + 1) (by omega) (by omega)
/-- a loop that ends early -/
theorem run_until {σ ε : Type} {step : σ → Option (σ ⊕ ε)} (f : Nat → σ) {m : Nat} {e : ε} (h : ∀ k, k < m → step (f k) = some (.inl (f (k + 1)))) (hm : step (f m) = some (.inr e)) : run step (f 0) = some e := run_count f h hm
theorem getI_nat {α : Type} {xs : List α} {k : Nat} : getI xs (k : Int) = xs[k]? := by
  unfold getI
  rw [if_pos (by omega), Int.toNat_natCast]
theorem getI_of {α : Type} {xs : List α} {i : Int} {k : Nat} (h : i = (k : Int)) : getI xs i = xs[k]? := by subst h; exact getI_nat
theorem appI_one {α : Type} {b : Nat} {xs : List α} {y : α} (h : xs.length < 2 ^ 40) (hb : b ≤ 128) : appI b xs [y] = some (xs ++ [y]) := by
  unfold appI
  rw [if_pos]
  refine ⟨by simp; omega, ?_⟩
  have h1 : (xs.length + [y].length) * b ≤ 2 ^ 40 * 128 := Nat.mul_le_mul (by simp; omega) hb
  omega
end Go.Rex

namespace Go.Rex
/-! ### loops that look for the first one of a list -/
def firstOr {α ε : Type} (P : α → Bool) (ex : Nat → α → ε) (en : ε) : Nat → List α → ε
  | _, [] => en
  | k, x :: t => if P x = true then ex k x else firstOr P ex en (k + 1) t
theorem run_first_from {α σ ε : Type} {step : σ → Option (σ ⊕ ε)} (st : Nat → σ) (P : α → Bool) (ex : Nat → α → ε) (en : ε) :
    ∀ (xs ys : List α), (∀ (k : Nat) x, (ys ++ xs)[k]? = some x → step (st k) = some (if P x = true then .inr (ex k x) else .inl (st (k + 1)))) → step (st (ys ++ xs).length) = some (.inr en) → run step (st ys.length) = some (firstOr P ex en ys.length xs)
  | [], ys, _, he => by rw [List.append_nil] at he; exact run_stop he
  | x :: t, ys, hs, he => by
    have h1 := hs ys.length x (by simp)
    by_cases hp : P x = true
    · rw [if_pos hp] at h1
      rw [run_stop h1, firstOr, if_pos hp]
    · rw [if_neg hp] at h1
      rw [run_next h1, firstOr, if_neg hp]
      have := run_first_from st P ex en t (ys ++ [x]) (fun k y hk => hs k y (by simpa using hk)) (by simpa using he)
      simpa using this
theorem run_first {α σ ε : Type} {step : σ → Option (σ ⊕ ε)} (st : Nat → σ) (P : α → Bool) (ex : Nat → α → ε) (en : ε) (xs : List α) (hs : ∀ (k : Nat) x, xs[k]? = some x → step (st k) = some (if P x = true then .inr (ex k x) else .inl (st (k + 1)))) (he : step (st xs.length) = some (.inr en)) {s : σ} (h0 : s = st 0) : run step s = some (firstOr P ex en 0 xs) := by
  subst h0
  exact run_first_from st P ex en xs [] hs he
theorem firstOr_map {α β γ : Type} (f : β → γ) (P : α → Bool) (ex : Nat → α → β) (en : β) : ∀ (xs : List α) k, f (firstOr P ex en k xs) = firstOr P (fun k x => f (ex k x)) (f en) k xs
  | [], _ => rfl
  | x :: t, k => by
    unfold firstOr
    split
    · rfl
    · exact firstOr_map f P ex en t (k + 1)
theorem firstOr_all {α β : Type} (P : α → Bool) (c en : β) : ∀ (xs : List α) k, firstOr P (fun _ _ => c) en k xs = if (xs.all fun x => !P x) = true then en else c
  | [], _ => rfl
  | x :: t, k => by
    unfold firstOr
    rw [firstOr_all P c en t (k + 1)]
    cases h : P x <;> simp [h]
theorem firstOr_congr {α β : Type} {P Q : α → Bool} {ex ex' : Nat → α → β} {en : β} : ∀ (xs : List α) k, (∀ x, x ∈ xs → P x = Q x) → (∀ j x, x ∈ xs → P x = true → ex j x = ex' j x) → firstOr P ex en k xs = firstOr Q ex' en k xs
  | [], _, _, _ => rfl
  | x :: t, k, h1, h2 => by
    unfold firstOr
    rw [← h1 x (by simp), firstOr_congr t (k + 1) (fun y hy => h1 y (by simp [hy])) (fun j y hy => h2 j y (by simp [hy]))]
    split
    · rename_i hp
      exact h2 k x (by simp) hp
    · rfl
theorem bind_first {α σ ε β : Type} {step : σ → Option (σ ⊕ ε)} {s : σ} {F : ε → Option β} (st : Nat → σ) (P : α → Bool) (ex : Nat → α → ε) (en : ε) (xs : List α) (K : ε → β) (h0 : s = st 0) (hF : ∀ e, F e = some (K e)) (hs : ∀ (k : Nat) x, xs[k]? = some x → step (st k) = some (if P x = true then .inr (ex k x) else .inl (st (k + 1)))) (he : step (st xs.length) = some (.inr en)) :
    (run step s).bind F = some (firstOr P (fun k x => K (ex k x)) (K en) 0 xs) := by
  rw [run_first st P ex en xs hs he h0, Option.bind_some, hF, firstOr_map K]
/-! ### numbers -/
theorem wneg {x : Int} (h : -9223372036854775807 ≤ x ∧ x ≤ 9223372036854775807) : IntKind.i64.wrap (0 - x) = -x := by rw [w64 (by omega)]; omega
theorem wsucc {k : Nat} {n : Nat} (h : k ≤ n) (hn : n ≤ 2 ^ 62) : IntKind.i64.wrap ((k : Int) + 1) = ((k + 1 : Nat) : Int) := by rw [w64 (by omega)]; omega
theorem fsize_eq {x : Int} (h : -9223372036854775807 ≤ x ∧ x ≤ 9223372036854775807) : filter_size x = some (x.natAbs : Int) := by
  unfold filter_size
  rw [wneg h]
  split <;> (congr 1; omega)
theorem bsize_eq {x : Int} (h : -9223372036854775807 ≤ x ∧ x ≤ 9223372036854775807) : base_Size x = some (x.natAbs : Int) := by
  unfold base_Size
  rw [wneg h]
  split <;> (congr 1; omega)
theorem tmod_emod {x y : Int} (hy : 0 < y) : x.tmod y = if x.tmod y < 0 then x % y - y else x % y := by
  have h1 := Int.tmod_lt_of_pos x hy
  have h2 : -y < x.tmod y := by
    have h3 := Int.natAbs_tmod x y
    have h4 : (x.tmod y).natAbs < y.natAbs := by rw [h3]; exact Nat.mod_lt _ (by omega)
    omega
  have hdm := Int.tmod_add_mul_tdiv x y
  split
  · have : x % y = x.tmod y + y := by
      have e : x = (x.tmod y + y) + y * (x.tdiv y - 1) := by rw [Int.mul_sub, Int.mul_one]; omega
      rw [e, Int.add_mul_emod_self_left, Int.emod_eq_of_lt (by omega) (by omega)]
      rw [← e]
    omega
  · have : x % y = x.tmod y := by
      conv => lhs; rw [← hdm]
      rw [Int.add_mul_emod_self_left, Int.emod_eq_of_lt (by omega) (by omega)]
    omega
theorem ediv_le {x y b : Int} (hy : 0 < y) (hb : 0 ≤ b) (h : -b ≤ x ∧ x ≤ b) : -b ≤ x / y ∧ x / y ≤ b := by
  have h1 := Int.emod_add_mul_ediv x y
  have h2 := Int.emod_nonneg x (show y ≠ 0 by omega)
  have h3 := Int.emod_lt_of_pos x hy
  constructor
  · refine Int.le_ediv_of_mul_le hy ?_
    have : -b * y ≤ -b * 1 := Int.mul_le_mul_of_nonpos_left (by omega) (by omega)
    omega
  · refine Int.ediv_le_of_le_mul hy ?_
    have : b * 1 ≤ b * y := Int.mul_le_mul_of_nonneg_left (by omega) hb
    omega
theorem tdiv_ediv {x y : Int} (hy : 0 < y) : x.tdiv y = if x.tmod y < 0 then x / y + 1 else x / y := by
  have hdm := Int.tmod_add_mul_tdiv x y
  have h1 := Int.emod_add_mul_ediv x y
  have h2 := tmod_emod (x := x) hy
  refine Int.eq_of_mul_eq_mul_left (show y ≠ 0 by omega) ?_
  split
  · rename_i h
    rw [if_pos h] at h2
    rw [Int.mul_add, Int.mul_one]
    omega
  · rename_i h
    rw [if_neg h] at h2
    omega
/-! ### sections -/
def smallB (m x : Int) : Bool := decide (-m ≤ x ∧ x ≤ m)
theorem isSmall_eq {x m : Int} (hm : 0 ≤ m ∧ m ≤ 9223372036854775807) : filter_isSmall x m = some (smallB m x) := by
  unfold filter_isSmall smallB
  rw [wneg (by omega)]
  by_cases h : -m ≤ x <;> simp [h]
theorem within_eq (x a b : Int) : base_Within x a b = some (decide (a ≤ x ∧ x ≤ b)) := by
  unfold base_Within
  by_cases h : a ≤ x <;> simp [h]
theorem allSmall_eq (l : List Int) {m : Int} (hl : l.length ≤ 2 ^ 62) (hm : 0 ≤ m ∧ m ≤ 9223372036854775807) : filter_allSmall l m = some (if (l.all (smallB m)) = true then 0 else 2) := by
  unfold filter_allSmall
  refine (bind_first (fun k : Nat => (k : Int)) (fun x => !smallB m x) (fun _ _ => .inl ()) (.inr ()) l (Sum.elim (fun _ => 2) fun _ => 0) rfl (fun e => by rcases e with _ | _ <;> rfl) (fun k x hk => ?_) ?_).trans ?_
  · have hk2 := (List.getElem?_eq_some_iff.1 hk).1
    dsimp only [filter_allSmall_l1]
    rw [if_pos (by simpa using hk2), getI_nat, hk, Option.bind_some, isSmall_eq hm, Option.bind_some, wsucc (n := l.length) (by omega) hl]
    cases smallB m x <;> rfl
  · dsimp only [filter_allSmall_l1]
    rw [if_neg (by simp)]
  · simp only [Sum.elim_inl, Sum.elim_inr, firstOr_all, Bool.not_not]
theorem firstError_eq (l : List Int) (hl : l.length ≤ 2 ^ 62) : filter_firstError l = some (firstOr (fun x => decide (x ≠ 0)) (fun _ x => x) 0 0 l) := by
  unfold filter_firstError
  refine (bind_first (fun k : Nat => (k : Int)) (fun x => decide (x ≠ 0)) (fun _ x => .inl x) (.inr ()) l (Sum.elim id fun _ => 0) rfl (fun e => by rcases e with x | _ <;> rfl) (fun k x hk => ?_) ?_).trans rfl
  · have hk2 := (List.getElem?_eq_some_iff.1 hk).1
    dsimp only [filter_firstError_l1]
    rw [if_pos (by simpa using hk2), getI_nat, hk, Option.bind_some, wsucc (n := l.length) (by omega) hl]
    by_cases h : x = 0 <;> simp [h]
  · dsimp only [filter_firstError_l1]
    rw [if_neg (by simp)]
theorem refuse_eq (b : Bool) (e : Int) : filter_refuse b e = some (if b = true then e else 0) := by
  unfold filter_refuse
  cases b <;> rfl
theorem first2 (a b : Int) : filter_firstError [a, b] = some (if a ≠ 0 then a else b) := by
  rw [firstError_eq _ (by simp)]
  unfold firstOr firstOr firstOr
  by_cases h : a = 0 <;> by_cases h2 : b = 0 <;> simp [h, h2]
end Go.Rex

namespace Go.Rex
def secB (x : Int × Int × Int × Int × Int) : Bool := smallB 32768 x.1 && (smallB 32768 x.2.1 && (smallB 32768 x.2.2.1 && (smallB 32768 x.2.2.2.1 && smallB 32768 x.2.2.2.2)))
theorem secB_iff {a b c d e : Int} : secB (a, b, c, d, e) = true ↔ (-32768 ≤ a ∧ a ≤ 32768) ∧ (-32768 ≤ b ∧ b ≤ 32768) ∧ (-32768 ≤ c ∧ c ≤ 32768) ∧ (-32768 ≤ d ∧ d ≤ 32768) ∧ (-32768 ≤ e ∧ e ≤ 32768) := by
  simp [secB, smallB]
def secE (x : Int × Int × Int × Int × Int) : Int := if secB x = true then 0 else 2
theorem fsec_eq (a b c d e : Int) : filter_CheckSection a b c d e = some (secE (a, b, c, d, e)) := by
  unfold filter_CheckSection filter_coefficientsOf
  rw [Option.bind_some]
  dsimp only
  rw [allSmall_eq _ (by simp) (by omega)]
  simp only [Option.bind_some, secE, secB, List.all_cons, List.all_nil, Bool.and_true]
  rfl
theorem rsec_eq (a b c d e : Int) : ref06_CheckSection a b c d e = some (secE (a, b, c, d, e)) := by
  unfold ref06_CheckSection
  refine (bind_first (fun k : Nat => (k : Int)) (fun x => !smallB 32768 x) (fun _ _ => .inl ()) (.inr ()) [a, b, c, d, e] (Sum.elim (fun _ => 2) fun _ => 0) rfl (fun e => by rcases e with _ | _ <;> rfl) (fun k x hk => ?_) ?_).trans ?_
  · have hk2 := (List.getElem?_eq_some_iff.1 hk).1
    dsimp only [ref06_CheckSection_l1]
    simp only [List.length_cons, List.length_nil] at hk2
    rw [if_pos (by simp; omega), getI_nat, hk, Option.bind_some, within_eq, Option.bind_some, wsucc (n := 5) (by omega) (by omega)]
    unfold smallB
    cases (decide (-32768 ≤ x ∧ x ≤ 32768)) <;> rfl
  · dsimp only [ref06_CheckSection_l1]
    rw [if_neg (by simp)]
  · simp only [Sum.elim_inl, Sum.elim_inr, firstOr_all, Bool.not_not, secE, secB, List.all_cons, List.all_nil, Bool.and_true]
    rfl
end Go.Rex

namespace Go.Rex
theorem fwithin_eq (x a b : Int) : filter_within x a b = some (if a ≤ x ∧ x ≤ b then 0 else 2) := by
  unfold filter_within
  simp only [refuse_eq, Option.bind_some, decide_eq_true_eq, if_true]
  split
  · split
    · omega
    · rfl
  · split
    · split
      · omega
      · rfl
    · split
      · rfl
      · omega
end Go.Rex

namespace Go.Rex
def stabB (p q : Int) : Bool := decide ((q.natAbs : Int) < 16384) && decide ((p.natAbs : Int) < 16384 + q)
theorem stab_if {p q : Int} : ((some (q.natAbs : Int)).bind fun v4 => if decide (v4 < 16384) = true then ((some (p.natAbs : Int)).bind fun v5 => some (decide (v5 < 16384 + q))) else some false) = some (stabB p q) := by
  rw [Option.bind_some, Option.bind_some]
  unfold stabB
  by_cases h : (q.natAbs : Int) < 16384
  · rw [if_pos (decide_eq_true h), decide_eq_true h, Bool.true_and]
  · rw [if_neg (by simpa using h), decide_eq_false h, Bool.false_and]
theorem fstab_eq {p q : Int} (hp : -40000 ≤ p ∧ p ≤ 40000) (hq : -40000 ≤ q ∧ q ≤ 40000) : filter_isStable p q = some (stabB p q) := by
  unfold filter_isStable
  rw [fsize_eq (by omega), fsize_eq (by omega), w64 (x := 16384 + q) (by omega)]
  exact stab_if
theorem rstab_eq {p q : Int} (a b c : Int) (hp : -40000 ≤ p ∧ p ≤ 40000) (hq : -40000 ≤ q ∧ q ≤ 40000) : ref06_IsStable a b c p q = some (stabB p q) := by
  unfold ref06_IsStable
  rw [bsize_eq (by omega), bsize_eq (by omega), w64 (x := 16384 + q) (by omega)]
  exact stab_if
theorem stabB_iff {p q : Int} : stabB p q = true ↔ (q.natAbs : Int) < 16384 ∧ (p.natAbs : Int) < 16384 + q := by
  unfold stabB
  rw [Bool.and_eq_true, decide_eq_true_eq, decide_eq_true_eq]
section
variable (u v : Int)
/-- one place: the nearest one so far -/
def stp (a b : Int) (st : Option (Int × Int × Int)) : Option (Int × Int × Int) :=
  if stabB (u + a) (v + b) = true ∧ (∀ x, st = some x → (a.natAbs : Int) + (b.natAbs : Int) < x.2.2) then some (u + a, v + b, (a.natAbs : Int) + (b.natAbs : Int)) else st
def inn (r a : Int) (st : Option (Int × Int × Int)) : Nat → Option (Int × Int × Int)
  | 0 => st
  | k + 1 => stp u v a (-r + k) (inn r a st k)
def outr (r : Int) (n : Nat) : Nat → Option (Int × Int × Int)
  | 0 => none
  | k + 1 => inn u v r (-r + k) (outr r n k) n
structure Near (r : Int) (x : Int × Int × Int) : Prop where
  lo : 0 ≤ x.2.2
  hi : x.2.2 ≤ 2 * r
  st : stabB x.1 x.2.1 = true
  zero : x.2.2 = 0 → x.1 = u ∧ x.2.1 = v
def GoodS (r : Int) (st : Option (Int × Int × Int)) : Prop := ∀ x, st = some x → Near u v r x
variable {u v}
theorem stp_good {r a b : Int} {st : Option (Int × Int × Int)} (ha : -r ≤ a ∧ a ≤ r) (hb : -r ≤ b ∧ b ≤ r) (h : GoodS u v r st) : GoodS u v r (stp u v a b st) := by
  intro x hx
  unfold stp at hx
  split at hx
  · rename_i hc
    obtain rfl := Option.some.inj hx
    refine ⟨by simp only; omega, by simp only; omega, hc.1, fun h0 => ?_⟩
    simp only at h0 ⊢
    omega
  · exact h x hx
theorem inn_good {r a : Int} {st : Option (Int × Int × Int)} (ha : -r ≤ a ∧ a ≤ r) (h : GoodS u v r st) : ∀ k : Nat, (k : Int) ≤ 2 * r + 1 → GoodS u v r (inn u v r a st k)
  | 0, _ => h
  | k + 1, hk => stp_good ha (by omega) (inn_good ha h k (by omega))
theorem outr_good {r : Int} {n : Nat} (hn : (n : Int) = 2 * r + 1) : ∀ k : Nat, (k : Int) ≤ 2 * r + 1 → GoodS u v r (outr u v r n k)
  | 0, _ => fun x hx => by cases hx
  | k + 1, hk => inn_good (by omega) (outr_good hn k (by omega)) n (by omega)
/-- nearest of all -/
def Here (st : Option (Int × Int × Int)) : Prop := ∃ x, st = some x ∧ x.2.2 = 0
theorem stp_here {a b : Int} {st : Option (Int × Int × Int)} (h : Here st) : Here (stp u v a b st) := by
  obtain ⟨x, rfl, h0⟩ := h
  unfold stp
  rw [if_neg]
  · exact ⟨x, rfl, h0⟩
  · rintro ⟨_, h⟩
    have := h x rfl
    omega
theorem inn_here {r a : Int} {st : Option (Int × Int × Int)} (h : Here st) : ∀ k : Nat, Here (inn u v r a st k)
  | 0 => h
  | k + 1 => stp_here (inn_here h k)
theorem stp_zero {r : Int} {st : Option (Int × Int × Int)} (hs : stabB u v = true) (hg : GoodS u v r st) : Here (stp u v 0 0 st) := by
  unfold stp
  split
  · exact ⟨_, rfl, rfl⟩
  · rename_i hc
    rw [Int.add_zero, Int.add_zero] at hc
    cases st with
    | none => exact absurd ⟨hs, fun x hx => by cases hx⟩ hc
    | some x =>
      refine ⟨x, rfl, ?_⟩
      have := (hg x rfl).lo
      rcases Int.lt_or_le 0 x.2.2 with h | h
      · refine absurd ⟨hs, fun y hy => ?_⟩ hc
        obtain rfl := Option.some.inj hy
        simpa using h
      · omega
theorem inn_mono {r a : Int} {st : Option (Int × Int × Int)} {k : Nat} (h : Here (inn u v r a st k)) : ∀ j : Nat, Here (inn u v r a st (k + j))
  | 0 => h
  | j + 1 => stp_here (inn_mono h j)
theorem outr_mono {r : Int} {n k : Nat} (h : Here (outr u v r n k)) : ∀ j : Nat, Here (outr u v r n (k + j))
  | 0 => h
  | j + 1 => inn_here (outr_mono h j) n
theorem outr_zero {r n : Nat} (hn : n = 2 * r + 1) (hs : stabB u v = true) : Here (outr u v r n n) := by
  subst hn
  have h1 : Here (outr u v r (2 * r + 1) (r + 1)) := by
    show Here (inn u v r (-(r : Int) + (r : Nat)) (outr u v r (2 * r + 1) r) (2 * r + 1))
    rw [show -(r : Int) + (r : Nat) = 0 by omega]
    have hg := outr_good (u := u) (v := v) (r := r) (n := 2 * r + 1) (by omega) r (by omega)
    have h2 : Here (inn u v r 0 (outr u v r (2 * r + 1) r) (r + 1)) := by
      show Here (stp u v 0 (-(r : Int) + (r : Nat)) (inn u v r 0 (outr u v r (2 * r + 1) r) r))
      rw [show -(r : Int) + (r : Nat) = 0 by omega]
      exact stp_zero hs (inn_good (by omega) hg r (by omega))
    have := inn_mono h2 r
    rwa [show r + 1 + r = 2 * r + 1 by omega] at this
  have := outr_mono h1 r
  rwa [show r + 1 + r = 2 * r + 1 by omega] at this
/-! ### what the program keeps, and what the reference keeps -/
def encP (u v r : Int) (c : Int) : Option (Int × Int × Int) → Int × Int × Int × Int
  | none => (u, v, 2 * r + 1, c)
  | some x => (x.1, x.2.1, x.2.2, c)
def encR (a b c' : Int) (c : Int) : Option (Int × Int × Int) → Int × Int × Int × Int × Int × Int × Int
  | none => (0, 0, 0, 0, 0, -1, c)
  | some x => (a, b, c', x.1, x.2.1, x.2.2, c)
theorem stepP {r a b : Int} {st : Option (Int × Int × Int)} (hr : 0 ≤ r ∧ r ≤ 20) (hu : -32768 ≤ u ∧ u ≤ 32768) (hv : -32768 ≤ v ∧ v ≤ 32768) (ha : -r ≤ a ∧ a ≤ r) (hb : -r ≤ b ∧ b ≤ r) (hg : GoodS u v r st) :
    filter_Stabilised_l2 u v r a (encP u v r b st) = some (.inl (encP u v r (b + 1) (stp u v a b st))) := by
  have e1 := w64 (x := b + 1) (by omega)
  have e2 := w64 (x := u + a) (by omega)
  have e3 := w64 (x := v + b) (by omega)
  have e4 := w64 (x := (a.natAbs : Int) + (b.natAbs : Int)) (by omega)
  cases st with
  | none =>
    show filter_Stabilised_l2 u v r a (u, v, 2 * r + 1, b) = _
    dsimp only [filter_Stabilised_l2]
    rw [if_pos (by simpa using hb.2), fsize_eq (by omega), fsize_eq (by omega), Option.bind_some, Option.bind_some, e1, e2, e3, e4, if_pos (by simp; omega), fstab_eq (by omega) (by omega), Option.bind_some]
    unfold stp
    by_cases h : stabB (u + a) (v + b) = true
    · rw [if_pos h, if_pos ⟨h, fun x hx => by cases hx⟩]
      rfl
    · rw [if_neg h, if_neg (fun hc => h hc.1)]
      rfl
  | some x =>
    obtain ⟨p, q, d⟩ := x
    show filter_Stabilised_l2 u v r a (p, q, d, b) = _
    dsimp only [filter_Stabilised_l2]
    rw [if_pos (by simpa using hb.2), fsize_eq (by omega), fsize_eq (by omega), Option.bind_some, Option.bind_some, e1, e2, e3, e4]
    unfold stp
    by_cases h1 : (a.natAbs : Int) + (b.natAbs : Int) < d
    · rw [if_pos (by simpa using h1), fstab_eq (by omega) (by omega), Option.bind_some]
      by_cases h : stabB (u + a) (v + b) = true
      · rw [if_pos h, if_pos ⟨h, fun x hx => by obtain rfl := Option.some.inj hx; exact h1⟩]
        rfl
      · rw [if_neg h, if_neg (fun hc => h hc.1)]
        rfl
    · rw [if_neg (by simpa using h1), if_neg (fun hc => h1 (hc.2 _ rfl))]
      rfl
theorem stepR {s1 s2 s3 r a b : Int} {st : Option (Int × Int × Int)} (hr : 0 ≤ r ∧ r ≤ 20) (hs : secB (s1, s2, s3, u, v) = true) (ha : -r ≤ a ∧ a ≤ r) (hb : -r ≤ b ∧ b ≤ r) (hg : GoodS u v r st) :
    ref06_Stabilised_l2 s1 s2 s3 u v r a (encR s1 s2 s3 b st) = some (.inl (encR s1 s2 s3 (b + 1) (stp u v a b st))) := by
  obtain ⟨h1, h2, h3, hu, hv⟩ := secB_iff.1 hs
  have e1 := w64 (x := b + 1) (by omega)
  have e2 := w64 (x := u + a) (by omega)
  have e3 := w64 (x := v + b) (by omega)
  have e4 := w64 (x := (a.natAbs : Int) + (b.natAbs : Int)) (by omega)
  have key : ∀ {γ : Type} (Y N : γ), (if decide (secE (s1, s2, s3, u + a, v + b) = 0) = true then (if stabB (u + a) (v + b) = true then Y else N) else N) = if stabB (u + a) (v + b) = true then Y else N := by
    intro γ Y N
    by_cases h : stabB (u + a) (v + b) = true
    · have hh := stabB_iff.1 h
      have : secB (s1, s2, s3, u + a, v + b) = true := secB_iff.2 ⟨h1, h2, h3, by omega, by omega⟩
      rw [if_pos h]
      simp [secE, this]
    · rw [if_neg h]
      split <;> rfl
  cases st with
  | none =>
    show ref06_Stabilised_l2 s1 s2 s3 u v r a (0, 0, 0, 0, 0, -1, b) = _
    dsimp only [ref06_Stabilised_l2]
    rw [if_pos (by simpa using hb.2), bsize_eq (by omega), bsize_eq (by omega), Option.bind_some, Option.bind_some, e1, e2, e3, e4, rsec_eq, Option.bind_some, rstab_eq _ _ _ (by omega) (by omega), Option.bind_some, key]
    unfold stp
    by_cases h : stabB (u + a) (v + b) = true
    · rw [if_pos h, if_pos (by decide), if_pos ⟨h, fun x hx => by cases hx⟩]
      rfl
    · rw [if_neg h, if_neg (fun hc => h hc.1)]
      rfl
  | some x =>
    have hlo := (hg x rfl).lo
    obtain ⟨p, q, d⟩ := x
    simp only at hlo
    show ref06_Stabilised_l2 s1 s2 s3 u v r a (s1, s2, s3, p, q, d, b) = _
    dsimp only [ref06_Stabilised_l2]
    rw [if_pos (by simpa using hb.2), bsize_eq (by omega), bsize_eq (by omega), Option.bind_some, Option.bind_some, e1, e2, e3, e4, rsec_eq, Option.bind_some, rstab_eq _ _ _ (by omega) (by omega), Option.bind_some, key]
    unfold stp
    by_cases h : stabB (u + a) (v + b) = true
    · have hd : ¬ (decide (d < 0) = true) := by rw [decide_eq_true_eq]; omega
      rw [if_pos h, if_neg hd]
      by_cases h1 : (a.natAbs : Int) + (b.natAbs : Int) < d
      · rw [if_pos (by simpa using h1), if_pos ⟨h, fun x hx => by obtain rfl := Option.some.inj hx; exact h1⟩]
        rfl
      · rw [if_neg (by simpa using h1), if_neg (fun hc => h1 (hc.2 _ rfl))]
        rfl
    · rw [if_neg h, if_neg (fun hc => h hc.1)]
      rfl
theorem run_cnt {σ ε : Type} {step : σ → Option (σ ⊕ ε)} (f : Nat → σ) {n : Nat} {e : ε} {s : σ} (h0 : s = f 0) (h : ∀ k, k < n → step (f k) = some (.inl (f (k + 1)))) (hn : step (f n) = some (.inr e)) : run step s = some e := by
  subst h0
  exact run_count f h hn
def finP (u v r : Int) : Option (Int × Int × Int) → Int × Int × Int
  | none => (u, v, 2 * r + 1)
  | some x => x
def finR (a b c : Int) : Option (Int × Int × Int) → Int × Int × Int × Int × Int × Int
  | none => (0, 0, 0, 0, 0, -1)
  | some x => (a, b, c, x)
theorem encP_fin (u v r c : Int) (st : Option (Int × Int × Int)) : encP u v r c st = ((finP u v r st).1, (finP u v r st).2.1, (finP u v r st).2.2, c) := by cases st <;> rfl
theorem encR_fin (a b c' c : Int) (st : Option (Int × Int × Int)) : encR a b c' c st = ((finR a b c' st).1, (finR a b c' st).2.1, (finR a b c' st).2.2.1, (finR a b c' st).2.2.2.1, (finR a b c' st).2.2.2.2.1, (finR a b c' st).2.2.2.2.2, c) := by cases st <;> rfl
theorem pl2_end {u v r a p q d c : Int} (h : ¬ c ≤ r) : filter_Stabilised_l2 u v r a (p, q, d, c) = some (.inr (p, q, d)) := by
  dsimp only [filter_Stabilised_l2]
  rw [if_neg (by rw [decide_eq_true_eq]; exact h)]
theorem pl1_end {u v r p q d c : Int} (h : ¬ c ≤ r) : filter_Stabilised_l1 u v r (p, q, d, c) = some (.inr (p, q, d)) := by
  dsimp only [filter_Stabilised_l1]
  rw [if_neg (by rw [decide_eq_true_eq]; exact h)]
theorem pl1_go {u v r p q d c : Int} {x : Int × Int × Int} (h : c ≤ r) (hx : run (filter_Stabilised_l2 u v r c) (p, q, d, IntKind.i64.wrap (0 - r)) = some x) : filter_Stabilised_l1 u v r (p, q, d, c) = some (.inl (x.1, x.2.1, x.2.2, IntKind.i64.wrap (c + 1))) := by
  dsimp only [filter_Stabilised_l1]
  rw [if_pos (by rw [decide_eq_true_eq]; exact h), hx, Option.bind_some]
theorem rl2_end {s1 s2 s3 u v r a x1 x2 x3 p q d c : Int} (h : ¬ c ≤ r) : ref06_Stabilised_l2 s1 s2 s3 u v r a (x1, x2, x3, p, q, d, c) = some (.inr (x1, x2, x3, p, q, d)) := by
  dsimp only [ref06_Stabilised_l2]
  rw [if_neg (by rw [decide_eq_true_eq]; exact h)]
theorem rl1_end {s1 s2 s3 u v r x1 x2 x3 p q d c : Int} (h : ¬ c ≤ r) : ref06_Stabilised_l1 s1 s2 s3 u v r (x1, x2, x3, p, q, d, c) = some (.inr (x1, x2, x3, p, q, d)) := by
  dsimp only [ref06_Stabilised_l1]
  rw [if_neg (by rw [decide_eq_true_eq]; exact h)]
theorem rl1_go {s1 s2 s3 u v r x1 x2 x3 p q d c : Int} {x : Int × Int × Int × Int × Int × Int} (h : c ≤ r) (hx : run (ref06_Stabilised_l2 s1 s2 s3 u v r c) (x1, x2, x3, p, q, d, IntKind.i64.wrap (0 - r)) = some x) : ref06_Stabilised_l1 s1 s2 s3 u v r (x1, x2, x3, p, q, d, c) = some (.inl (x.1, x.2.1, x.2.2.1, x.2.2.2.1, x.2.2.2.2.1, x.2.2.2.2.2, IntKind.i64.wrap (c + 1))) := by
  dsimp only [ref06_Stabilised_l1]
  rw [if_pos (by rw [decide_eq_true_eq]; exact h), hx, Option.bind_some]
theorem pE2 {u v r a c : Int} (s : Option (Int × Int × Int)) (h : ¬ c ≤ r) : filter_Stabilised_l2 u v r a (encP u v r c s) = some (.inr (finP u v r s)) := by
  cases s with
  | none => exact pl2_end h
  | some x => exact pl2_end h
theorem rE2 {s1 s2 s3 u v r a c : Int} (s : Option (Int × Int × Int)) (h : ¬ c ≤ r) : ref06_Stabilised_l2 s1 s2 s3 u v r a (encR s1 s2 s3 c s) = some (.inr (finR s1 s2 s3 s)) := by
  cases s with
  | none => exact rl2_end h
  | some x => exact rl2_end h
theorem pE1 {u v r c : Int} (s : Option (Int × Int × Int)) (h : ¬ c ≤ r) : filter_Stabilised_l1 u v r (encP u v r c s) = some (.inr (finP u v r s)) := by
  cases s with
  | none => exact pl1_end h
  | some x => exact pl1_end h
theorem rE1 {s1 s2 s3 u v r c : Int} (s : Option (Int × Int × Int)) (h : ¬ c ≤ r) : ref06_Stabilised_l1 s1 s2 s3 u v r (encR s1 s2 s3 c s) = some (.inr (finR s1 s2 s3 s)) := by
  cases s with
  | none => exact rl1_end h
  | some x => exact rl1_end h
theorem pG1 {u v r c : Int} (s t : Option (Int × Int × Int)) (h : c ≤ r) (hr : 0 ≤ r ∧ r ≤ 20) (hc : -r ≤ c) (hx : run (filter_Stabilised_l2 u v r c) (encP u v r (-r) s) = some (finP u v r t)) : filter_Stabilised_l1 u v r (encP u v r c s) = some (.inl (encP u v r (c + 1) t)) := by
  have e1 := w64 (x := c + 1) (by omega)
  have e2 := wneg (x := r) (by omega)
  have key : ∀ p q d, encP u v r (-r) s = (p, q, d, -r) → filter_Stabilised_l1 u v r (p, q, d, c) = some (.inl (encP u v r (c + 1) t)) := by
    intro p q d he
    rw [he] at hx
    rw [pl1_go (x := finP u v r t) h (by rw [e2]; exact hx), e1]
    cases t <;> rfl
  cases s with
  | none => exact key _ _ _ rfl
  | some x => exact key _ _ _ rfl
theorem rG1 {s1 s2 s3 u v r c : Int} (s t : Option (Int × Int × Int)) (h : c ≤ r) (hr : 0 ≤ r ∧ r ≤ 20) (hc : -r ≤ c) (hx : run (ref06_Stabilised_l2 s1 s2 s3 u v r c) (encR s1 s2 s3 (-r) s) = some (finR s1 s2 s3 t)) : ref06_Stabilised_l1 s1 s2 s3 u v r (encR s1 s2 s3 c s) = some (.inl (encR s1 s2 s3 (c + 1) t)) := by
  have e1 := w64 (x := c + 1) (by omega)
  have e2 := wneg (x := r) (by omega)
  have key : ∀ y1 y2 y3 p q d, encR s1 s2 s3 (-r) s = (y1, y2, y3, p, q, d, -r) → ref06_Stabilised_l1 s1 s2 s3 u v r (y1, y2, y3, p, q, d, c) = some (.inl (encR s1 s2 s3 (c + 1) t)) := by
    intro y1 y2 y3 p q d he
    rw [he] at hx
    rw [rl1_go (x := finR s1 s2 s3 t) h (by rw [e2]; exact hx), e1]
    cases t <;> rfl
  cases s with
  | none => exact key _ _ _ _ _ _ rfl
  | some x => exact key _ _ _ _ _ _ rfl
theorem at_zero (r : Nat) : -(r : Int) + ((0 : Nat) : Int) = -(r : Int) := by omega
theorem at_succ (r k : Nat) : -(r : Int) + (k : Nat) + 1 = -(r : Int) + ((k + 1 : Nat) : Int) := by omega
theorem at_end (r : Nat) : ¬ -(r : Int) + ((2 * r + 1 : Nat) : Int) ≤ (r : Int) := by omega
theorem inP {r : Nat} {a : Int} {st : Option (Int × Int × Int)} (hr : r ≤ 20) (hu : -32768 ≤ u ∧ u ≤ 32768) (hv : -32768 ≤ v ∧ v ≤ 32768) (ha : -(r : Int) ≤ a ∧ a ≤ r) (hg : GoodS u v r st) :
    run (filter_Stabilised_l2 u v r a) (encP u v r (-(r : Int)) st) = some (finP u v r (inn u v r a st (2 * r + 1))) := by
  refine run_cnt (fun k => encP u v r (-(r : Int) + (k : Nat)) (inn u v r a st k)) (n := 2 * r + 1) ?_ (fun k hk => ?_) (pE2 _ (at_end r))
  · show _ = encP u v r (-(r : Int) + ((0 : Nat) : Int)) st
    rw [at_zero]
  · show _ = some (Sum.inl (encP u v r (-(r : Int) + ((k + 1 : Nat) : Int)) (stp u v a (-(r : Int) + k) (inn u v r a st k))))
    rw [stepP (by omega) hu hv ha (by omega) (inn_good ha hg k (by omega)), at_succ]
theorem inR {s1 s2 s3 : Int} {r : Nat} {a : Int} {st : Option (Int × Int × Int)} (hr : r ≤ 20) (hs : secB (s1, s2, s3, u, v) = true) (ha : -(r : Int) ≤ a ∧ a ≤ r) (hg : GoodS u v r st) :
    run (ref06_Stabilised_l2 s1 s2 s3 u v r a) (encR s1 s2 s3 (-(r : Int)) st) = some (finR s1 s2 s3 (inn u v r a st (2 * r + 1))) := by
  refine run_cnt (fun k => encR s1 s2 s3 (-(r : Int) + (k : Nat)) (inn u v r a st k)) (n := 2 * r + 1) ?_ (fun k hk => ?_) (rE2 _ (at_end r))
  · show _ = encR s1 s2 s3 (-(r : Int) + ((0 : Nat) : Int)) st
    rw [at_zero]
  · show _ = some (Sum.inl (encR s1 s2 s3 (-(r : Int) + ((k + 1 : Nat) : Int)) (stp u v a (-(r : Int) + k) (inn u v r a st k))))
    rw [stepR (by omega) hs ha (by omega) (inn_good ha hg k (by omega)), at_succ]
theorem outr_succ (u v r : Int) (n k : Nat) : outr u v r n (k + 1) = inn u v r (-r + k) (outr u v r n k) n := rfl
theorem ouP {r : Nat} (hr : r ≤ 20) (hu : -32768 ≤ u ∧ u ≤ 32768) (hv : -32768 ≤ v ∧ v ≤ 32768) :
    run (filter_Stabilised_l1 u v r) (u, v, 2 * (r : Int) + 1, -(r : Int)) = some (finP u v r (outr u v r (2 * r + 1) (2 * r + 1))) := by
  refine run_cnt (fun k => encP u v r (-(r : Int) + (k : Nat)) (outr u v r (2 * r + 1) k)) (n := 2 * r + 1) ?_ (fun k hk => ?_) (pE1 _ (at_end r))
  · show _ = encP u v r (-(r : Int) + ((0 : Nat) : Int)) none
    rw [at_zero]
    rfl
  · have hg := outr_good (u := u) (v := v) (r := r) (n := 2 * r + 1) (by omega) k (by omega)
    have h1 := inP (u := u) (v := v) (r := r) (a := -(r : Int) + (k : Nat)) hr hu hv (by omega) hg
    have h2 := pG1 _ _ (by omega) (by omega) (by omega) h1
    rw [at_succ, ← outr_succ] at h2
    exact h2
theorem ouR {s1 s2 s3 : Int} {r : Nat} (hr : r ≤ 20) (hs : secB (s1, s2, s3, u, v) = true) :
    run (ref06_Stabilised_l1 s1 s2 s3 u v r) (0, 0, 0, 0, 0, -1, -(r : Int)) = some (finR s1 s2 s3 (outr u v r (2 * r + 1) (2 * r + 1))) := by
  refine run_cnt (fun k => encR s1 s2 s3 (-(r : Int) + (k : Nat)) (outr u v r (2 * r + 1) k)) (n := 2 * r + 1) ?_ (fun k hk => ?_) (rE1 _ (at_end r))
  · show _ = encR s1 s2 s3 (-(r : Int) + ((0 : Nat) : Int)) none
    rw [at_zero]
    rfl
  · have hg := outr_good (u := u) (v := v) (r := r) (n := 2 * r + 1) (by omega) k (by omega)
    have h1 := inR (u := u) (v := v) (r := r) (a := -(r : Int) + (k : Nat)) hr hs (by omega) hg
    have h2 := rG1 _ _ (by omega) (by omega) (by omega) h1
    rw [at_succ, ← outr_succ] at h2
    exact h2
end
def resS (s1 s2 s3 : Int) : Option (Int × Int × Int) → Option (Int × Int × Int × Int × Int × Int × Int)
  | none => some (0, 0, 0, 0, 0, 0, 12)
  | some x => some (s1, s2, s3, x.1, x.2.1, x.2.2, 0)
theorem fStab_bad {s1 s2 s3 u v r e : Int} (he : (if secE (s1, s2, s3, u, v) ≠ 0 then secE (s1, s2, s3, u, v) else if 0 ≤ r ∧ r ≤ 20 then 0 else 2) = e) (h : e ≠ 0) : filter_Stabilised s1 s2 s3 u v r = some (0, 0, 0, 0, 0, 0, e) := by
  unfold filter_Stabilised
  rw [fsec_eq, fwithin_eq, Option.bind_some, Option.bind_some, first2, Option.bind_some, he, if_pos (by rw [decide_eq_true_eq]; exact h)]
theorem fStab_good {s1 s2 s3 u v : Int} {n : Nat} (hs : secB (s1, s2, s3, u, v) = true) (hn : n ≤ 20) : filter_Stabilised s1 s2 s3 u v n = resS s1 s2 s3 (outr u v n (2 * n + 1) (2 * n + 1)) := by
  unfold filter_Stabilised
  obtain ⟨h1, h2, h3, hu, hv⟩ := secB_iff.1 hs
  have hE : secE (s1, s2, s3, u, v) = 0 := by unfold secE; rw [if_pos hs]
  have he : (if secE (s1, s2, s3, u, v) ≠ 0 then secE (s1, s2, s3, u, v) else if 0 ≤ (n : Int) ∧ (n : Int) ≤ 20 then 0 else 2) = 0 := by rw [hE, if_neg (by simp), if_pos (by omega)]
  have hg := outr_good (u := u) (v := v) (r := n) (n := 2 * n + 1) (by omega) (2 * n + 1) (by omega)
  have ho := ouP (u := u) (v := v) (r := n) (by omega) hu hv
  rw [fsec_eq, fwithin_eq, Option.bind_some, Option.bind_some, first2, Option.bind_some, he, if_neg (by simp), w64 (x := 2 * (n : Int)) (by omega), w64 (x := 2 * (n : Int) + 1) (by omega), wneg (by omega), ho, Option.bind_some]
  generalize outr u v n (2 * n + 1) (2 * n + 1) = s at hg
  cases s with
  | none =>
    show (if decide (2 * (n : Int) + 1 = 2 * (n : Int) + 1) = true then some (0, 0, 0, 0, 0, 0, (12 : Int)) else some (s1, s2, s3, u, v, 2 * (n : Int) + 1, 0)) = _
    rw [if_pos (by rw [decide_eq_true_eq])]
    rfl
  | some x =>
    have := (hg x rfl).hi
    obtain ⟨p, q, d⟩ := x
    show (if decide (d = 2 * (n : Int) + 1) = true then some (0, 0, 0, 0, 0, 0, (12 : Int)) else some (s1, s2, s3, p, q, d, 0)) = _
    simp only at this
    have hd : ¬ (decide (d = 2 * (n : Int) + 1) = true) := by rw [decide_eq_true_eq]; omega
    rw [if_neg hd]
    rfl
theorem fStab_eq (s1 s2 s3 u v r : Int) : filter_Stabilised s1 s2 s3 u v r = if secB (s1, s2, s3, u, v) = true then (if 0 ≤ r ∧ r ≤ 20 then resS s1 s2 s3 (outr u v r (2 * r.toNat + 1) (2 * r.toNat + 1)) else some (0, 0, 0, 0, 0, 0, 2)) else some (0, 0, 0, 0, 0, 0, 2) := by
  by_cases hs : secB (s1, s2, s3, u, v) = true
  · have hE : secE (s1, s2, s3, u, v) = 0 := by unfold secE; rw [if_pos hs]
    rw [if_pos hs]
    by_cases hr : 0 ≤ r ∧ r ≤ 20
    · obtain ⟨n, rfl⟩ : ∃ n : Nat, r = n := ⟨r.toNat, by omega⟩
      rw [if_pos hr, Int.toNat_natCast]
      exact fStab_good hs (by omega)
    · rw [if_neg hr]
      exact fStab_bad (by rw [hE, if_neg (by simp), if_neg hr]) (by omega)
  · have hE : secE (s1, s2, s3, u, v) = 2 := by unfold secE; rw [if_neg hs]
    rw [if_neg hs]
    exact fStab_bad (by rw [hE, if_pos (by omega)]) (by omega)
theorem rStab_eq {s1 s2 s3 u v : Int} (r : Int) (hs : secB (s1, s2, s3, u, v) = true) : ref06_Stabilised s1 s2 s3 u v r = if 0 ≤ r ∧ r ≤ 20 then resS s1 s2 s3 (outr u v r (2 * r.toNat + 1) (2 * r.toNat + 1)) else some (0, 0, 0, 0, 0, 0, 2) := by
  unfold ref06_Stabilised
  rw [within_eq, Option.bind_some]
  by_cases hr : 0 ≤ r ∧ r ≤ 20
  · obtain ⟨n, rfl⟩ : ∃ n : Nat, r = n := ⟨r.toNat, by omega⟩
    have hg := outr_good (u := u) (v := v) (r := n) (n := 2 * n + 1) (by omega) (2 * n + 1) (by omega)
    rw [if_pos (by simpa using hr), if_pos hr, wneg (by omega), ouR (by omega) hs, Option.bind_some, Int.toNat_natCast]
    generalize outr u v n (2 * n + 1) (2 * n + 1) = s at hg
    cases s with
    | none => rfl
    | some x =>
      have := (hg x rfl).lo
      obtain ⟨p, q, d⟩ := x
      show (if decide (d < 0) = true then some (0, 0, 0, 0, 0, 0, (12 : Int)) else some (s1, s2, s3, p, q, d, 0)) = _
      simp only at this
      have hd : ¬ (decide (d < 0) = true) := by rw [decide_eq_true_eq]; omega
      rw [if_neg hd]
      rfl
  · rw [if_neg (by simpa using hr), if_neg hr]
theorem stab_true (s1 s2 s3 u v r : Int) : law06_FilterStabilised s1 s2 s3 u v r = some true := by
  unfold law06_FilterStabilised
  rw [fStab_eq, rsec_eq]
  unfold secE
  by_cases hs : secB (s1, s2, s3, u, v) = true
  · obtain ⟨h1, h2, h3, hu, hv⟩ := secB_iff.1 hs
    rw [if_pos hs, if_pos hs, rStab_eq r hs]
    by_cases hr : 0 ≤ r ∧ r ≤ 20
    · obtain ⟨n, rfl⟩ : ∃ n : Nat, r = n := ⟨r.toNat, by omega⟩
      have hg := outr_good (u := u) (v := v) (r := n) (n := 2 * n + 1) (by omega) (2 * n + 1) (by omega)
      have hz := outr_zero (u := u) (v := v) (r := n) (n := 2 * n + 1) rfl
      rw [if_pos hr, Int.toNat_natCast]
      generalize outr u v n (2 * n + 1) (2 * n + 1) = s at hg hz
      cases s with
      | none => simp [resS]
      | some x =>
        obtain ⟨g1, g2, g3, g4⟩ := hg x rfl
        obtain ⟨p, q, d⟩ := x
        simp only at g1 g2 g3 g4
        have hpq := stabB_iff.1 g3
        have hsec : secB (s1, s2, s3, p, q) = true := secB_iff.2 ⟨h1, h2, h3, by omega, by omega⟩
        have hI : filter_IsStable s1 s2 s3 p q = some (true, 0) := by
          unfold filter_IsStable
          rw [fsec_eq, Option.bind_some]
          simp only [secE, hsec, if_true, ne_eq, not_true, decide_false, Bool.false_eq_true, if_false]
          rw [fstab_eq (by omega) (by omega), g3]
          rfl
        have hd : decide (d = 0) = stabB u v := by
          cases hb : stabB u v with
          | true =>
            obtain ⟨x, hx, h0⟩ := hz hb
            obtain rfl := Option.some.inj hx
            simpa using h0
          | false =>
            rw [decide_eq_false_iff_not]
            intro h0
            obtain ⟨rfl, rfl⟩ := g4 h0
            rw [hb] at g3
            cases g3
        simp [resS, hI, rstab_eq s1 s2 s3 (p := u) (q := v) (by omega) (by omega), hd]
    · rw [if_neg hr]
      simp
  · rw [if_neg hs]
    simp [hs]
end Go.Rex

namespace Go.Rex
open Go Go.ChangeShapes Go.WideShapes Go.ChangeAt Go.RowKit Go.Joins Go.Proofs
/-! ### arguments: what they are as trees, and the names of their blocks -/
structure Arg (W : World) (v' : Value) (p : TV) (bs : List Blk) (is : List Info) (av : Nat → Value) : Prop where
  vr : ∀ (D : Nat → Prop) (m : NMap) n, (∀ j, j < bs.length → D (n + j)) → (∀ (j : Nat) i, is[j]? = some i → m (n + j) = i) → VR D m (av n) v'
  vl : ∀ (Fz : Nat → Prop) (h : List Blk) n, (∀ j, j < bs.length → Fz (n + j)) → (∀ (j : Nat) b, bs[j]? = some b → h[n + j]? = some b) → VL Fz h noL p (av n)
  ok : ∀ (D : Nat → Prop) (m : NMap) n, (∀ j, j < bs.length → D (n + j)) → (∀ (j : Nat) i, is[j]? = some i → m (n + j) = i) → ∀ (j : Nat) b, bs[j]? = some b → BlkOk D m W (n + j) b
  lt : ∀ (j : Nat) b i, bs[j]? = some b → is[j]? = some i → b ≠ .dead → i.block < W.heap.size
  len : is.length = bs.length
structure Args (W : World) (vs' : List Value) (ps : List TV) (bs : List Blk) (is : List Info) (av : Nat → List Value) : Prop where
  vr : ∀ (D : Nat → Prop) (m : NMap) n, (∀ j, j < bs.length → D (n + j)) → (∀ (j : Nat) i, is[j]? = some i → m (n + j) = i) → VRs D m (av n) vs'
  vl : ∀ (Fz : Nat → Prop) (h : List Blk) n, (∀ j, j < bs.length → Fz (n + j)) → (∀ (j : Nat) b, bs[j]? = some b → h[n + j]? = some b) → VLs Fz h noL ps (av n)
  ok : ∀ (D : Nat → Prop) (m : NMap) n, (∀ j, j < bs.length → D (n + j)) → (∀ (j : Nat) i, is[j]? = some i → m (n + j) = i) → ∀ (j : Nat) b, bs[j]? = some b → BlkOk D m W (n + j) b
  lt : ∀ (j : Nat) b i, bs[j]? = some b → is[j]? = some i → b ≠ .dead → i.block < W.heap.size
  len : is.length = bs.length
theorem Args.nil (W : World) : Args W [] [] [] [] (fun _ => []) :=
  ⟨fun _ _ _ _ _ => ⟨rfl, fun i a a' h => by simp at h⟩, fun _ _ _ _ _ => .nil, fun _ _ _ _ _ j b h => by simp at h, fun j b i h => by simp at h, rfl⟩
theorem Args.cons {W : World} {v' : Value} {p : TV} {bs bs2 : List Blk} {is is2 : List Info} {av : Nat → Value} {vs' : List Value} {ps : List TV} {avs : Nat → List Value}
    (a : Arg W v' p bs is av) (as : Args W vs' ps bs2 is2 avs) : Args W (v' :: vs') (p :: ps) (bs ++ bs2) (is ++ is2) (fun n => av n :: avs (n + bs.length)) := by
  have cD : ∀ (D : Nat → Prop) n, (∀ j, j < (bs ++ bs2).length → D (n + j)) → (∀ j, j < bs.length → D (n + j)) ∧ (∀ j, j < bs2.length → D (n + bs.length + j)) := by
    intro D n h
    refine ⟨fun j hj => h j (by simp; omega), fun j hj => ?_⟩
    have := h (bs.length + j) (by simp; omega)
    rwa [← Nat.add_assoc] at this
  have cI : ∀ (m : NMap) n, (∀ (j : Nat) i, (is ++ is2)[j]? = some i → m (n + j) = i) → (∀ (j : Nat) i, is[j]? = some i → m (n + j) = i) ∧ (∀ (j : Nat) i, is2[j]? = some i → m (n + bs.length + j) = i) := by
    intro m n h
    refine ⟨fun j i hj => h j i (by rw [List.getElem?_append_left (List.getElem?_eq_some_iff.1 hj).1]; exact hj), fun j i hj => ?_⟩
    have := h (bs.length + j) i (by rw [List.getElem?_append_right (by rw [a.len]; omega), a.len, Nat.add_sub_cancel_left]; exact hj)
    rwa [← Nat.add_assoc] at this
  refine ⟨fun D m n hD hm => ?_, fun Fz h n hF hh => ?_, fun D m n hD hm j b hb => ?_, fun j b i hb hi hd => ?_, by simp [a.len, as.len]⟩
  · have h1 := a.vr D m n (cD D n hD).1 (cI m n hm).1
    have h2 := as.vr D m (n + bs.length) (cD D n hD).2 (cI m n hm).2
    refine ⟨by simp [h2.len], fun i x x' hx hx' => ?_⟩
    cases i with
    | zero => simp at hx hx'; subst hx hx'; exact h1
    | succ i => simp at hx hx'; exact h2.at' i x x' hx hx'
  · refine .cons (a.vl Fz h n (cD Fz n hF).1 fun j b hb => hh j b (by rw [List.getElem?_append_left (List.getElem?_eq_some_iff.1 hb).1]; exact hb)) (as.vl Fz h (n + bs.length) (cD Fz n hF).2 fun j b hb => ?_)
    have := hh (bs.length + j) b (by rw [List.getElem?_append_right (by omega), Nat.add_sub_cancel_left]; exact hb)
    rwa [← Nat.add_assoc] at this
  · rcases Nat.lt_or_ge j bs.length with hj | hj
    · rw [List.getElem?_append_left hj] at hb
      exact a.ok D m n (cD D n hD).1 (cI m n hm).1 j b hb
    · rw [List.getElem?_append_right hj] at hb
      have := as.ok D m (n + bs.length) (cD D n hD).2 (cI m n hm).2 _ b hb
      rwa [show n + bs.length + (j - bs.length) = n + j by omega] at this
  · rcases Nat.lt_or_ge j bs.length with hj | hj
    · rw [List.getElem?_append_left hj] at hb
      rw [List.getElem?_append_left (by rw [a.len]; exact hj)] at hi
      exact a.lt j b i hb hi hd
    · rw [List.getElem?_append_right hj] at hb
      rw [List.getElem?_append_right (by rw [a.len]; exact hj), a.len] at hi
      exact as.lt _ b i hb hi hd
/-- the names of the arguments -/
def nm (is : List Info) : NMap := fun n => is.getD n ⟨0, 0, 0, 0⟩
theorem nm_at {is : List Info} {j : Nat} {i : Info} (h : is[j]? = some i) : nm is (0 + j) = i := by
  unfold nm
  rw [Nat.zero_add, List.getD_eq_getElem?_getD, h]
  rfl
section
variable {W : World} {vs' : List Value} {ps : List TV} {bs : List Blk} {is : List Info} {av : Nat → List Value}
theorem Args.rel (a : Args W vs' ps bs is av) : Rel W.heap.size bs.length (fun k => k < bs.length) (nm is) bs W := by
  refine ⟨Nat.le_refl _, fun _ h => h, fun n b hn hb => ?_, fun n b hn hb hd => ?_, fun n b hD hl => absurd hD (by omega), fun n b hn _ hb hd => ?_, fun n b hD hl => absurd hD (by omega), fun n n' b b' hD _ hl => absurd hD (by omega)⟩
  · have := a.ok (fun k => k < bs.length) (nm is) 0 (fun j hj => by omega) (fun j i hi => nm_at hi) n b hb
    rwa [Nat.zero_add] at this
  all_goals
    have hi : n < is.length := by rw [a.len]; exact hn
    have e := nm_at (List.getElem?_eq_getElem hi)
    rw [Nat.zero_add] at e
    rw [e]
    exact a.lt n b _ hb (List.getElem?_eq_getElem hi) hd
theorem Args.vls (a : Args W vs' ps bs is av) : VLs (fun k => k < bs.length) bs noL ps (av 0) := a.vl _ _ 0 (fun j hj => by omega) (fun j b hb => by rw [Nat.zero_add]; exact hb)
theorem Args.vrs (a : Args W vs' ps bs is av) : VRs (fun k => k < bs.length) (nm is) (av 0) vs' := a.vr _ _ 0 (fun j hj => by omega) (fun j i hi => nm_at hi)
end
theorem len1 {α : Type} {l : List α} (h : l.length = 1) : ∃ x0, l = [x0] := by
  match l, h with
  | [x0], _ => exact ⟨_, rfl⟩
theorem len2 {α : Type} {l : List α} (h : l.length = 2) : ∃ x0 x1, l = [x0, x1] := by
  match l, h with
  | [x0, x1], _ => exact ⟨_, _, rfl⟩
theorem len3 {α : Type} {l : List α} (h : l.length = 3) : ∃ x0 x1 x2, l = [x0, x1, x2] := by
  match l, h with
  | [x0, x1, x2], _ => exact ⟨_, _, _, rfl⟩
theorem len4 {α : Type} {l : List α} (h : l.length = 4) : ∃ x0 x1 x2 x3, l = [x0, x1, x2, x3] := by
  match l, h with
  | [x0, x1, x2, x3], _ => exact ⟨_, _, _, _, rfl⟩
theorem len5 {α : Type} {l : List α} (h : l.length = 5) : ∃ x0 x1 x2 x3 x4, l = [x0, x1, x2, x3, x4] := by
  match l, h with
  | [x0, x1, x2, x3, x4], _ => exact ⟨_, _, _, _, _, rfl⟩
theorem len6 {α : Type} {l : List α} (h : l.length = 6) : ∃ x0 x1 x2 x3 x4 x5, l = [x0, x1, x2, x3, x4, x5] := by
  match l, h with
  | [x0, x1, x2, x3, x4, x5], _ => exact ⟨_, _, _, _, _, _, rfl⟩
theorem len7 {α : Type} {l : List α} (h : l.length = 7) : ∃ x0 x1 x2 x3 x4 x5 x6, l = [x0, x1, x2, x3, x4, x5, x6] := by
  match l, h with
  | [x0, x1, x2, x3, x4, x5, x6], _ => exact ⟨_, _, _, _, _, _, _, rfl⟩
theorem len8 {α : Type} {l : List α} (h : l.length = 8) : ∃ x0 x1 x2 x3 x4 x5 x6 x7, l = [x0, x1, x2, x3, x4, x5, x6, x7] := by
  match l, h with
  | [x0, x1, x2, x3, x4, x5, x6, x7], _ => exact ⟨_, _, _, _, _, _, _, _, rfl⟩
theorem len9 {α : Type} {l : List α} (h : l.length = 9) : ∃ x0 x1 x2 x3 x4 x5 x6 x7 x8, l = [x0, x1, x2, x3, x4, x5, x6, x7, x8] := by
  match l, h with
  | [x0, x1, x2, x3, x4, x5, x6, x7, x8], _ => exact ⟨_, _, _, _, _, _, _, _, _, rfl⟩
theorem len10 {α : Type} {l : List α} (h : l.length = 10) : ∃ x0 x1 x2 x3 x4 x5 x6 x7 x8 x9, l = [x0, x1, x2, x3, x4, x5, x6, x7, x8, x9] := by
  match l, h with
  | [x0, x1, x2, x3, x4, x5, x6, x7, x8, x9], _ => exact ⟨_, _, _, _, _, _, _, _, _, _, rfl⟩
/-! ### arguments without names -/
def AtomV (c : Value) : Prop := isAtom c = true ∧ ∀ D m, VR D m c c
theorem atomV_int (k : IntKind) (n : Int) : AtomV (.int k n) := ⟨rfl, fun _ _ => .int _ _⟩
theorem Arg.atom {W : World} {v : Value} (h : AtomV v) : Arg W v (.v v) [] [] (fun _ => v) :=
  ⟨fun _ _ _ _ _ => h.2 _ _, fun _ _ _ _ _ => .v _ _ h.1, fun _ _ _ _ _ j b h => by simp at h, fun j b i h => by simp at h, rfl⟩
theorem Arg.agg {W : World} {l : List Value} (h : ∀ c ∈ l, AtomV c) : Arg W (.agg ⟨l⟩) (.agg (l.map .v)) [] [] (fun _ => .agg ⟨l⟩) := by
  refine ⟨fun _ _ _ _ _ => .agg _ _ rfl fun i v v' hv hv' => ?_, fun _ _ _ _ _ => .agg _ _ _ (by simp) fun i p x hp hx => ?_, fun _ _ _ _ _ j b h => by simp at h, fun j b i h => by simp at h, rfl⟩
  · obtain rfl : v = v' := Option.some.inj (hv.symm.trans hv')
    exact (h v (List.mem_of_getElem? hv)).2 _ _
  · rw [List.getElem?_map, hx] at hp
    obtain rfl := Option.some.inj hp
    exact .v _ _ (h x (List.mem_of_getElem? hx)).1
/-! ### a slice of rows -/
theorem flatMap_at {α β : Type} {g : α → List β} {es : Nat} (hg : ∀ x, (g x).length = es) (he : 0 < es) : ∀ (xs : List α) i, (xs.flatMap g)[i]? = (xs[i / es]?).bind fun x => (g x)[i % es]?
  | [], i => by simp
  | x :: t, i => by
    rw [List.flatMap_cons]
    rcases Nat.lt_or_ge i es with h | h
    · rw [List.getElem?_append_left (by rw [hg]; exact h), Nat.div_eq_of_lt h, Nat.mod_eq_of_lt h]
      rfl
    · rw [List.getElem?_append_right (by rw [hg]; exact h), hg, flatMap_at hg he t (i - es)]
      have e1 : i / es = (i - es) / es + 1 := by rw [Nat.div_eq_sub_div he h]
      have e2 : i % es = (i - es) % es := Nat.mod_eq_sub_mod h
      rw [e1, e2]
      rfl
theorem flatMap_len {α β : Type} {g : α → List β} {es : Nat} (hg : ∀ x, (g x).length = es) : ∀ (xs : List α), (xs.flatMap g).length = xs.length * es
  | [] => by simp
  | x :: t => by rw [List.flatMap_cons, List.length_append, hg, flatMap_len hg t, List.length_cons, Nat.add_mul]; omega
theorem flatMap_map {α : Type} {f : α → List TV} {g : α → List Value} (hf : ∀ x, f x = (g x).map .v) : ∀ (xs : List α), (xs.map f).flatten = (xs.flatMap g).map .v
  | [] => rfl
  | x :: t => by rw [List.map_cons, List.flatten_cons, flatMap_map hf t, List.flatMap_cons, List.map_append, hf]
theorem choose_list {α : Type} {Q : Nat → α → Prop} : ∀ n, (∀ i, i < n → ∃ x, Q i x) → ∃ xs : List α, xs.length = n ∧ ∀ (i : Nat) x, xs[i]? = some x → Q i x
  | 0, _ => ⟨[], rfl, fun i x h => by simp at h⟩
  | n + 1, h => by
    obtain ⟨xs, hl, hq⟩ := choose_list n (fun i hi => h i (by omega))
    obtain ⟨x, hx⟩ := h n (by omega)
    refine ⟨xs ++ [x], by simp [hl], fun i y hy => ?_⟩
    rcases Nat.lt_or_ge i n with hi | hi
    · rw [List.getElem?_append_left (by omega)] at hy
      exact hq i y hy
    · rw [List.getElem?_append_right (by omega), hl] at hy
      have : i = n := by
        rcases Nat.lt_or_ge 0 (i - n) with g | g
        · rw [List.getElem?_eq_none (by simp; omega)] at hy; cases hy
        · omega
      subst this
      simp at hy
      subst hy
      exact hx
section
variable {H : Type} {enc : TypeId × Value → H} {W : World} {base : Nat} {spare : Nat → Bool} {held : Bool}
theorem open_rows {α : Type} {f : α → List TV} {g : α → List Value} {es : Nat} (he : 0 < es) (hf : ∀ x, f x = (g x).map .v) (hg : ∀ x, (g x).length = es) (hat : ∀ x, ∀ c ∈ g x, AtomV c)
    {P : Program} {t te : TypeId} (ht : P.underlying t = some (.slice te)) (hC : P.cellsOf te = es) {r : Reach} {b0 : Nat} {v' : Value} (hval : Value.okWide P W r b0 t v')
    (elem : ∀ n cs y, DataW.trod enc P W base spare held n te cs = some y → cs.length = es → ∃ x : α, cs = g x)
    {fuel : Nat} {x : DataW H × List MemPlace} (h : DataW.trod enc P W base spare held fuel t [v'] = some x) : ∃ (xs : List α) (bs : List Blk) (is : List Info) (av : Nat → Value), Arg W v' (.list es (xs.map f)) bs is av := by
  rcases DataW.trod_slice ht h with ⟨hv, _⟩ | ⟨a, len, cap, elems, rest, n, _, hv, _, hb, hlc, hcm, hel, hel2, _, _⟩
  · obtain rfl : v' = .slice none 0 0 := by simpa using hv
    exact ⟨[], [], [], fun _ => .slice none 0 0, fun _ _ _ _ _ => .nilSlice 0 0, fun _ _ _ _ _ => .nillist _ _, fun _ _ _ _ _ j b h => by simp at h, fun j b i h => by simp at h, rfl⟩
  · obtain rfl : v' = .slice (some a) len cap := by simpa using hv
    have hok : len ≤ cap ∧ (cap : Int) ≤ IntKind.i64.max ∧ W.has P r b0 a te cap := by
      unfold Value.okWide at hval
      simp only [ht] at hval
      unfold Cell.okWide at hval
      simp only [ht] at hval
      unfold Cell.ok at hval
      simpa only [ht] using hval
    obtain ⟨gb, o, s⟩ := a
    obtain ⟨_, _, _, hs, row, cells, hsh, _⟩ := hok
    simp only at hs hsh
    subst hs
    have hgb : gb < W.heap.size := by
      unfold World.shape? at hsh
      rcases Nat.lt_or_ge gb W.heap.size with hg | hg
      · exact hg
      · rw [Array.getElem?_eq_none hg] at hsh
        simp at hsh
    have key : ∀ i, i < len → ∃ x : α, ∀ j, j < es → W.cell? ⟨gb, o + i * es + j, none⟩ = (g x)[j]? := fun i hi => by
      have h1 := hel2 i hi
      rw [List.getElem?_eq_getElem (by omega), Option.bind_eq_some_iff] at h1
      obtain ⟨cs, hcs, htr⟩ := h1
      rw [hC] at hcs
      unfold World.cells? at hcs
      split at hcs
      · have hlen := mapM_some_length hcs
        simp at hlen
        obtain ⟨x, rfl⟩ := elem n cs _ htr hlen
        refine ⟨x, fun j hj => ?_⟩
        have := mapM_some_get hcs j j (by simp [hj])
        have e : ((⟨gb, o, none⟩ : Addr).add (i * es)).add j = ⟨gb, o + i * es + j, none⟩ := by
          unfold Addr.add
          split <;> split <;> simp_all
        rw [← e]
        exact this
      · cases hcs
    obtain ⟨xs, hl, hq⟩ := choose_list len key
    subst hl
    have hlen := flatMap_len hg xs
    have hfl := flatMap_map hf xs
    refine ⟨xs, [.cells es (xs.flatMap g)], [⟨gb, o, cap * es, es⟩], fun n => .slice (some ⟨n, 0, none⟩) xs.length xs.length, fun D m n hD hm => ?_, fun Fz h n hF hh => ?_, fun D m n hD hm j b hb => ?_, fun j b i hb hi hd => ?_, rfl⟩
    · have e := hm 0 _ rfl
      rw [Nat.add_zero] at e
      have := VR.slice (D := D) (m := m) n 0 xs.length xs.length cap (hD 0 (by simp)) (Nat.le_refl _) hlc (.inr (by rw [e]; simp))
      rw [e] at this
      exact this
    · have hw : ∀ r ∈ xs.map f, r.length = es := fun r hr => by obtain ⟨x, _, rfl⟩ := List.mem_map.1 hr; rw [hf, List.length_map, hg]
      have := VL.list (Fz := Fz) (h := h) noL es (xs.map f) n 0 xs.length (xs.flatMap g) es (hF 0 (by simp)) (hh 0 _ rfl) (.inl rfl) hw (by simp) (by rw [List.length_map, hlen]; omega) (fun j p x hp hx => by
        rw [hfl, List.getElem?_map, Option.map_eq_some_iff] at hp
        rw [Nat.zero_add] at hx
        obtain ⟨y, h1, rfl⟩ := hp
        obtain rfl : y = x := Option.some.inj (h1.symm.trans hx)
        obtain ⟨z, _, hz⟩ := List.mem_flatMap.1 (List.mem_of_getElem? hx)
        exact .v _ _ (hat z y hz).1)
      rw [List.length_map] at this
      exact this
    · match j, hb with
      | 0, hb =>
        obtain rfl := Option.some.inj hb
        have e := hm 0 _ rfl
        rw [Nat.add_zero] at e ⊢
        refine ⟨by rw [e], fun i v hv => ⟨v, ?_, ?_⟩⟩
        · rw [flatMap_at hg he, Option.bind_eq_some_iff] at hv
          obtain ⟨x, hx, hv⟩ := hv
          rw [e]
          have := hq _ x hx (i % es) (Nat.mod_lt _ he)
          rw [Nat.add_assoc, Nat.mul_comm, Nat.div_add_mod] at this
          rw [this]
          exact hv
        · obtain ⟨z, _, hz⟩ := List.mem_flatMap.1 (List.mem_of_getElem? hv)
          exact (hat z v hz).2 _ _
      | j + 1, hb => simp at hb
    · match j, hb, hi with
      | 0, hb, hi => obtain rfl := Option.some.inj hi
                     exact hgb
      | j + 1, hb, hi => simp at hb
/-! ### aggregates of ints -/
def AI (cs : List Value) : Prop := ∀ c ∈ cs, ∃ n : Int, c = .int .i64 n
theorem AI.list {cs : List Value} (h : AI cs) : ∃ l : List Int, cs = l.map (.int .i64) := by
  induction cs with
  | nil => exact ⟨[], rfl⟩
  | cons c t ih =>
    obtain ⟨n, rfl⟩ := h c (by simp)
    obtain ⟨l, rfl⟩ := ih fun c hc => h c (by simp [hc])
    exact ⟨n :: l, rfl⟩
variable {P : Program}
theorem ai_int {te : TypeId} (ht : P.underlying te = some (.int .i64)) {fuel : Nat} {cs : List Value} {x : DataW H × List MemPlace} (h : DataW.trod enc P W base spare held fuel te cs = some x) : AI cs := by
  obtain ⟨n, rfl, _⟩ := DataW.trod_int ht h
  exact fun c hc => ⟨n, by simpa using hc⟩
theorem ai_arr {t e : TypeId} {m k : Nat} (ht : P.underlying t = some (.array m e)) (hk : P.cellsOf e = k) (hk0 : 0 < k) (hc : P.cellsOf t = m * k) (he : ∀ n cs y, DataW.trod enc P W base spare held n e cs = some y → AI cs)
    {fuel : Nat} {cs : List Value} {x : DataW H × List MemPlace} (h : DataW.trod enc P W base spare held fuel t cs = some x) : AI cs := by
  obtain ⟨xs, n, _, _, hl, hx, hi⟩ := DataW.trod_array ht h
  intro c hcm
  obtain ⟨j, hj, rfl⟩ := List.mem_iff_getElem.1 hcm
  rw [hl, hc] at hj
  have hd : j / k < m := (Nat.div_lt_iff_lt_mul hk0).2 hj
  have h1 := hi _ hd
  rw [List.getElem?_eq_getElem (by omega), hk] at h1
  refine he _ _ _ h1 _ ?_
  refine List.mem_of_getElem? (i := j % k) ?_
  rw [List.getElem?_take, if_pos (Nat.mod_lt _ hk0), List.getElem?_drop, Nat.mul_comm, Nat.div_add_mod, List.getElem?_eq_getElem]
theorem ai_struct {t : TypeId} {fs : Array Field} (ht : P.underlying t = some (.struct fs)) (hcov : ((List.range (P.cellsOf t)).all fun j => fs.toList.any fun f => decide (f.offset ≤ j) && decide (j < f.offset + P.cellsOf f.type)) = true) (he : ∀ f ∈ fs.toList, ∀ n cs y, DataW.trod enc P W base spare held n f.type cs = some y → AI cs)
    {fuel : Nat} {cs : List Value} {x : DataW H × List MemPlace} (h : DataW.trod enc P W base spare held fuel t cs = some x) : AI cs := by
  obtain ⟨xs, n, _, _, hl, hx, hi⟩ := DataW.trod_struct ht h
  intro c hcm
  obtain ⟨j, hj, rfl⟩ := List.mem_iff_getElem.1 hcm
  rw [hl] at hj
  have := List.all_eq_true.1 hcov j (by simpa using hj)
  obtain ⟨f, hf, hf2⟩ := List.any_eq_true.1 this
  simp only [Bool.and_eq_true, decide_eq_true_eq] at hf2
  obtain ⟨i, hil, hif⟩ := List.mem_iff_getElem.1 hf
  have hfi : fs[i]? = some f := by rw [← Array.getElem?_toList, List.getElem?_eq_getElem hil, hif]
  have h1 := hi i f hfi
  have hil2 : i < fs.size := by simpa using hil
  rw [List.getElem?_eq_getElem (by omega)] at h1
  refine he f hf _ _ _ h1 _ ?_
  refine List.mem_of_getElem? (i := j - f.offset) ?_
  rw [List.getElem?_take, if_pos (by omega), List.getElem?_drop, show f.offset + (j - f.offset) = j by omega, List.getElem?_eq_getElem]
theorem okW_int {t : TypeId} (ht : P.underlying t = some (.int .i64)) {r : Reach} {b : Nat} {v : Value} (w : Cell.okWide P W r b t v) : ∃ n : Int, v = .int .i64 n := by
  unfold Cell.okWide at w
  simp only [ht] at w
  unfold Cell.ok at w
  simp only [ht] at w
  cases v <;> first | exact ⟨_, by rw [w.1]⟩ | exact absurd w (by simp)
theorem open_int {t : TypeId} (ht : P.underlying t = some (.int .i64)) {r : Reach} {b : Nat} {v : Value} (w : Value.okWide P W r b t v) : ∃ n : Int, v = .int .i64 n := by
  unfold Value.okWide at w
  simp only [ht] at w
  exact okW_int ht w
theorem open_sti {t ti : TypeId} {fs : Array Field} {n : Nat} (ht : P.underlying t = some (.struct fs)) (hti : P.underlying ti = some (.int .i64)) (hct : P.cellTypes P.depth t = some (List.replicate n ti)) (hn : P.cellsOf t = n)
    {r : Reach} {b : Nat} {v : Value} (w : Value.okWide P W r b t v) : ∃ l : List Int, l.length = n ∧ v = .agg ⟨l.map (.int .i64)⟩ := by
  unfold Value.okWide at w
  simp only [ht] at w
  obtain ⟨cs, rfl, hs, ts, hts, _, hc⟩ := w
  rw [hct] at hts
  obtain rfl := Option.some.inj hts
  obtain ⟨l⟩ := cs
  have : AI l := by
    intro c hcm
    obtain ⟨j, hj, rfl⟩ := List.mem_iff_getElem.1 hcm
    obtain ⟨u, hu, hok⟩ := hc j l[j] (by simp)
    have := List.eq_of_mem_replicate (List.mem_of_getElem? hu)
    subst this
    exact okW_int hti hok
  obtain ⟨l', rfl⟩ := this.list
  refine ⟨l', ?_, rfl⟩
  simpa [hn] using hs
theorem open_ari {t ti e : TypeId} {k n : Nat} (ht : P.underlying t = some (.array k e)) (hti : P.underlying ti = some (.int .i64)) (hct : P.cellTypes P.depth t = some (List.replicate n ti)) (hn : P.cellsOf t = n)
    {r : Reach} {b : Nat} {v : Value} (w : Value.okWide P W r b t v) : ∃ l : List Int, l.length = n ∧ v = .agg ⟨l.map (.int .i64)⟩ := by
  unfold Value.okWide at w
  simp only [ht] at w
  obtain ⟨cs, rfl, hs, ts, hts, _, hc⟩ := w
  rw [hct] at hts
  obtain rfl := Option.some.inj hts
  obtain ⟨l⟩ := cs
  have : AI l := by
    intro c hcm
    obtain ⟨j, hj, rfl⟩ := List.mem_iff_getElem.1 hcm
    obtain ⟨u, hu, hok⟩ := hc j l[j] (by simp)
    have := List.eq_of_mem_replicate (List.mem_of_getElem? hu)
    subst this
    exact okW_int hti hok
  obtain ⟨l', rfl⟩ := this.list
  refine ⟨l', ?_, rfl⟩
  simpa [hn] using hs
theorem arg_ints (l : List Int) : Arg W (.agg ⟨l.map (.int .i64)⟩) (.agg (l.map fun x => .v (.int .i64 x))) [] [] (fun _ => .agg ⟨l.map (.int .i64)⟩) := by
  have := Arg.agg (W := W) (l := l.map (.int .i64)) fun c hc => by obtain ⟨x, _, rfl⟩ := List.mem_map.1 hc; exact atomV_int _ _
  rwa [List.map_map] at this
end
end Go.Rex
