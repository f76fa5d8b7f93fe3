/- What these functions return: facts on lists and numbers. -/
import Derived.Test.YtaaghggojhbpiaaTexR
import Derived.Test.YtaaghggojhbpiaaS
import Derived.Test.YtaaghggojhbpiaaTexU
import Derived.ProofKit
import Derived.OpenShut
import Derived.ShutString
import Derived.ChangeOld
import Derived.Below
import Derived.Lib.SmallJoins
import Derived.ChangeShapes
import Derived.ChangeArms
import Derived.WideShapes
set_option linter.unusedSimpArgs false
set_option linter.unusedVariables false
set_option linter.defProp false
namespace Go.Rex
/-! ### plain facts for shallow functions -/
theorem w64 {x : Int} (h : -9223372036854775808 ≤ x ∧ x ≤ 9223372036854775807) : IntKind.i64.wrap x = x := IntWalk.i64_in x (by omega)
/-- a loop that counts -/
theorem run_count {σ ε : Type} {step : σ → Option (σ ⊕ ε)} (f : Nat → σ) {n : Nat} {e : ε} (h : ∀ k, k < n → step (f k) = some (.inl (f (k + 1)))) (hn : step (f n) = some (.inr e)) : run step (f 0) = some e := by
  suffices H : ∀ j k, n - k = j → k ≤ n → run step (f k) = some e from H n 0 (by omega) (Nat.zero_le _)
  intro j
  induction j with
  | zero => intro k hj hk; obtain rfl : k = n := by omega
            exact run_stop hn
  | succ j ih => intro k hj hk; rw [run_next (h k (by omega))]; exact ih (k + 1) (by omega) (by omega)
/-- a loop that ends early -/
theorem run_until {σ ε : Type} {step : σ → Option (σ ⊕ ε)} (f : Nat → σ) {m : Nat} {e : ε} (h : ∀ k, k < m → step (f k) = some (.inl (f (k + 1)))) (hm : step (f m) = some (.inr e)) : run step (f 0) = some e := run_count f h hm
theorem getI_nat {α : Type} {xs : List α} {k : Nat} : getI xs (k : Int) = xs[k]? := by
  unfold getI
  rw [if_pos (by omega), Int.toNat_natCast]
theorem getI_of {α : Type} {xs : List α} {i : Int} {k : Nat} (h : i = (k : Int)) : getI xs i = xs[k]? := by subst h; exact getI_nat
theorem appI_one {α : Type} {b : Nat} {xs : List α} {y : α} (h : xs.length < 2 ^ 40) (hb : b ≤ 128) : appI b xs [y] = some (xs ++ [y]) := by
  unfold appI
  rw [if_pos]
  refine ⟨by simp; omega, ?_⟩
  have h1 : (xs.length + [y].length) * b ≤ 2 ^ 40 * 128 := Nat.mul_le_mul (by simp; omega) hb
  omega
end Go.Rex

namespace Go.Rex
/-! ### loops that look for the first one of a list -/
def firstOr {α ε : Type} (P : α → Bool) (ex : Nat → α → ε) (en : ε) : Nat → List α → ε
  | _, [] => en
  | k, x :: t => if P x = true then ex k x else firstOr P ex en (k + 1) t
theorem run_first_from {α σ ε : Type} {step : σ → Option (σ ⊕ ε)} (st : Nat → σ) (P : α → Bool) (ex : Nat → α → ε) (en : ε) :
    ∀ (xs ys : List α), (∀ (k : Nat) x, (ys ++ xs)[k]? = some x → step (st k) = some (if P x = true then .inr (ex k x) else .inl (st (k + 1)))) → step (st (ys ++ xs).length) = some (.inr en) → run step (st ys.length) = some (firstOr P ex en ys.length xs)
  | [], ys, _, he => by rw [List.append_nil] at he; exact run_stop he
  | x :: t, ys, hs, he => by
    have h1 := hs ys.length x (by simp)
    by_cases hp : P x = true
    · rw [if_pos hp] at h1
      rw [run_stop h1, firstOr, if_pos hp]
    · rw [if_neg hp] at h1
      rw [run_next h1, firstOr, if_neg hp]
      have := run_first_from st P ex en t (ys ++ [x]) (fun k y hk => hs k y (by simpa using hk)) (by simpa using he)
      simpa using this
theorem run_first {α σ ε : Type} {step : σ → Option (σ ⊕ ε)} (st : Nat → σ) (P : α → Bool) (ex : Nat → α → ε) (en : ε) (xs : List α) (hs : ∀ (k : Nat) x, xs[k]? = some x → step (st k) = some (if P x = true then .inr (ex k x) else .inl (st (k + 1)))) (he : step (st xs.length) = some (.inr en)) {s : σ} (h0 : s = st 0) : run step s = some (firstOr P ex en 0 xs) := by
  subst h0
  exact run_first_from st P ex en xs [] hs he
theorem firstOr_map {α β γ : Type} (f : β → γ) (P : α → Bool) (ex : Nat → α → β) (en : β) : ∀ (xs : List α) k, f (firstOr P ex en k xs) = firstOr P (fun k x => f (ex k x)) (f en) k xs
  | [], _ => rfl
  | x :: t, k => by
    unfold firstOr
    split
    · rfl
    · exact firstOr_map f P ex en t (k + 1)
theorem firstOr_all {α β : Type} (P : α → Bool) (c en : β) : ∀ (xs : List α) k, firstOr P (fun _ _ => c) en k xs = if (xs.all fun x => !P x) = true then en else c
  | [], _ => rfl
  | x :: t, k => by
    unfold firstOr
    rw [firstOr_all P c en t (k + 1)]
    cases h : P x <;> simp [h]
theorem firstOr_congr {α β : Type} {P Q : α → Bool} {ex ex' : Nat → α → β} {en : β} : ∀ (xs : List α) k, (∀ x, x ∈ xs → P x = Q x) → (∀ j x, x ∈ xs → P x = true → ex j x = ex' j x) → firstOr P ex en k xs = firstOr Q ex' en k xs
  | [], _, _, _ => rfl
  | x :: t, k, h1, h2 => by
    unfold firstOr
    rw [← h1 x (by simp), firstOr_congr t (k + 1) (fun y hy => h1 y (by simp [hy])) (fun j y hy => h2 j y (by simp [hy]))]
    split
    · rename_i hp
      exact h2 k x (by simp) hp
    · rfl
theorem bind_first {α σ ε β : Type} {step : σ → Option (σ ⊕ ε)} {s : σ} {F : ε → Option β} (st : Nat → σ) (P : α → Bool) (ex : Nat → α → ε) (en : ε) (xs : List α) (K : ε → β) (h0 : s = st 0) (hF : ∀ e, F e = some (K e)) (hs : ∀ (k : Nat) x, xs[k]? = some x → step (st k) = some (if P x = true then .inr (ex k x) else .inl (st (k + 1)))) (he : step (st xs.length) = some (.inr en)) :
    (run step s).bind F = some (firstOr P (fun k x => K (ex k x)) (K en) 0 xs) := by
  rw [run_first st P ex en xs hs he h0, Option.bind_some, hF, firstOr_map K]
/-! ### numbers -/
theorem wneg {x : Int} (h : -9223372036854775807 ≤ x ∧ x ≤ 9223372036854775807) : IntKind.i64.wrap (0 - x) = -x := by rw [w64 (by omega)]; omega
theorem wsucc {k : Nat} {n : Nat} (h : k ≤ n) (hn : n ≤ 2 ^ 62) : IntKind.i64.wrap ((k : Int) + 1) = ((k + 1 : Nat) : Int) := by rw [w64 (by omega)]; omega
theorem fsize_eq {x : Int} (h : -9223372036854775807 ≤ x ∧ x ≤ 9223372036854775807) : filter_size x = some (x.natAbs : Int) := by
  unfold filter_size
  rw [wneg h]
  split <;> (congr 1; omega)
theorem tmod_emod {x y : Int} (hy : 0 < y) : x.tmod y = if x.tmod y < 0 then x % y - y else x % y := by
  have h1 := Int.tmod_lt_of_pos x hy
  have h2 : -y < x.tmod y := by
    have h3 := Int.natAbs_tmod x y
    have h4 : (x.tmod y).natAbs < y.natAbs := by rw [h3]; exact Nat.mod_lt _ (by omega)
    omega
  have hdm := Int.tmod_add_mul_tdiv x y
  split
  · have : x % y = x.tmod y + y := by
      have e : x = (x.tmod y + y) + y * (x.tdiv y - 1) := by rw [Int.mul_sub, Int.mul_one]; omega
      rw [e, Int.add_mul_emod_self_left, Int.emod_eq_of_lt (by omega) (by omega)]
      rw [← e]
    omega
  · have : x % y = x.tmod y := by
      conv => lhs; rw [← hdm]
      rw [Int.add_mul_emod_self_left, Int.emod_eq_of_lt (by omega) (by omega)]
    omega
theorem ediv_le {x y b : Int} (hy : 0 < y) (hb : 0 ≤ b) (h : -b ≤ x ∧ x ≤ b) : -b ≤ x / y ∧ x / y ≤ b := by
  have h1 := Int.emod_add_mul_ediv x y
  have h2 := Int.emod_nonneg x (show y ≠ 0 by omega)
  have h3 := Int.emod_lt_of_pos x hy
  constructor
  · refine Int.le_ediv_of_mul_le hy ?_
    have : -b * y ≤ -b * 1 := Int.mul_le_mul_of_nonpos_left (by omega) (by omega)
    omega
  · refine Int.ediv_le_of_le_mul hy ?_
    have : b * 1 ≤ b * y := Int.mul_le_mul_of_nonneg_left (by omega) hb
    omega
theorem tdiv_ediv {x y : Int} (hy : 0 < y) : x.tdiv y = if x.tmod y < 0 then x / y + 1 else x / y := by
  have hdm := Int.tmod_add_mul_tdiv x y
  have h1 := Int.emod_add_mul_ediv x y
  have h2 := tmod_emod (x := x) hy
  refine Int.eq_of_mul_eq_mul_left (show y ≠ 0 by omega) ?_
  split
  · rename_i h
    rw [if_pos h] at h2
    rw [Int.mul_add, Int.mul_one]
    omega
  · rename_i h
    rw [if_neg h] at h2
    omega
/-! ### sections -/
def smallB (m x : Int) : Bool := decide (-m ≤ x ∧ x ≤ m)
theorem isSmall_eq {x m : Int} (hm : 0 ≤ m ∧ m ≤ 9223372036854775807) : filter_isSmall x m = some (smallB m x) := by
  unfold filter_isSmall smallB
  rw [wneg (by omega)]
  by_cases h : -m ≤ x <;> simp [h]
theorem within_eq (x a b : Int) : base_Within x a b = some (decide (a ≤ x ∧ x ≤ b)) := by
  unfold base_Within
  by_cases h : a ≤ x <;> simp [h]
theorem allSmall_eq (l : List Int) {m : Int} (hl : l.length ≤ 2 ^ 62) (hm : 0 ≤ m ∧ m ≤ 9223372036854775807) : filter_allSmall l m = some (if (l.all (smallB m)) = true then 0 else 2) := by
  unfold filter_allSmall
  refine (bind_first (fun k : Nat => (k : Int)) (fun x => !smallB m x) (fun _ _ => .inl ()) (.inr ()) l (Sum.elim (fun _ => 2) fun _ => 0) rfl (fun e => by rcases e with _ | _ <;> rfl) (fun k x hk => ?_) ?_).trans ?_
  · have hk2 := (List.getElem?_eq_some_iff.1 hk).1
    dsimp only [filter_allSmall_l1]
    rw [if_pos (by simpa using hk2), getI_nat, hk, Option.bind_some, isSmall_eq hm, Option.bind_some, wsucc (n := l.length) (by omega) hl]
    cases smallB m x <;> rfl
  · dsimp only [filter_allSmall_l1]
    rw [if_neg (by simp)]
  · simp only [Sum.elim_inl, Sum.elim_inr, firstOr_all, Bool.not_not]
theorem firstError_eq (l : List Int) (hl : l.length ≤ 2 ^ 62) : filter_firstError l = some (firstOr (fun x => decide (x ≠ 0)) (fun _ x => x) 0 0 l) := by
  unfold filter_firstError
  refine (bind_first (fun k : Nat => (k : Int)) (fun x => decide (x ≠ 0)) (fun _ x => .inl x) (.inr ()) l (Sum.elim id fun _ => 0) rfl (fun e => by rcases e with x | _ <;> rfl) (fun k x hk => ?_) ?_).trans rfl
  · have hk2 := (List.getElem?_eq_some_iff.1 hk).1
    dsimp only [filter_firstError_l1]
    rw [if_pos (by simpa using hk2), getI_nat, hk, Option.bind_some, wsucc (n := l.length) (by omega) hl]
    by_cases h : x = 0 <;> simp [h]
  · dsimp only [filter_firstError_l1]
    rw [if_neg (by simp)]
theorem refuse_eq (b : Bool) (e : Int) : filter_refuse b e = some (if b = true then e else 0) := by
  unfold filter_refuse
  cases b <;> rfl
theorem first2 (a b : Int) : filter_firstError [a, b] = some (if a ≠ 0 then a else b) := by
  rw [firstError_eq _ (by simp)]
  unfold firstOr firstOr firstOr
  by_cases h : a = 0 <;> by_cases h2 : b = 0 <;> simp [h, h2]
end Go.Rex

namespace Go.Rex
def secB (x : Int × Int × Int × Int × Int) : Bool := smallB 32768 x.1 && (smallB 32768 x.2.1 && (smallB 32768 x.2.2.1 && (smallB 32768 x.2.2.2.1 && smallB 32768 x.2.2.2.2)))
theorem secB_iff {a b c d e : Int} : secB (a, b, c, d, e) = true ↔ (-32768 ≤ a ∧ a ≤ 32768) ∧ (-32768 ≤ b ∧ b ≤ 32768) ∧ (-32768 ≤ c ∧ c ≤ 32768) ∧ (-32768 ≤ d ∧ d ≤ 32768) ∧ (-32768 ≤ e ∧ e ≤ 32768) := by
  simp [secB, smallB]
def secE (x : Int × Int × Int × Int × Int) : Int := if secB x = true then 0 else 2
theorem fsec_eq (a b c d e : Int) : filter_CheckSection a b c d e = some (secE (a, b, c, d, e)) := by
  unfold filter_CheckSection filter_coefficientsOf
  rw [Option.bind_some]
  dsimp only
  rw [allSmall_eq _ (by simp) (by omega)]
  simp only [Option.bind_some, secE, secB, List.all_cons, List.all_nil, Bool.and_true]
  rfl
/-- the error of a cascade, with its number -/
def casE (l : List (Int × Int × Int × Int × Int)) : Int × Int := if l.length > 6 then (0, 8) else firstOr (fun x => !secB x) (fun k _ => ((k : Int), 2)) (0, 0) 0 l
theorem fcas_eq (l : List (Int × Int × Int × Int × Int)) : filter_CheckCascade l = some (casE l) := by
  unfold filter_CheckCascade casE
  by_cases hl : l.length > 6
  · rw [if_pos (by simp; omega), if_pos hl]
  · rw [if_neg (by simp; omega), if_neg hl]
    refine (bind_first (fun k : Nat => (k : Int)) (fun x => !secB x) (fun k _ => .inl ((k : Int), (2 : Int))) (.inr ()) l (Sum.elim id fun _ => (0, 0)) rfl (fun e => by rcases e with ⟨x, y⟩ | _ <;> rfl) (fun k x hk => ?_) ?_).trans rfl
    · have hk2 := (List.getElem?_eq_some_iff.1 hk).1
      obtain ⟨a, b, c, d, e⟩ := x
      dsimp only [filter_CheckCascade_l1]
      rw [if_pos (by simpa using hk2), getI_nat, hk, Option.bind_some]
      dsimp only
      rw [fsec_eq, Option.bind_some, wsucc (n := l.length) (by omega) (by omega)]
      unfold secE
      cases secB (a, b, c, d, e) <;> rfl
    · dsimp only [filter_CheckCascade_l1]
      rw [if_neg (by simp)]
theorem casE_zero {l : List (Int × Int × Int × Int × Int)} (h : (casE l).2 = 0) : l.length ≤ 6 ∧ ∀ x, x ∈ l → secB x = true := by
  unfold casE at h
  split at h
  · cases h
  · rename_i hl
    refine ⟨by omega, ?_⟩
    have : ∀ (xs : List (Int × Int × Int × Int × Int)) k, (firstOr (fun x => !secB x) (fun k _ => ((k : Int), (2 : Int))) (0, 0) k xs).2 = 0 → ∀ x, x ∈ xs → secB x = true := by
      intro xs
      induction xs with
      | nil => intro k _ x hx; cases hx
      | cons y t ih =>
        intro k hk x hx
        unfold firstOr at hk
        cases hy : secB y with
        | false => simp [hy] at hk
        | true =>
          rw [if_neg (by simp [hy])] at hk
          rcases List.mem_cons.1 hx with rfl | hx
          · exact hy
          · exact ih _ hk x hx
    exact this l 0 h
theorem copy_eq {l : List (Int × Int × Int × Int × Int)} (h : l.length ≤ 1024) : ref06_Copy l = some l := by
  unfold ref06_Copy appI
  rw [if_pos (by simp; omega)]
  rfl
def stabB (p q : Int) : Bool := decide ((q.natAbs : Int) < 16384) && decide ((p.natAbs : Int) < 16384 + q)
theorem stab_if {p q : Int} : ((some (q.natAbs : Int)).bind fun v4 => if decide (v4 < 16384) = true then ((some (p.natAbs : Int)).bind fun v5 => some (decide (v5 < 16384 + q))) else some false) = some (stabB p q) := by
  rw [Option.bind_some, Option.bind_some]
  unfold stabB
  by_cases h : (q.natAbs : Int) < 16384
  · rw [if_pos (decide_eq_true h), decide_eq_true h, Bool.true_and]
  · rw [if_neg (by simpa using h), decide_eq_false h, Bool.false_and]
theorem fstab_eq {p q : Int} (hp : -40000 ≤ p ∧ p ≤ 40000) (hq : -40000 ≤ q ∧ q ≤ 40000) : filter_isStable p q = some (stabB p q) := by
  unfold filter_isStable
  rw [fsize_eq (by omega), fsize_eq (by omega), w64 (x := 16384 + q) (by omega)]
  exact stab_if
theorem stabB_iff {p q : Int} : stabB p q = true ↔ (q.natAbs : Int) < 16384 ∧ (p.natAbs : Int) < 16384 + q := by
  unfold stabB
  rw [Bool.and_eq_true, decide_eq_true_eq, decide_eq_true_eq]
/-- the first section that is not stable -/
def unsE (l : List (Int × Int × Int × Int × Int)) : Int × Int := firstOr (fun x => !stabB x.2.2.2.1 x.2.2.2.2) (fun k _ => ((k : Int), 0)) (0, 12) 0 l
theorem funs_eq {l : List (Int × Int × Int × Int × Int)} (hl : l.length ≤ 1024) : filter_FirstUnstable l = if (casE l).2 = 0 then some (unsE l) else some (0, (casE l).2) := by
  unfold filter_FirstUnstable filter_cascadeError
  rw [fcas_eq]
  dsimp only [Option.bind_some]
  by_cases h : (casE l).2 = 0
  · obtain ⟨_, hs⟩ := casE_zero h
    rw [if_neg (by rw [decide_eq_true_eq]; exact fun hc => hc h), if_pos h]
    refine (bind_first (fun k : Nat => (k : Int)) (fun x => !stabB x.2.2.2.1 x.2.2.2.2) (fun k _ => .inl (k : Int)) (.inr ()) l (Sum.elim (fun k => (k, 0)) fun _ => (0, 12)) rfl (fun e => by rcases e with _ | _ <;> rfl) (fun k x hk => ?_) ?_).trans (by unfold unsE; simp only [Sum.elim_inl, Sum.elim_inr])
    · have hk2 := (List.getElem?_eq_some_iff.1 hk).1
      have hx := hs x (List.mem_of_getElem? hk)
      obtain ⟨a, b, c, d, e⟩ := x
      obtain ⟨h1, h2, h3, h4, h5⟩ := secB_iff.1 hx
      dsimp only [filter_FirstUnstable_l1]
      rw [if_pos (by simpa using hk2), getI_nat, hk, Option.bind_some]
      dsimp only
      rw [fstab_eq (by omega) (by omega), Option.bind_some, wsucc (n := l.length) (by omega) (by omega)]
      cases stabB d e <;> rfl
    · dsimp only [filter_FirstUnstable_l1]
      rw [if_neg (by simp)]
  · rw [if_pos (by rw [decide_eq_true_eq]; exact h), if_neg h]
theorem fIs_eq {a b c d e : Int} : filter_IsStable a b c d e = some (if secB (a, b, c, d, e) = true then (stabB d e, 0) else (false, 2)) := by
  unfold filter_IsStable
  rw [fsec_eq, Option.bind_some]
  unfold secE
  by_cases h : secB (a, b, c, d, e) = true
  · obtain ⟨h1, h2, h3, h4, h5⟩ := secB_iff.1 h
    rw [if_pos h, if_pos h, if_neg (by simp), fstab_eq (by omega) (by omega)]
    rfl
  · rw [if_neg h, if_neg h, if_pos (by simp)]
end Go.Rex

namespace Go.Rex
theorem mulb {a b : Int} {A B : Nat} (ha : -(A : Int) ≤ a ∧ a ≤ A) (hb : -(B : Int) ≤ b ∧ b ≤ B) : -((A * B : Nat) : Int) ≤ a * b ∧ a * b ≤ ((A * B : Nat) : Int) := by
  have : (a * b).natAbs ≤ A * B := by rw [Int.natAbs_mul]; exact Nat.mul_le_mul (by omega) (by omega)
  omega
/-! ### the steps down, in plain numbers -/
def stZ (l : List Int) (n k : Nat) : Int := l.getD 0 0 * l.getD k 0 - l.getD n 0 * l.getD (n - k) 0
theorem getD_mem {l : List Int} {k : Nat} (h : k < l.length) : l.getD k 0 ∈ l ∧ getI l (k : Int) = some (l.getD k 0) := by
  rw [getI_nat, List.getD_eq_getElem?_getD, List.getElem?_eq_getElem h]
  exact ⟨List.getElem_mem h, rfl⟩
theorem stepZ {l : List Int} {n : Nat} (hl : l.length = n + 1) (hn : n ≤ 1024) (hb : ∀ x ∈ l, -2000000000 ≤ x ∧ x ≤ 2000000000) : filter_stepDown l = some ((List.range n).map (stZ l n)) := by
  unfold filter_stepDown
  have h : run (filter_stepDown_l1 l) (([] : List Int), 0) = some ((List.range n).map (stZ l n)) := by
    refine run_count (fun k => ((List.range k).map (stZ l n), (k : Int))) (n := n) (fun k hk => ?_) ?_
    · obtain ⟨a1, a2⟩ := getD_mem (l := l) (k := 0) (by omega)
      obtain ⟨b1, b2⟩ := getD_mem (l := l) (k := k) (by omega)
      obtain ⟨c1, c2⟩ := getD_mem (l := l) (k := n) (by omega)
      obtain ⟨d1, d2⟩ := getD_mem (l := l) (k := n - k) (by omega)
      have x1 := mulb (A := 2000000000) (B := 2000000000) (a := l.getD 0 0) (b := l.getD k 0) (by have := hb _ a1; omega) (by have := hb _ b1; omega)
      have x2 := mulb (A := 2000000000) (B := 2000000000) (a := l.getD n 0) (b := l.getD (n - k) 0) (by have := hb _ c1; omega) (by have := hb _ d1; omega)
      rw [show ((0 : Nat) : Int) = 0 from rfl] at a2
      dsimp only [filter_stepDown_l1]
      rw [w64 (x := (l.length : Int) - 1) (by omega), w64 (x := (l.length : Int) - 1 - k) (by omega), if_pos (by rw [decide_eq_true_eq]; omega), a2, b2, show (l.length : Int) - 1 = (n : Int) by omega, c2, show (n : Int) - k = ((n - k : Nat) : Int) by omega, d2]
      simp only [Option.bind_some]
      rw [w64 (x := l.getD 0 0 * l.getD k 0) (by omega), w64 (x := l.getD n 0 * l.getD (n - k) 0) (by omega), w64 (by omega), appI_one (by simp; omega) (by omega), Option.bind_some, wsucc (n := n) (by omega) (by omega), List.range_succ, List.map_append]
      rfl
    · dsimp only [filter_stepDown_l1]
      rw [w64 (x := (l.length : Int) - 1) (by omega), if_neg (by rw [decide_eq_true_eq]; omega)]
  rw [h]
  rfl
def S1 (a b : Int) : Bool := decide ((b.natAbs : Int) < a)
def S2 (a b c : Int) : Bool := decide ((c.natAbs : Int) < a) && S1 (a * a - c * c) (a * b - c * b)
def S3 (a b c d : Int) : Bool := decide ((d.natAbs : Int) < a) && S2 (a * a - d * d) (a * b - d * c) (a * c - d * b)
def S4 (a b c d e : Int) : Bool := decide ((e.natAbs : Int) < a) && S3 (a * a - e * e) (a * b - e * d) (a * c - e * c) (a * d - e * b)
/-- one round of the loop -/
theorem sch_step {l q : List Int} {k x y : Int} (h0 : getI l 0 = some x) (hn : getI l ((l.length : Int) - 1) = some y) (hlen : 2 ≤ l.length ∧ l.length ≤ 100) (hy : -9223372036854775807 ≤ y ∧ y ≤ 9223372036854775807) (hs : filter_stepDown l = some q) :
    filter_Schur_l1 (l, k) = if (y.natAbs : Int) < x then (if l.length = 2 then some (.inr (.inl k)) else some (.inl (q, IntKind.i64.wrap (k + 1)))) else some (.inr (.inr k)) := by
  dsimp only [filter_Schur_l1]
  rw [w64 (x := (l.length : Int) - 1) (by omega), h0, hn, Option.bind_some, Option.bind_some, fsize_eq hy, Option.bind_some, hs, Option.bind_some]
  simp only [decide_eq_true_eq]
  by_cases h : (y.natAbs : Int) < x
  · rw [if_pos (by omega), if_pos h]
    by_cases h2 : l.length = 2
    · rw [if_pos (by omega), if_pos h2]
    · rw [if_neg (by omega), if_neg h2]
  · rw [if_neg (by omega), if_neg h]
theorem sch2' {a b : Int} (k : Int) (ha : -2000000000000000000 ≤ a ∧ a ≤ 2000000000000000000) (hb : -2000000000000000000 ≤ b ∧ b ≤ 2000000000000000000) : ∃ r, run filter_Schur_l1 ([a, b], k) = some r ∧ r.isLeft = S1 a b := by
  obtain ⟨q, hq⟩ : ∃ q, filter_stepDown [a, b] = some q := by
    have h1 : filter_stepDown_l1 [a, b] (([] : List Int), 0) = some (.inl ([IntKind.i64.wrap (IntKind.i64.wrap (a * a) - IntKind.i64.wrap (b * b))], 1)) := by
      dsimp only [filter_stepDown_l1]
      rw [show ([a, b].length : Int) = 2 from rfl, w64 (x := (2 : Int) - 1) (by omega), if_pos (by decide), show (2 : Int) - 1 = 1 from rfl, w64 (x := (1 : Int) - 0) (by omega), show getI [a, b] 0 = some a from rfl, show (1 : Int) - 0 = 1 from rfl, show getI [a, b] 1 = some b from rfl]
      simp only [Option.bind_some]
      rw [appI_one (by simp) (by omega), Option.bind_some, w64 (x := (0 : Int) + 1) (by omega)]
      rfl
    have h2 : filter_stepDown_l1 [a, b] ([IntKind.i64.wrap (IntKind.i64.wrap (a * a) - IntKind.i64.wrap (b * b))], 1) = some (.inr [IntKind.i64.wrap (IntKind.i64.wrap (a * a) - IntKind.i64.wrap (b * b))]) := by
      dsimp only [filter_stepDown_l1]
      rw [show ([a, b].length : Int) = 2 from rfl, w64 (x := (2 : Int) - 1) (by omega), if_neg (by decide)]
    refine ⟨[IntKind.i64.wrap (IntKind.i64.wrap (a * a) - IntKind.i64.wrap (b * b))], ?_⟩
    unfold filter_stepDown
    rw [run_next h1, run_stop h2]
    rfl
  have st := sch_step (k := k) (l := [a, b]) (x := a) (y := b) rfl rfl (by simp) (by omega) hq
  by_cases h : (b.natAbs : Int) < a
  · rw [if_pos h, if_pos (show [a, b].length = 2 from rfl)] at st
    exact ⟨_, run_stop st, (decide_eq_true h).symm⟩
  · rw [if_neg h] at st
    exact ⟨_, run_stop st, (decide_eq_false h).symm⟩
theorem sch3 {a b c : Int} (k : Int) (ha : -800000000 ≤ a ∧ a ≤ 800000000) (hb : -800000000 ≤ b ∧ b ≤ 800000000) (hc : -800000000 ≤ c ∧ c ≤ 800000000) : ∃ r, run filter_Schur_l1 ([a, b, c], k) = some r ∧ r.isLeft = S2 a b c := by
  have st := sch_step (k := k) (l := [a, b, c]) (x := a) (y := c) rfl rfl (by simp) (by omega) (stepZ (n := 2) rfl (by omega) (by simp; omega))
  have e : (List.range 2).map (stZ [a, b, c] 2) = [a * a - c * c, a * b - c * b] := rfl
  rw [e] at st
  have m1 := mulb (A := 800000000) (B := 800000000) ha ha
  have m2 := mulb (A := 800000000) (B := 800000000) hc hc
  have m3 := mulb (A := 800000000) (B := 800000000) ha hb
  have m4 := mulb (A := 800000000) (B := 800000000) hc hb
  unfold S2
  by_cases h : (c.natAbs : Int) < a
  · rw [if_pos h, if_neg (by simp)] at st
    rw [run_next st, decide_eq_true h, Bool.true_and]
    exact sch2' _ (by omega) (by omega)
  · rw [if_neg h] at st
    exact ⟨_, run_stop st, by rw [decide_eq_false h]; rfl⟩
theorem sch4 {a b c d : Int} (k : Int) (ha : -20000 ≤ a ∧ a ≤ 20000) (hb : -20000 ≤ b ∧ b ≤ 20000) (hc : -20000 ≤ c ∧ c ≤ 20000) (hd : -20000 ≤ d ∧ d ≤ 20000) : ∃ r, run filter_Schur_l1 ([a, b, c, d], k) = some r ∧ r.isLeft = S3 a b c d := by
  have st := sch_step (k := k) (l := [a, b, c, d]) (x := a) (y := d) rfl rfl (by simp) (by omega) (stepZ (n := 3) rfl (by omega) (by simp; omega))
  have e : (List.range 3).map (stZ [a, b, c, d] 3) = [a * a - d * d, a * b - d * c, a * c - d * b] := rfl
  rw [e] at st
  have m1 := mulb (A := 20000) (B := 20000) ha ha
  have m2 := mulb (A := 20000) (B := 20000) hd hd
  have m3 := mulb (A := 20000) (B := 20000) ha hb
  have m4 := mulb (A := 20000) (B := 20000) hd hc
  have m5 := mulb (A := 20000) (B := 20000) ha hc
  have m6 := mulb (A := 20000) (B := 20000) hd hb
  unfold S3
  by_cases h : (d.natAbs : Int) < a
  · rw [if_pos h, if_neg (by simp)] at st
    rw [run_next st, decide_eq_true h, Bool.true_and]
    exact sch3 _ (by omega) (by omega) (by omega)
  · rw [if_neg h] at st
    exact ⟨_, run_stop st, by rw [decide_eq_false h]; rfl⟩
theorem sch5 {a b c d e : Int} (k : Int) (ha : -100 ≤ a ∧ a ≤ 100) (hb : -100 ≤ b ∧ b ≤ 100) (hc : -100 ≤ c ∧ c ≤ 100) (hd : -100 ≤ d ∧ d ≤ 100) (he : -100 ≤ e ∧ e ≤ 100) : ∃ r, run filter_Schur_l1 ([a, b, c, d, e], k) = some r ∧ r.isLeft = S4 a b c d e := by
  have st := sch_step (k := k) (l := [a, b, c, d, e]) (x := a) (y := e) rfl rfl (by simp) (by omega) (stepZ (n := 4) rfl (by omega) (by simp; omega))
  have e' : (List.range 4).map (stZ [a, b, c, d, e] 4) = [a * a - e * e, a * b - e * d, a * c - e * c, a * d - e * b] := rfl
  rw [e'] at st
  have m1 := mulb (A := 100) (B := 100) ha ha
  have m2 := mulb (A := 100) (B := 100) he he
  have m3 := mulb (A := 100) (B := 100) ha hb
  have m4 := mulb (A := 100) (B := 100) he hd
  have m5 := mulb (A := 100) (B := 100) ha hc
  have m6 := mulb (A := 100) (B := 100) he hc
  have m7 := mulb (A := 100) (B := 100) ha hd
  have m8 := mulb (A := 100) (B := 100) he hb
  unfold S4
  by_cases h : (e.natAbs : Int) < a
  · rw [if_pos h, if_neg (by simp)] at st
    rw [run_next st, decide_eq_true h, Bool.true_and]
    exact sch4 _ (by omega) (by omega) (by omega) (by omega)
  · rw [if_neg h] at st
    exact ⟨_, run_stop st, by rw [decide_eq_false h]; rfl⟩
/-! ### all numbers of at most 6 in size -/
def st2 (a b : Int) : Bool := decide ((b.natAbs : Int) < 4) && decide ((a.natAbs : Int) < 4 + b)
def six : List Int := [-6, -5, -4, -3, -2, -1, 0, 1, 2, 3, 4, 5, 6]
def good (a b c d : Int) : Bool := S4 16 (4 * c + a * 4) (4 * d + a * c + b * 4) (a * d + b * c) (b * d) == (st2 a b && st2 c d)
theorem two_all : (six.all fun a => six.all fun b => S2 4 a b == st2 a b) = true := by decide +kernel
theorem four_all : (six.all fun a => six.all fun b => six.all fun c => six.all fun d => good a b c d) = true := by decide +kernel
theorem six_mem {a : Int} (h : -6 ≤ a ∧ a ≤ 6) : a ∈ six := by
  unfold six
  simp only [List.mem_cons, List.not_mem_nil, or_false]
  omega

theorem two_eq {a b : Int} (ha : -6 ≤ a ∧ a ≤ 6) (hb : -6 ≤ b ∧ b ≤ 6) : S2 4 a b = st2 a b := by
  have h := List.all_eq_true.1 (List.all_eq_true.1 two_all a (six_mem ha)) b (six_mem hb)
  exact eq_of_beq h
theorem four_eq {a b c d : Int} (ha : -6 ≤ a ∧ a ≤ 6) (hb : -6 ≤ b ∧ b ≤ 6) (hc : -6 ≤ c ∧ c ≤ 6) (hd : -6 ≤ d ∧ d ≤ 6) : S4 16 (4 * c + a * 4) (4 * d + a * c + b * 4) (a * d + b * c) (b * d) = (st2 a b && st2 c d) := by
  have h := List.all_eq_true.1 (List.all_eq_true.1 (List.all_eq_true.1 (List.all_eq_true.1 four_all a (six_mem ha)) b (six_mem hb)) c (six_mem hc)) d (six_mem hd)
  unfold good at h
  exact eq_of_beq h
theorem stab_st2 {a b : Int} (ha : -6 ≤ a ∧ a ≤ 6) (hb : -6 ≤ b ∧ b ≤ 6) : stabB (a * 4096) (b * 4096) = st2 a b := by
  unfold stabB st2
  have e1 : decide (((b * 4096).natAbs : Int) < 16384) = decide ((b.natAbs : Int) < 4) := by
    rw [decide_eq_decide]; omega
  have e2 : decide (((a * 4096).natAbs : Int) < 16384 + b * 4096) = decide ((a.natAbs : Int) < 4 + b) := by
    rw [decide_eq_decide]; omega
  rw [e1, e2]
theorem isSt {a b : Int} (ha : -6 ≤ a ∧ a ≤ 6) (hb : -6 ≤ b ∧ b ≤ 6) : filter_IsStable 16384 0 0 (a * 4096) (b * 4096) = some (st2 a b, 0) := by
  have hs : secB (16384, 0, 0, a * 4096, b * 4096) = true := secB_iff.2 ⟨by omega, by omega, by omega, by omega, by omega⟩
  rw [fIs_eq, if_pos hs, stab_st2 ha hb]
theorem copyI {l : List Int} (h : l.length ≤ 1024) : base_CopyInts l = some l := by
  unfold base_CopyInts appI
  rw [if_pos (by simp; omega)]
  rfl
theorem polOk {l : List Int} {x : Int} (hl : 2 ≤ l.length ∧ l.length ≤ 5) (h0 : getI l 0 = some x) (hx : 0 < x) (hb : ∀ y ∈ l, -100 ≤ y ∧ y ≤ 100) : filter_polynomialError l = some 0 := by
  unfold filter_polynomialError
  have hall : l.all (smallB 100) = true := by
    rw [List.all_eq_true]
    intro y hy
    unfold smallB
    rw [decide_eq_true_eq]
    exact hb y hy
  rw [if_neg (by rw [decide_eq_true_eq]; omega), refuse_eq, Option.bind_some]
  have e : decide ((l.length : Int) > 5) = false := by rw [decide_eq_false_iff_not]; omega
  have e2 : decide (x ≤ 0) = false := by rw [decide_eq_false_iff_not]; omega
  rw [e]
  simp only [Bool.false_eq_true, if_false, ne_eq, not_true, decide_false]
  rw [allSmall_eq _ (by omega) (by omega), if_pos hall, Option.bind_some, h0, Option.bind_some, refuse_eq, e2, Option.bind_some, first2]
  rfl
theorem fSch {l : List Int} {r : Int ⊕ Int} {s : Bool} (hp : filter_polynomialError l = some 0) (hr : run filter_Schur_l1 (l, 0) = some r) (hs : r.isLeft = s) : ∃ k, filter_Schur l = some (s, k, 0) := by
  unfold filter_Schur
  rw [hp, Option.bind_some, if_neg (by decide), hr, Option.bind_some]
  subst hs
  rcases r with r | r <;> exact ⟨_, rfl⟩
theorem sc2 {a b : Int} (ha : -6 ≤ a ∧ a ≤ 6) (hb : -6 ≤ b ∧ b ≤ 6) : ∃ k, filter_Schur [4, a, b] = some (st2 a b, k, 0) := by
  obtain ⟨r, r1, r2⟩ := sch3 (a := 4) (b := a) (c := b) 0 (by omega) (by omega) (by omega)
  refine fSch (polOk (x := 4) (by simp) rfl (by omega) ?_) r1 (by rw [r2, two_eq ha hb])
  intro y hy
  simp only [List.mem_cons, List.not_mem_nil, or_false] at hy
  rcases hy with rfl | rfl | rfl <;> omega
section
variable {a b c d : Int}
theorem l3_step {i k : Nat} {v : List Int} {x y z : Int} (hk : k < 3) (hi : i < 3) (hz : getI v ((i + k : Nat) : Int) = some z) (hx : getI ([4, a, b] : List Int) (i : Int) = some x) (hy : getI ([4, c, d] : List Int) (k : Int) = some y) (bx : -6 ≤ x ∧ x ≤ 6) (by_ : -6 ≤ y ∧ y ≤ 6) (bz : -1000 ≤ z ∧ z ≤ 1000) :
    top_TopStableSections_l3 a b c d i (v, (k : Int)) = some (.inl (v.set (i + k) (z + x * y), ((k + 1 : Nat) : Int))) := by
  have m := mulb (A := 6) (B := 6) bx by_
  dsimp only [top_TopStableSections_l3]
  rw [if_pos (by rw [decide_eq_true_eq]; omega), w64 (x := (i : Int) + k) (by omega), show (i : Int) + k = ((i + k : Nat) : Int) by omega, hz, Option.bind_some, hx, Option.bind_some, hy, Option.bind_some, w64 (x := x * y) (by omega), w64 (x := z + x * y) (by omega), wsucc (n := 3) (by omega) (by omega), Int.toNat_natCast]
theorem l3_end {i : Int} {v : List Int} : top_TopStableSections_l3 a b c d i (v, 3) = some (.inr v) := by
  dsimp only [top_TopStableSections_l3]
  rw [if_neg (by decide)]
theorem l3_run {i : Nat} {v : List Int} {x z0 z1 z2 : Int} (hi : i < 3) (hx : getI ([4, a, b] : List Int) (i : Int) = some x) (bx : -6 ≤ x ∧ x ≤ 6) (hc : -6 ≤ c ∧ c ≤ 6) (hd : -6 ≤ d ∧ d ≤ 6)
    (h0 : getI v ((i + 0 : Nat) : Int) = some z0) (h1 : getI (v.set (i + 0) (z0 + x * 4)) ((i + 1 : Nat) : Int) = some z1) (h2 : getI ((v.set (i + 0) (z0 + x * 4)).set (i + 1) (z1 + x * c)) ((i + 2 : Nat) : Int) = some z2)
    (b0 : -1000 ≤ z0 ∧ z0 ≤ 1000) (b1 : -1000 ≤ z1 ∧ z1 ≤ 1000) (b2 : -1000 ≤ z2 ∧ z2 ≤ 1000) :
    run (top_TopStableSections_l3 a b c d i) (v, 0) = some (((v.set (i + 0) (z0 + x * 4)).set (i + 1) (z1 + x * c)).set (i + 2) (z2 + x * d)) := by
  have s0 := l3_step (a := a) (b := b) (c := c) (d := d) (k := 0) (by omega) hi h0 hx rfl bx (by omega) b0
  have s1 := l3_step (a := a) (b := b) (c := c) (d := d) (k := 1) (by omega) hi h1 hx rfl bx hc b1
  have s2 := l3_step (a := a) (b := b) (c := c) (d := d) (k := 2) (by omega) hi h2 hx rfl bx hd b2
  exact (run_next s0).trans ((run_next s1).trans ((run_next s2).trans (run_stop l3_end)))
theorem l2_go {i : Nat} {v w : List Int} (hi : i < 3) (h : run (top_TopStableSections_l3 a b c d i) (v, 0) = some w) : top_TopStableSections_l2 a b c d (v, (i : Int)) = some (.inl (w, ((i + 1 : Nat) : Int))) := by
  dsimp only [top_TopStableSections_l2]
  rw [if_pos (by rw [decide_eq_true_eq]; omega), h, Option.bind_some, wsucc (n := 3) (by omega) (by omega)]
theorem l2_end {v : List Int} : top_TopStableSections_l2 a b c d (v, 3) = some (.inr v) := by
  dsimp only [top_TopStableSections_l2]
  rw [if_neg (by decide)]
theorem prod_run (ha : -6 ≤ a ∧ a ≤ 6) (hb : -6 ≤ b ∧ b ≤ 6) (hc : -6 ≤ c ∧ c ≤ 6) (hd : -6 ≤ d ∧ d ≤ 6) : run (top_TopStableSections_l2 a b c d) ([0, 0, 0, 0, 0], 0) = some [16, 4 * c + a * 4, 4 * d + a * c + b * 4, a * d + b * c, b * d] := by
  have m1 := mulb (A := 6) (B := 6) ha hc
  have m2 := mulb (A := 6) (B := 6) ha hd
  have m3 := mulb (A := 6) (B := 6) hb hc
  have m4 := mulb (A := 6) (B := 6) hb hd
  have r0 := l3_run (a := a) (b := b) (c := c) (d := d) (i := 0) (v := [0, 0, 0, 0, 0]) (x := 4) (z0 := 0) (z1 := 0) (z2 := 0) (by omega) rfl (by omega) hc hd rfl rfl rfl (by omega) (by omega) (by omega)
  have r1 := l3_run (a := a) (b := b) (c := c) (d := d) (i := 1) (v := [0 + 4 * 4, 0 + 4 * c, 0 + 4 * d, 0, 0]) (x := a) (z0 := 0 + 4 * c) (z1 := 0 + 4 * d) (z2 := 0) (by omega) rfl ha hc hd rfl rfl rfl (by omega) (by omega) (by omega)
  have r2 := l3_run (a := a) (b := b) (c := c) (d := d) (i := 2) (v := [0 + 4 * 4, 0 + 4 * c + a * 4, 0 + 4 * d + a * c, 0 + a * d, 0]) (x := b) (z0 := 0 + 4 * d + a * c) (z1 := 0 + a * d) (z2 := 0) (by omega) rfl hb hc hd rfl rfl rfl (by omega) (by omega) (by omega)
  have g0 := l2_go (i := 0) (by omega) r0
  have g1 := l2_go (i := 1) (by omega) r1
  have g2 := l2_go (i := 2) (by omega) r2
  have := (run_next g0).trans ((run_next g1).trans ((run_next g2).trans (run_stop l2_end)))
  refine this.trans ?_
  show some [0 + 4 * 4, 0 + 4 * c + a * 4, 0 + 4 * d + a * c + b * 4, 0 + a * d + b * c, 0 + b * d] = _
  simp only [Int.zero_add]
  rfl
theorem sc4 (ha : -6 ≤ a ∧ a ≤ 6) (hb : -6 ≤ b ∧ b ≤ 6) (hc : -6 ≤ c ∧ c ≤ 6) (hd : -6 ≤ d ∧ d ≤ 6) : ∃ k, filter_Schur [16, 4 * c + a * 4, 4 * d + a * c + b * 4, a * d + b * c, b * d] = some (st2 a b && st2 c d, k, 0) := by
  have m1 := mulb (A := 6) (B := 6) ha hc
  have m2 := mulb (A := 6) (B := 6) ha hd
  have m3 := mulb (A := 6) (B := 6) hb hc
  have m4 := mulb (A := 6) (B := 6) hb hd
  obtain ⟨r, r1, r2⟩ := sch5 (a := 16) (b := 4 * c + a * 4) (c := 4 * d + a * c + b * 4) (d := a * d + b * c) (e := b * d) 0 (by omega) (by omega) (by omega) (by omega) (by omega)
  refine fSch (polOk (x := 16) (by simp) rfl (by omega) ?_) r1 (by rw [r2, four_eq ha hb hc hd])
  intro y hy
  simp only [List.mem_cons, List.not_mem_nil, or_false] at hy
  rcases hy with rfl | rfl | rfl | rfl | rfl <;> omega
theorem unst (ha : -6 ≤ a ∧ a ≤ 6) (hb : -6 ≤ b ∧ b ≤ 6) (hc : -6 ≤ c ∧ c ≤ 6) (hd : -6 ≤ d ∧ d ≤ 6) : ∃ k e : Int, filter_FirstUnstable [(16384, 0, 0, a * 4096, b * 4096), (16384, 0, 0, c * 4096, d * 4096)] = some (k, e) ∧ (e = 0 ∨ e = 12) ∧ decide (e = 12) = (st2 a b && st2 c d) := by
  have s1 : secB (16384, 0, 0, a * 4096, b * 4096) = true := secB_iff.2 ⟨by omega, by omega, by omega, by omega, by omega⟩
  have s2 : secB (16384, 0, 0, c * 4096, d * 4096) = true := secB_iff.2 ⟨by omega, by omega, by omega, by omega, by omega⟩
  have hc0 : casE [(16384, 0, 0, a * 4096, b * 4096), (16384, 0, 0, c * 4096, d * 4096)] = (0, 0) := by
    unfold casE
    rw [if_neg (by simp)]
    unfold firstOr firstOr firstOr
    rw [s1, s2]
    rfl
  rw [funs_eq (by simp), hc0, if_pos rfl]
  unfold unsE firstOr firstOr firstOr
  simp only [stab_st2 ha hb, stab_st2 hc hd]
  cases st2 a b <;> cases st2 c d <;> exact ⟨_, _, rfl, by decide, rfl⟩
theorem core {s1 s2 : Bool} {k1 k2 k3 k4 e : Int} (w1 : base_Within a (-6) 6 = some true) (w2 : base_Within b (-6) 6 = some true) (w3 : base_Within c (-6) 6 = some true) (w4 : base_Within d (-6) 6 = some true)
    (x1 : IntKind.i64.wrap (a * 4096) = a * 4096) (x2 : IntKind.i64.wrap (b * 4096) = b * 4096) (x3 : IntKind.i64.wrap (c * 4096) = c * 4096) (x4 : IntKind.i64.wrap (d * 4096) = d * 4096)
    (p1 : appI 40 ([] : List (Int × Int × Int × Int × Int)) [(16384, 0, 0, a * 4096, b * 4096)] = some [(16384, 0, 0, a * 4096, b * 4096)]) (p2 : appI 40 ([(16384, 0, 0, a * 4096, b * 4096)] : List (Int × Int × Int × Int × Int)) [(16384, 0, 0, c * 4096, d * 4096)] = some [(16384, 0, 0, a * 4096, b * 4096), (16384, 0, 0, c * 4096, d * 4096)])
    (i1 : filter_IsStable 16384 0 0 (a * 4096) (b * 4096) = some (s1, 0)) (i2 : filter_IsStable 16384 0 0 (c * 4096) (d * 4096) = some (s2, 0)) (c1 : base_CopyInts [4, a, b] = some [4, a, b]) (c2 : base_CopyInts [4, c, d] = some [4, c, d])
    (f1 : filter_Schur [4, a, b] = some (s1, k1, 0)) (f2 : filter_Schur [4, c, d] = some (s2, k2, 0)) (m : mkI 8 5 (0 : Int) = some [0, 0, 0, 0, 0]) (l : List Int) (r : run (top_TopStableSections_l2 a b c d) ([0, 0, 0, 0, 0], 0) = some l)
    (f3 : filter_Schur l = some (s1 && s2, k3, 0)) (cc : ref06_Copy [(16384, 0, 0, a * 4096, b * 4096), (16384, 0, 0, c * 4096, d * 4096)] = some [(16384, 0, 0, a * 4096, b * 4096), (16384, 0, 0, c * 4096, d * 4096)])
    (u : filter_FirstUnstable [(16384, 0, 0, a * 4096, b * 4096), (16384, 0, 0, c * 4096, d * 4096)] = some (k4, e)) (he : e = 0 ∨ e = 12) (hd : decide (e = 12) = (s1 && s2)) : top_TopStableSections a b c d = some true := by
  have q : run top_TopStableSections_l1 () = some () := run_stop rfl
  have g1 : getI ([(16384, 0, 0, a * 4096, b * 4096)] : List (Int × Int × Int × Int × Int)) 0 = some (16384, 0, 0, a * 4096, b * 4096) := rfl
  have g2 : getI ([(16384, 0, 0, a * 4096, b * 4096), (16384, 0, 0, c * 4096, d * 4096)] : List (Int × Int × Int × Int × Int)) 1 = some (16384, 0, 0, c * 4096, d * 4096) := rfl
  unfold top_TopStableSections
  simp only [w1, w2, w3, w4, x1, x2, x3, x4, p1, p2, g1, g2, i1, i2, c1, c2, f1, f2, m, q, r, f3, cc, u, Option.bind_some, if_true, ne_eq, not_true, decide_false, Bool.false_eq_true, if_false, beq_self_eq_true, hd]
  rcases he with rfl | rfl
  · simp
  · simp at hd
    simp [hd]
end
theorem top_true (a b c d : Int) : top_TopStableSections a b c d = some true := by
  by_cases ha : -6 ≤ a ∧ a ≤ 6
  · by_cases hb : -6 ≤ b ∧ b ≤ 6
    · have w1 : base_Within a (-6) 6 = some true := by rw [within_eq, decide_eq_true ha]
      have w2 : base_Within b (-6) 6 = some true := by rw [within_eq, decide_eq_true hb]
      have x1 := w64 (x := a * 4096) (by omega)
      have x2 := w64 (x := b * 4096) (by omega)
      have p1 : appI 40 ([] : List (Int × Int × Int × Int × Int)) [(16384, 0, 0, a * 4096, b * 4096)] = some [(16384, 0, 0, a * 4096, b * 4096)] := appI_one (by simp) (by omega)
      have c1 := copyI (l := [4, a, b]) (by simp)
      obtain ⟨k1, f1⟩ := sc2 ha hb
      have i1 := isSt ha hb
      have g1 : getI ([(16384, 0, 0, a * 4096, b * 4096)] : List (Int × Int × Int × Int × Int)) 0 = some (16384, 0, 0, a * 4096, b * 4096) := rfl
      by_cases hc : -6 ≤ c ∧ c ≤ 6
      · by_cases hd : -6 ≤ d ∧ d ≤ 6
        · obtain ⟨k2, f2⟩ := sc2 hc hd
          obtain ⟨k3, f3⟩ := sc4 ha hb hc hd
          obtain ⟨k4, e, u1, u2, u3⟩ := unst ha hb hc hd
          refine core w1 w2 (by rw [within_eq, decide_eq_true hc]) (by rw [within_eq, decide_eq_true hd]) x1 x2 (w64 (by omega)) (w64 (by omega)) p1 (appI_one (by simp) (by omega)) i1 (isSt hc hd) c1 (copyI (by simp)) f1 f2 (by unfold mkI; rw [if_pos (by omega)]; rfl) _ (prod_run ha hb hc hd) f3 (copy_eq (by simp)) u1 u2 u3
        · have w3 : base_Within c (-6) 6 = some true := by rw [within_eq, decide_eq_true hc]
          have w4 : base_Within d (-6) 6 = some false := by rw [within_eq, decide_eq_false hd]
          unfold top_TopStableSections
          simp only [w1, w2, w3, w4, x1, x2, p1, g1, i1, c1, f1, Option.bind_some, if_true, ne_eq, not_true, decide_false, Bool.false_eq_true, if_false, beq_self_eq_true]
      · have w3 : base_Within c (-6) 6 = some false := by rw [within_eq, decide_eq_false hc]
        unfold top_TopStableSections
        simp only [w1, w2, w3, x1, x2, p1, g1, i1, c1, f1, Option.bind_some, if_true, ne_eq, not_true, decide_false, Bool.false_eq_true, if_false, beq_self_eq_true]
    · have w1 : base_Within a (-6) 6 = some true := by rw [within_eq, decide_eq_true ha]
      have w2 : base_Within b (-6) 6 = some false := by rw [within_eq, decide_eq_false hb]
      unfold top_TopStableSections
      simp only [w1, w2, Option.bind_some, if_true, Bool.false_eq_true, if_false]
  · have w1 : base_Within a (-6) 6 = some false := by rw [within_eq, decide_eq_false ha]
    unfold top_TopStableSections
    simp only [w1, Option.bind_some, Bool.false_eq_true, if_false]
end Go.Rex

namespace Go.Rex
open Go Go.ChangeShapes Go.WideShapes Go.ChangeAt Go.RowKit Go.Joins Go.Proofs
/-! ### arguments: what they are as trees, and the names of their blocks -/
structure Arg (W : World) (v' : Value) (p : TV) (bs : List Blk) (is : List Info) (av : Nat → Value) : Prop where
  vr : ∀ (D : Nat → Prop) (m : NMap) n, (∀ j, j < bs.length → D (n + j)) → (∀ (j : Nat) i, is[j]? = some i → m (n + j) = i) → VR D m (av n) v'
  vl : ∀ (Fz : Nat → Prop) (h : List Blk) n, (∀ j, j < bs.length → Fz (n + j)) → (∀ (j : Nat) b, bs[j]? = some b → h[n + j]? = some b) → VL Fz h noL p (av n)
  ok : ∀ (D : Nat → Prop) (m : NMap) n, (∀ j, j < bs.length → D (n + j)) → (∀ (j : Nat) i, is[j]? = some i → m (n + j) = i) → ∀ (j : Nat) b, bs[j]? = some b → BlkOk D m W (n + j) b
  lt : ∀ (j : Nat) b i, bs[j]? = some b → is[j]? = some i → b ≠ .dead → i.block < W.heap.size
  len : is.length = bs.length
structure Args (W : World) (vs' : List Value) (ps : List TV) (bs : List Blk) (is : List Info) (av : Nat → List Value) : Prop where
  vr : ∀ (D : Nat → Prop) (m : NMap) n, (∀ j, j < bs.length → D (n + j)) → (∀ (j : Nat) i, is[j]? = some i → m (n + j) = i) → VRs D m (av n) vs'
  vl : ∀ (Fz : Nat → Prop) (h : List Blk) n, (∀ j, j < bs.length → Fz (n + j)) → (∀ (j : Nat) b, bs[j]? = some b → h[n + j]? = some b) → VLs Fz h noL ps (av n)
  ok : ∀ (D : Nat → Prop) (m : NMap) n, (∀ j, j < bs.length → D (n + j)) → (∀ (j : Nat) i, is[j]? = some i → m (n + j) = i) → ∀ (j : Nat) b, bs[j]? = some b → BlkOk D m W (n + j) b
  lt : ∀ (j : Nat) b i, bs[j]? = some b → is[j]? = some i → b ≠ .dead → i.block < W.heap.size
  len : is.length = bs.length
theorem Args.nil (W : World) : Args W [] [] [] [] (fun _ => []) :=
  ⟨fun _ _ _ _ _ => ⟨rfl, fun i a a' h => by simp at h⟩, fun _ _ _ _ _ => .nil, fun _ _ _ _ _ j b h => by simp at h, fun j b i h => by simp at h, rfl⟩
theorem Args.cons {W : World} {v' : Value} {p : TV} {bs bs2 : List Blk} {is is2 : List Info} {av : Nat → Value} {vs' : List Value} {ps : List TV} {avs : Nat → List Value}
    (a : Arg W v' p bs is av) (as : Args W vs' ps bs2 is2 avs) : Args W (v' :: vs') (p :: ps) (bs ++ bs2) (is ++ is2) (fun n => av n :: avs (n + bs.length)) := by
  have cD : ∀ (D : Nat → Prop) n, (∀ j, j < (bs ++ bs2).length → D (n + j)) → (∀ j, j < bs.length → D (n + j)) ∧ (∀ j, j < bs2.length → D (n + bs.length + j)) := by
    intro D n h
    refine ⟨fun j hj => h j (by simp; omega), fun j hj => ?_⟩
    have := h (bs.length + j) (by simp; omega)
    rwa [← Nat.add_assoc] at this
  have cI : ∀ (m : NMap) n, (∀ (j : Nat) i, (is ++ is2)[j]? = some i → m (n + j) = i) → (∀ (j : Nat) i, is[j]? = some i → m (n + j) = i) ∧ (∀ (j : Nat) i, is2[j]? = some i → m (n + bs.length + j) = i) := by
    intro m n h
    refine ⟨fun j i hj => h j i (by rw [List.getElem?_append_left (List.getElem?_eq_some_iff.1 hj).1]; exact hj), fun j i hj => ?_⟩
    have := h (bs.length + j) i (by rw [List.getElem?_append_right (by rw [a.len]; omega), a.len, Nat.add_sub_cancel_left]; exact hj)
    rwa [← Nat.add_assoc] at this
  refine ⟨fun D m n hD hm => ?_, fun Fz h n hF hh => ?_, fun D m n hD hm j b hb => ?_, fun j b i hb hi hd => ?_, by simp [a.len, as.len]⟩
  · have h1 := a.vr D m n (cD D n hD).1 (cI m n hm).1
    have h2 := as.vr D m (n + bs.length) (cD D n hD).2 (cI m n hm).2
    refine ⟨by simp [h2.len], fun i x x' hx hx' => ?_⟩
    cases i with
    | zero => simp at hx hx'; subst hx hx'; exact h1
    | succ i => simp at hx hx'; exact h2.at' i x x' hx hx'
  · refine .cons (a.vl Fz h n (cD Fz n hF).1 fun j b hb => hh j b (by rw [List.getElem?_append_left (List.getElem?_eq_some_iff.1 hb).1]; exact hb)) (as.vl Fz h (n + bs.length) (cD Fz n hF).2 fun j b hb => ?_)
    have := hh (bs.length + j) b (by rw [List.getElem?_append_right (by omega), Nat.add_sub_cancel_left]; exact hb)
    rwa [← Nat.add_assoc] at this
  · rcases Nat.lt_or_ge j bs.length with hj | hj
    · rw [List.getElem?_append_left hj] at hb
      exact a.ok D m n (cD D n hD).1 (cI m n hm).1 j b hb
    · rw [List.getElem?_append_right hj] at hb
      have := as.ok D m (n + bs.length) (cD D n hD).2 (cI m n hm).2 _ b hb
      rwa [show n + bs.length + (j - bs.length) = n + j by omega] at this
  · rcases Nat.lt_or_ge j bs.length with hj | hj
    · rw [List.getElem?_append_left hj] at hb
      rw [List.getElem?_append_left (by rw [a.len]; exact hj)] at hi
      exact a.lt j b i hb hi hd
    · rw [List.getElem?_append_right hj] at hb
      rw [List.getElem?_append_right (by rw [a.len]; exact hj), a.len] at hi
      exact as.lt _ b i hb hi hd
/-- the names of the arguments -/
def nm (is : List Info) : NMap := fun n => is.getD n ⟨0, 0, 0, 0⟩
theorem nm_at {is : List Info} {j : Nat} {i : Info} (h : is[j]? = some i) : nm is (0 + j) = i := by
  unfold nm
  rw [Nat.zero_add, List.getD_eq_getElem?_getD, h]
  rfl
section
variable {W : World} {vs' : List Value} {ps : List TV} {bs : List Blk} {is : List Info} {av : Nat → List Value}
theorem Args.rel (a : Args W vs' ps bs is av) : Rel W.heap.size bs.length (fun k => k < bs.length) (nm is) bs W := by
  refine ⟨Nat.le_refl _, fun _ h => h, fun n b hn hb => ?_, fun n b hn hb hd => ?_, fun n b hD hl => absurd hD (by omega), fun n b hn _ hb hd => ?_, fun n b hD hl => absurd hD (by omega), fun n n' b b' hD _ hl => absurd hD (by omega)⟩
  · have := a.ok (fun k => k < bs.length) (nm is) 0 (fun j hj => by omega) (fun j i hi => nm_at hi) n b hb
    rwa [Nat.zero_add] at this
  all_goals
    have hi : n < is.length := by rw [a.len]; exact hn
    have e := nm_at (List.getElem?_eq_getElem hi)
    rw [Nat.zero_add] at e
    rw [e]
    exact a.lt n b _ hb (List.getElem?_eq_getElem hi) hd
theorem Args.vls (a : Args W vs' ps bs is av) : VLs (fun k => k < bs.length) bs noL ps (av 0) := a.vl _ _ 0 (fun j hj => by omega) (fun j b hb => by rw [Nat.zero_add]; exact hb)
theorem Args.vrs (a : Args W vs' ps bs is av) : VRs (fun k => k < bs.length) (nm is) (av 0) vs' := a.vr _ _ 0 (fun j hj => by omega) (fun j i hi => nm_at hi)
end
theorem len1 {α : Type} {l : List α} (h : l.length = 1) : ∃ x0, l = [x0] := by
  match l, h with
  | [x0], _ => exact ⟨_, rfl⟩
theorem len2 {α : Type} {l : List α} (h : l.length = 2) : ∃ x0 x1, l = [x0, x1] := by
  match l, h with
  | [x0, x1], _ => exact ⟨_, _, rfl⟩
theorem len3 {α : Type} {l : List α} (h : l.length = 3) : ∃ x0 x1 x2, l = [x0, x1, x2] := by
  match l, h with
  | [x0, x1, x2], _ => exact ⟨_, _, _, rfl⟩
theorem len4 {α : Type} {l : List α} (h : l.length = 4) : ∃ x0 x1 x2 x3, l = [x0, x1, x2, x3] := by
  match l, h with
  | [x0, x1, x2, x3], _ => exact ⟨_, _, _, _, rfl⟩
theorem len5 {α : Type} {l : List α} (h : l.length = 5) : ∃ x0 x1 x2 x3 x4, l = [x0, x1, x2, x3, x4] := by
  match l, h with
  | [x0, x1, x2, x3, x4], _ => exact ⟨_, _, _, _, _, rfl⟩
theorem len6 {α : Type} {l : List α} (h : l.length = 6) : ∃ x0 x1 x2 x3 x4 x5, l = [x0, x1, x2, x3, x4, x5] := by
  match l, h with
  | [x0, x1, x2, x3, x4, x5], _ => exact ⟨_, _, _, _, _, _, rfl⟩
theorem len7 {α : Type} {l : List α} (h : l.length = 7) : ∃ x0 x1 x2 x3 x4 x5 x6, l = [x0, x1, x2, x3, x4, x5, x6] := by
  match l, h with
  | [x0, x1, x2, x3, x4, x5, x6], _ => exact ⟨_, _, _, _, _, _, _, rfl⟩
theorem len8 {α : Type} {l : List α} (h : l.length = 8) : ∃ x0 x1 x2 x3 x4 x5 x6 x7, l = [x0, x1, x2, x3, x4, x5, x6, x7] := by
  match l, h with
  | [x0, x1, x2, x3, x4, x5, x6, x7], _ => exact ⟨_, _, _, _, _, _, _, _, rfl⟩
theorem len9 {α : Type} {l : List α} (h : l.length = 9) : ∃ x0 x1 x2 x3 x4 x5 x6 x7 x8, l = [x0, x1, x2, x3, x4, x5, x6, x7, x8] := by
  match l, h with
  | [x0, x1, x2, x3, x4, x5, x6, x7, x8], _ => exact ⟨_, _, _, _, _, _, _, _, _, rfl⟩
theorem len10 {α : Type} {l : List α} (h : l.length = 10) : ∃ x0 x1 x2 x3 x4 x5 x6 x7 x8 x9, l = [x0, x1, x2, x3, x4, x5, x6, x7, x8, x9] := by
  match l, h with
  | [x0, x1, x2, x3, x4, x5, x6, x7, x8, x9], _ => exact ⟨_, _, _, _, _, _, _, _, _, _, rfl⟩
/-! ### arguments without names -/
def AtomV (c : Value) : Prop := isAtom c = true ∧ ∀ D m, VR D m c c
theorem atomV_int (k : IntKind) (n : Int) : AtomV (.int k n) := ⟨rfl, fun _ _ => .int _ _⟩
theorem Arg.atom {W : World} {v : Value} (h : AtomV v) : Arg W v (.v v) [] [] (fun _ => v) :=
  ⟨fun _ _ _ _ _ => h.2 _ _, fun _ _ _ _ _ => .v _ _ h.1, fun _ _ _ _ _ j b h => by simp at h, fun j b i h => by simp at h, rfl⟩
theorem Arg.agg {W : World} {l : List Value} (h : ∀ c ∈ l, AtomV c) : Arg W (.agg ⟨l⟩) (.agg (l.map .v)) [] [] (fun _ => .agg ⟨l⟩) := by
  refine ⟨fun _ _ _ _ _ => .agg _ _ rfl fun i v v' hv hv' => ?_, fun _ _ _ _ _ => .agg _ _ _ (by simp) fun i p x hp hx => ?_, fun _ _ _ _ _ j b h => by simp at h, fun j b i h => by simp at h, rfl⟩
  · obtain rfl : v = v' := Option.some.inj (hv.symm.trans hv')
    exact (h v (List.mem_of_getElem? hv)).2 _ _
  · rw [List.getElem?_map, hx] at hp
    obtain rfl := Option.some.inj hp
    exact .v _ _ (h x (List.mem_of_getElem? hx)).1
/-! ### a slice of rows -/
theorem flatMap_at {α β : Type} {g : α → List β} {es : Nat} (hg : ∀ x, (g x).length = es) (he : 0 < es) : ∀ (xs : List α) i, (xs.flatMap g)[i]? = (xs[i / es]?).bind fun x => (g x)[i % es]?
  | [], i => by simp
  | x :: t, i => by
    rw [List.flatMap_cons]
    rcases Nat.lt_or_ge i es with h | h
    · rw [List.getElem?_append_left (by rw [hg]; exact h), Nat.div_eq_of_lt h, Nat.mod_eq_of_lt h]
      rfl
    · rw [List.getElem?_append_right (by rw [hg]; exact h), hg, flatMap_at hg he t (i - es)]
      have e1 : i / es = (i - es) / es + 1 := by rw [Nat.div_eq_sub_div he h]
      have e2 : i % es = (i - es) % es := Nat.mod_eq_sub_mod h
      rw [e1, e2]
      rfl
theorem flatMap_len {α β : Type} {g : α → List β} {es : Nat} (hg : ∀ x, (g x).length = es) : ∀ (xs : List α), (xs.flatMap g).length = xs.length * es
  | [] => by simp
  | x :: t => by rw [List.flatMap_cons, List.length_append, hg, flatMap_len hg t, List.length_cons, Nat.add_mul]; omega
theorem flatMap_map {α : Type} {f : α → List TV} {g : α → List Value} (hf : ∀ x, f x = (g x).map .v) : ∀ (xs : List α), (xs.map f).flatten = (xs.flatMap g).map .v
  | [] => rfl
  | x :: t => by rw [List.map_cons, List.flatten_cons, flatMap_map hf t, List.flatMap_cons, List.map_append, hf]
theorem choose_list {α : Type} {Q : Nat → α → Prop} : ∀ n, (∀ i, i < n → ∃ x, Q i x) → ∃ xs : List α, xs.length = n ∧ ∀ (i : Nat) x, xs[i]? = some x → Q i x
  | 0, _ => ⟨[], rfl, fun i x h => by simp at h⟩
  | n + 1, h => by
    obtain ⟨xs, hl, hq⟩ := choose_list n (fun i hi => h i (by omega))
    obtain ⟨x, hx⟩ := h n (by omega)
    refine ⟨xs ++ [x], by simp [hl], fun i y hy => ?_⟩
    rcases Nat.lt_or_ge i n with hi | hi
    · rw [List.getElem?_append_left (by omega)] at hy
      exact hq i y hy
    · rw [List.getElem?_append_right (by omega), hl] at hy
      have : i = n := by
        rcases Nat.lt_or_ge 0 (i - n) with g | g
        · rw [List.getElem?_eq_none (by simp; omega)] at hy; cases hy
        · omega
      subst this
      simp at hy
      subst hy
      exact hx
section
variable {H : Type} {enc : TypeId × Value → H} {W : World} {base : Nat} {spare : Nat → Bool} {held : Bool}
theorem open_rows {α : Type} {f : α → List TV} {g : α → List Value} {es : Nat} (he : 0 < es) (hf : ∀ x, f x = (g x).map .v) (hg : ∀ x, (g x).length = es) (hat : ∀ x, ∀ c ∈ g x, AtomV c)
    {P : Program} {t te : TypeId} (ht : P.underlying t = some (.slice te)) (hC : P.cellsOf te = es) {r : Reach} {b0 : Nat} {v' : Value} (hval : Value.okWide P W r b0 t v')
    (elem : ∀ n cs y, DataW.trod enc P W base spare held n te cs = some y → cs.length = es → ∃ x : α, cs = g x)
    {fuel : Nat} {x : DataW H × List MemPlace} (h : DataW.trod enc P W base spare held fuel t [v'] = some x) : ∃ (xs : List α) (bs : List Blk) (is : List Info) (av : Nat → Value), Arg W v' (.list es (xs.map f)) bs is av := by
  rcases DataW.trod_slice ht h with ⟨hv, _⟩ | ⟨a, len, cap, elems, rest, n, _, hv, _, hb, hlc, hcm, hel, hel2, _, _⟩
  · obtain rfl : v' = .slice none 0 0 := by simpa using hv
    exact ⟨[], [], [], fun _ => .slice none 0 0, fun _ _ _ _ _ => .nilSlice 0 0, fun _ _ _ _ _ => .nillist _ _, fun _ _ _ _ _ j b h => by simp at h, fun j b i h => by simp at h, rfl⟩
  · obtain rfl : v' = .slice (some a) len cap := by simpa using hv
    have hok : len ≤ cap ∧ (cap : Int) ≤ IntKind.i64.max ∧ W.has P r b0 a te cap := by
      unfold Value.okWide at hval
      simp only [ht] at hval
      unfold Cell.okWide at hval
      simp only [ht] at hval
      unfold Cell.ok at hval
      simpa only [ht] using hval
    obtain ⟨gb, o, s⟩ := a
    obtain ⟨_, _, _, hs, row, cells, hsh, _⟩ := hok
    simp only at hs hsh
    subst hs
    have hgb : gb < W.heap.size := by
      unfold World.shape? at hsh
      rcases Nat.lt_or_ge gb W.heap.size with hg | hg
      · exact hg
      · rw [Array.getElem?_eq_none hg] at hsh
        simp at hsh
    have key : ∀ i, i < len → ∃ x : α, ∀ j, j < es → W.cell? ⟨gb, o + i * es + j, none⟩ = (g x)[j]? := fun i hi => by
      have h1 := hel2 i hi
      rw [List.getElem?_eq_getElem (by omega), Option.bind_eq_some_iff] at h1
      obtain ⟨cs, hcs, htr⟩ := h1
      rw [hC] at hcs
      unfold World.cells? at hcs
      split at hcs
      · have hlen := mapM_some_length hcs
        simp at hlen
        obtain ⟨x, rfl⟩ := elem n cs _ htr hlen
        refine ⟨x, fun j hj => ?_⟩
        have := mapM_some_get hcs j j (by simp [hj])
        have e : ((⟨gb, o, none⟩ : Addr).add (i * es)).add j = ⟨gb, o + i * es + j, none⟩ := by
          unfold Addr.add
          split <;> split <;> simp_all
        rw [← e]
        exact this
      · cases hcs
    obtain ⟨xs, hl, hq⟩ := choose_list len key
    subst hl
    have hlen := flatMap_len hg xs
    have hfl := flatMap_map hf xs
    refine ⟨xs, [.cells es (xs.flatMap g)], [⟨gb, o, cap * es, es⟩], fun n => .slice (some ⟨n, 0, none⟩) xs.length xs.length, fun D m n hD hm => ?_, fun Fz h n hF hh => ?_, fun D m n hD hm j b hb => ?_, fun j b i hb hi hd => ?_, rfl⟩
    · have e := hm 0 _ rfl
      rw [Nat.add_zero] at e
      have := VR.slice (D := D) (m := m) n 0 xs.length xs.length cap (hD 0 (by simp)) (Nat.le_refl _) hlc (.inr (by rw [e]; simp))
      rw [e] at this
      exact this
    · have hw : ∀ r ∈ xs.map f, r.length = es := fun r hr => by obtain ⟨x, _, rfl⟩ := List.mem_map.1 hr; rw [hf, List.length_map, hg]
      have := VL.list (Fz := Fz) (h := h) noL es (xs.map f) n 0 xs.length (xs.flatMap g) es (hF 0 (by simp)) (hh 0 _ rfl) (.inl rfl) hw (by simp) (by rw [List.length_map, hlen]; omega) (fun j p x hp hx => by
        rw [hfl, List.getElem?_map, Option.map_eq_some_iff] at hp
        rw [Nat.zero_add] at hx
        obtain ⟨y, h1, rfl⟩ := hp
        obtain rfl : y = x := Option.some.inj (h1.symm.trans hx)
        obtain ⟨z, _, hz⟩ := List.mem_flatMap.1 (List.mem_of_getElem? hx)
        exact .v _ _ (hat z y hz).1)
      rw [List.length_map] at this
      exact this
    · match j, hb with
      | 0, hb =>
        obtain rfl := Option.some.inj hb
        have e := hm 0 _ rfl
        rw [Nat.add_zero] at e ⊢
        refine ⟨by rw [e], fun i v hv => ⟨v, ?_, ?_⟩⟩
        · rw [flatMap_at hg he, Option.bind_eq_some_iff] at hv
          obtain ⟨x, hx, hv⟩ := hv
          rw [e]
          have := hq _ x hx (i % es) (Nat.mod_lt _ he)
          rw [Nat.add_assoc, Nat.mul_comm, Nat.div_add_mod] at this
          rw [this]
          exact hv
        · obtain ⟨z, _, hz⟩ := List.mem_flatMap.1 (List.mem_of_getElem? hv)
          exact (hat z v hz).2 _ _
      | j + 1, hb => simp at hb
    · match j, hb, hi with
      | 0, hb, hi => obtain rfl := Option.some.inj hi
                     exact hgb
      | j + 1, hb, hi => simp at hb
/-! ### aggregates of ints -/
def AI (cs : List Value) : Prop := ∀ c ∈ cs, ∃ n : Int, c = .int .i64 n
theorem AI.list {cs : List Value} (h : AI cs) : ∃ l : List Int, cs = l.map (.int .i64) := by
  induction cs with
  | nil => exact ⟨[], rfl⟩
  | cons c t ih =>
    obtain ⟨n, rfl⟩ := h c (by simp)
    obtain ⟨l, rfl⟩ := ih fun c hc => h c (by simp [hc])
    exact ⟨n :: l, rfl⟩
variable {P : Program}
theorem ai_int {te : TypeId} (ht : P.underlying te = some (.int .i64)) {fuel : Nat} {cs : List Value} {x : DataW H × List MemPlace} (h : DataW.trod enc P W base spare held fuel te cs = some x) : AI cs := by
  obtain ⟨n, rfl, _⟩ := DataW.trod_int ht h
  exact fun c hc => ⟨n, by simpa using hc⟩
theorem ai_arr {t e : TypeId} {m k : Nat} (ht : P.underlying t = some (.array m e)) (hk : P.cellsOf e = k) (hk0 : 0 < k) (hc : P.cellsOf t = m * k) (he : ∀ n cs y, DataW.trod enc P W base spare held n e cs = some y → AI cs)
    {fuel : Nat} {cs : List Value} {x : DataW H × List MemPlace} (h : DataW.trod enc P W base spare held fuel t cs = some x) : AI cs := by
  obtain ⟨xs, n, _, _, hl, hx, hi⟩ := DataW.trod_array ht h
  intro c hcm
  obtain ⟨j, hj, rfl⟩ := List.mem_iff_getElem.1 hcm
  rw [hl, hc] at hj
  have hd : j / k < m := (Nat.div_lt_iff_lt_mul hk0).2 hj
  have h1 := hi _ hd
  rw [List.getElem?_eq_getElem (by omega), hk] at h1
  refine he _ _ _ h1 _ ?_
  refine List.mem_of_getElem? (i := j % k) ?_
  rw [List.getElem?_take, if_pos (Nat.mod_lt _ hk0), List.getElem?_drop, Nat.mul_comm, Nat.div_add_mod, List.getElem?_eq_getElem]
theorem ai_struct {t : TypeId} {fs : Array Field} (ht : P.underlying t = some (.struct fs)) (hcov : ((List.range (P.cellsOf t)).all fun j => fs.toList.any fun f => decide (f.offset ≤ j) && decide (j < f.offset + P.cellsOf f.type)) = true) (he : ∀ f ∈ fs.toList, ∀ n cs y, DataW.trod enc P W base spare held n f.type cs = some y → AI cs)
    {fuel : Nat} {cs : List Value} {x : DataW H × List MemPlace} (h : DataW.trod enc P W base spare held fuel t cs = some x) : AI cs := by
  obtain ⟨xs, n, _, _, hl, hx, hi⟩ := DataW.trod_struct ht h
  intro c hcm
  obtain ⟨j, hj, rfl⟩ := List.mem_iff_getElem.1 hcm
  rw [hl] at hj
  have := List.all_eq_true.1 hcov j (by simpa using hj)
  obtain ⟨f, hf, hf2⟩ := List.any_eq_true.1 this
  simp only [Bool.and_eq_true, decide_eq_true_eq] at hf2
  obtain ⟨i, hil, hif⟩ := List.mem_iff_getElem.1 hf
  have hfi : fs[i]? = some f := by rw [← Array.getElem?_toList, List.getElem?_eq_getElem hil, hif]
  have h1 := hi i f hfi
  have hil2 : i < fs.size := by simpa using hil
  rw [List.getElem?_eq_getElem (by omega)] at h1
  refine he f hf _ _ _ h1 _ ?_
  refine List.mem_of_getElem? (i := j - f.offset) ?_
  rw [List.getElem?_take, if_pos (by omega), List.getElem?_drop, show f.offset + (j - f.offset) = j by omega, List.getElem?_eq_getElem]
theorem okW_int {t : TypeId} (ht : P.underlying t = some (.int .i64)) {r : Reach} {b : Nat} {v : Value} (w : Cell.okWide P W r b t v) : ∃ n : Int, v = .int .i64 n := by
  unfold Cell.okWide at w
  simp only [ht] at w
  unfold Cell.ok at w
  simp only [ht] at w
  cases v <;> first | exact ⟨_, by rw [w.1]⟩ | exact absurd w (by simp)
theorem open_int {t : TypeId} (ht : P.underlying t = some (.int .i64)) {r : Reach} {b : Nat} {v : Value} (w : Value.okWide P W r b t v) : ∃ n : Int, v = .int .i64 n := by
  unfold Value.okWide at w
  simp only [ht] at w
  exact okW_int ht w
theorem open_sti {t ti : TypeId} {fs : Array Field} {n : Nat} (ht : P.underlying t = some (.struct fs)) (hti : P.underlying ti = some (.int .i64)) (hct : P.cellTypes P.depth t = some (List.replicate n ti)) (hn : P.cellsOf t = n)
    {r : Reach} {b : Nat} {v : Value} (w : Value.okWide P W r b t v) : ∃ l : List Int, l.length = n ∧ v = .agg ⟨l.map (.int .i64)⟩ := by
  unfold Value.okWide at w
  simp only [ht] at w
  obtain ⟨cs, rfl, hs, ts, hts, _, hc⟩ := w
  rw [hct] at hts
  obtain rfl := Option.some.inj hts
  obtain ⟨l⟩ := cs
  have : AI l := by
    intro c hcm
    obtain ⟨j, hj, rfl⟩ := List.mem_iff_getElem.1 hcm
    obtain ⟨u, hu, hok⟩ := hc j l[j] (by simp)
    have := List.eq_of_mem_replicate (List.mem_of_getElem? hu)
    subst this
    exact okW_int hti hok
  obtain ⟨l', rfl⟩ := this.list
  refine ⟨l', ?_, rfl⟩
  simpa [hn] using hs
theorem open_ari {t ti e : TypeId} {k n : Nat} (ht : P.underlying t = some (.array k e)) (hti : P.underlying ti = some (.int .i64)) (hct : P.cellTypes P.depth t = some (List.replicate n ti)) (hn : P.cellsOf t = n)
    {r : Reach} {b : Nat} {v : Value} (w : Value.okWide P W r b t v) : ∃ l : List Int, l.length = n ∧ v = .agg ⟨l.map (.int .i64)⟩ := by
  unfold Value.okWide at w
  simp only [ht] at w
  obtain ⟨cs, rfl, hs, ts, hts, _, hc⟩ := w
  rw [hct] at hts
  obtain rfl := Option.some.inj hts
  obtain ⟨l⟩ := cs
  have : AI l := by
    intro c hcm
    obtain ⟨j, hj, rfl⟩ := List.mem_iff_getElem.1 hcm
    obtain ⟨u, hu, hok⟩ := hc j l[j] (by simp)
    have := List.eq_of_mem_replicate (List.mem_of_getElem? hu)
    subst this
    exact okW_int hti hok
  obtain ⟨l', rfl⟩ := this.list
  refine ⟨l', ?_, rfl⟩
  simpa [hn] using hs
theorem arg_ints (l : List Int) : Arg W (.agg ⟨l.map (.int .i64)⟩) (.agg (l.map fun x => .v (.int .i64 x))) [] [] (fun _ => .agg ⟨l.map (.int .i64)⟩) := by
  have := Arg.agg (W := W) (l := l.map (.int .i64)) fun c hc => by obtain ⟨x, _, rfl⟩ := List.mem_map.1 hc; exact atomV_int _ _
  rwa [List.map_map] at this
end
end Go.Rex
