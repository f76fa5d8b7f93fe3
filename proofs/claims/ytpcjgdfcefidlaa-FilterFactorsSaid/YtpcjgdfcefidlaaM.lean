/- What these functions return: facts on lists and numbers. -/
import Derived.Test.YtpcjgdfcefidlaaRexG6
import Derived.Test.YtpcjgdfcefidlaaS
import Derived.Test.YtpcjgdfcefidlaaRexG7
import Derived.ProofKit
import Derived.OpenShut
import Derived.ShutString
import Derived.ChangeOld
import Derived.Below
import Derived.Lib.SmallJoins
import Derived.ChangeShapes
import Derived.ChangeArms
import Derived.WideShapes
set_option linter.unusedSimpArgs false
set_option linter.unusedVariables false
set_option linter.defProp false
namespace Go.Rex
/-! ### plain facts for shallow functions -/
theorem w64 {x : Int} (h : -9223372036854775808 ≤ x ∧ x ≤ 9223372036854775807) : IntKind.i64.wrap x = x := IntWalk.i64_in x (by omega)
theorem getI_nat {α : Type} {xs : List α} {k : Nat} : getI xs (k : Int) = xs[k]? := by
  unfold getI
  rw [if_pos (by omega), Int.toNat_natCast]
theorem getI_of {α : Type} {xs : List α} {i : Int} {k : Nat} (h : i = (k : Int)) : getI xs i = xs[k]? := by subst h; exact getI_nat
theorem appI_one {α : Type} {b : Nat} {xs : List α} {y : α} (h : xs.length < 2 ^ 40) (hb : b ≤ 128) : appI b xs [y] = some (xs ++ [y]) := by
  unfold appI
  rw [if_pos]
  refine ⟨by simp; omega, ?_⟩
  have h1 : (xs.length + [y].length) * b ≤ 2 ^ 40 * 128 := Nat.mul_le_mul (by simp; omega) hb
  omega
end Go.Rex

namespace Go.Rex
/-! ### loops that look for the first one of a list -/
def firstOr {α ε : Type} (P : α → Bool) (ex : Nat → α → ε) (en : ε) : Nat → List α → ε
  | _, [] => en
  | k, x :: t => if P x = true then ex k x else firstOr P ex en (k + 1) t
theorem run_first_from {α σ ε : Type} {step : σ → Option (σ ⊕ ε)} (st : Nat → σ) (P : α → Bool) (ex : Nat → α → ε) (en : ε) :
    ∀ (xs ys : List α), (∀ (k : Nat) x, (ys ++ xs)[k]? = some x → step (st k) = some (if P x = true then .inr (ex k x) else .inl (st (k + 1)))) → step (st (ys ++ xs).length) = some (.inr en) → run step (st ys.length) = some (firstOr P ex en ys.length xs)
  | [], ys, _, he => by rw [List.append_nil] at he; exact run_stop he
  | x :: t, ys, hs, he => by
    have h1 := hs ys.length x (by simp)
    by_cases hp : P x = true
    · rw [if_pos hp] at h1
      rw [run_stop h1, firstOr, if_pos hp]
    · rw [if_neg hp] at h1
      rw [run_next h1, firstOr, if_neg hp]
      have := run_first_from st P ex en t (ys ++ [x]) (fun k y hk => hs k y (by simpa using hk)) (by simpa using he)
      simpa using this
theorem run_first {α σ ε : Type} {step : σ → Option (σ ⊕ ε)} (st : Nat → σ) (P : α → Bool) (ex : Nat → α → ε) (en : ε) (xs : List α) (hs : ∀ (k : Nat) x, xs[k]? = some x → step (st k) = some (if P x = true then .inr (ex k x) else .inl (st (k + 1)))) (he : step (st xs.length) = some (.inr en)) {s : σ} (h0 : s = st 0) : run step s = some (firstOr P ex en 0 xs) := by
  subst h0
  exact run_first_from st P ex en xs [] hs he
theorem firstOr_map {α β γ : Type} (f : β → γ) (P : α → Bool) (ex : Nat → α → β) (en : β) : ∀ (xs : List α) k, f (firstOr P ex en k xs) = firstOr P (fun k x => f (ex k x)) (f en) k xs
  | [], _ => rfl
  | x :: t, k => by
    unfold firstOr
    split
    · rfl
    · exact firstOr_map f P ex en t (k + 1)
theorem firstOr_all {α β : Type} (P : α → Bool) (c en : β) : ∀ (xs : List α) k, firstOr P (fun _ _ => c) en k xs = if (xs.all fun x => !P x) = true then en else c
  | [], _ => rfl
  | x :: t, k => by
    unfold firstOr
    rw [firstOr_all P c en t (k + 1)]
    cases h : P x <;> simp [h]
theorem bind_first {α σ ε β : Type} {step : σ → Option (σ ⊕ ε)} {s : σ} {F : ε → Option β} (st : Nat → σ) (P : α → Bool) (ex : Nat → α → ε) (en : ε) (xs : List α) (K : ε → β) (h0 : s = st 0) (hF : ∀ e, F e = some (K e)) (hs : ∀ (k : Nat) x, xs[k]? = some x → step (st k) = some (if P x = true then .inr (ex k x) else .inl (st (k + 1)))) (he : step (st xs.length) = some (.inr en)) :
    (run step s).bind F = some (firstOr P (fun k x => K (ex k x)) (K en) 0 xs) := by
  rw [run_first st P ex en xs hs he h0, Option.bind_some, hF, firstOr_map K]
/-! ### numbers -/
theorem wneg {x : Int} (h : -9223372036854775807 ≤ x ∧ x ≤ 9223372036854775807) : IntKind.i64.wrap (0 - x) = -x := by rw [w64 (by omega)]; omega
theorem wsucc {k : Nat} {n : Nat} (h : k ≤ n) (hn : n ≤ 2 ^ 62) : IntKind.i64.wrap ((k : Int) + 1) = ((k + 1 : Nat) : Int) := by rw [w64 (by omega)]; omega
theorem fsize_eq {x : Int} (h : -9223372036854775807 ≤ x ∧ x ≤ 9223372036854775807) : filter_size x = some (x.natAbs : Int) := by
  unfold filter_size
  rw [wneg h]
  split <;> (congr 1; omega)
theorem bsize_eq {x : Int} (h : -9223372036854775807 ≤ x ∧ x ≤ 9223372036854775807) : base_Size x = some (x.natAbs : Int) := by
  unfold base_Size
  rw [wneg h]
  split <;> (congr 1; omega)
/-! ### sections -/
def smallB (m x : Int) : Bool := decide (-m ≤ x ∧ x ≤ m)
theorem isSmall_eq {x m : Int} (hm : 0 ≤ m ∧ m ≤ 9223372036854775807) : filter_isSmall x m = some (smallB m x) := by
  unfold filter_isSmall smallB
  rw [wneg (by omega)]
  by_cases h : -m ≤ x <;> simp [h]
theorem within_eq (x a b : Int) : base_Within x a b = some (decide (a ≤ x ∧ x ≤ b)) := by
  unfold base_Within
  by_cases h : a ≤ x <;> simp [h]
theorem allSmall_eq (l : List Int) {m : Int} (hl : l.length ≤ 2 ^ 62) (hm : 0 ≤ m ∧ m ≤ 9223372036854775807) : filter_allSmall l m = some (if (l.all (smallB m)) = true then 0 else 2) := by
  unfold filter_allSmall
  refine (bind_first (fun k : Nat => (k : Int)) (fun x => !smallB m x) (fun _ _ => .inl ()) (.inr ()) l (Sum.elim (fun _ => 2) fun _ => 0) rfl (fun e => by rcases e with _ | _ <;> rfl) (fun k x hk => ?_) ?_).trans ?_
  · have hk2 := (List.getElem?_eq_some_iff.1 hk).1
    dsimp only [filter_allSmall_l1]
    rw [if_pos (by simpa using hk2), getI_nat, hk, Option.bind_some, isSmall_eq hm, Option.bind_some, wsucc (n := l.length) (by omega) hl]
    cases smallB m x <;> rfl
  · dsimp only [filter_allSmall_l1]
    rw [if_neg (by simp)]
  · simp only [Sum.elim_inl, Sum.elim_inr, firstOr_all, Bool.not_not]
theorem firstError_eq (l : List Int) (hl : l.length ≤ 2 ^ 62) : filter_firstError l = some (firstOr (fun x => decide (x ≠ 0)) (fun _ x => x) 0 0 l) := by
  unfold filter_firstError
  refine (bind_first (fun k : Nat => (k : Int)) (fun x => decide (x ≠ 0)) (fun _ x => .inl x) (.inr ()) l (Sum.elim id fun _ => 0) rfl (fun e => by rcases e with x | _ <;> rfl) (fun k x hk => ?_) ?_).trans rfl
  · have hk2 := (List.getElem?_eq_some_iff.1 hk).1
    dsimp only [filter_firstError_l1]
    rw [if_pos (by simpa using hk2), getI_nat, hk, Option.bind_some, wsucc (n := l.length) (by omega) hl]
    by_cases h : x = 0 <;> simp [h]
  · dsimp only [filter_firstError_l1]
    rw [if_neg (by simp)]
theorem refuse_eq (b : Bool) (e : Int) : filter_refuse b e = some (if b = true then e else 0) := by
  unfold filter_refuse
  cases b <;> rfl
theorem first2 (a b : Int) : filter_firstError [a, b] = some (if a ≠ 0 then a else b) := by
  rw [firstError_eq _ (by simp)]
  unfold firstOr firstOr firstOr
  by_cases h : a = 0 <;> by_cases h2 : b = 0 <;> simp [h, h2]
end Go.Rex

namespace Go.Rex
/-! ### Schur's recursion -/
def St1 (a b : Int) : Prop := -a < b ∧ b < a
def St2 (a b c : Int) : Prop := (-a < c ∧ c < a) ∧ St1 (a * a - c * c) (a * b - c * b)
def St3 (a b c d : Int) : Prop := (-a < d ∧ d < a) ∧ St2 (a * a - d * d) (a * b - d * c) (a * c - d * b)
def St4 (a b c d e : Int) : Prop := (-a < e ∧ e < a) ∧ St3 (a * a - e * e) (a * b - e * d) (a * c - e * c) (a * d - e * b)
theorem sq_pos {x : Int} (h : x ≠ 0) : 0 < x * x := by
  rcases Int.lt_or_gt_of_ne h with q | q
  · have := Int.mul_pos_of_neg_of_neg q q; omega
  · exact Int.mul_pos q q
theorem sq_nn (x : Int) : 0 ≤ x * x := by
  by_cases h : x = 0
  · subst h; omega
  · have := sq_pos h; omega
theorem diff_sq {a c : Int} (h : -a < c ∧ c < a) : 0 < a * a - c * c := by
  have := Int.mul_pos (show 0 < a - c by omega) (show 0 < a + c by omega)
  have e : (a - c) * (a + c) = a * a - c * c := by grind
  omega
/-- order 2: three signs -/
theorem st2_iff {a b c : Int} (ha : 0 < a) : St2 a b c ↔ 0 < a - c ∧ 0 < a + b + c ∧ 0 < a - b + c := by
  unfold St2 St1
  constructor
  · rintro ⟨h1, h2, h3⟩
    have hm : 0 < a - c := by omega
    have e1 : a * a - c * c - (a * b - c * b) = (a - c) * (a - b + c) := by grind
    have e2 : a * a - c * c + (a * b - c * b) = (a - c) * (a + b + c) := by grind
    refine ⟨hm, ?_, ?_⟩
    · exact Int.pos_of_mul_pos_right (by rw [← e2]; omega) hm
    · exact Int.pos_of_mul_pos_right (by rw [← e1]; omega) hm
  · rintro ⟨hm, h2, h3⟩
    have e1 : a * a - c * c - (a * b - c * b) = (a - c) * (a - b + c) := by grind
    have e2 : a * a - c * c + (a * b - c * b) = (a - c) * (a + b + c) := by grind
    have p1 := Int.mul_pos hm h3
    have p2 := Int.mul_pos hm h2
    exact ⟨by omega, by omega, by omega⟩
end Go.Rex

namespace Go.Rex
theorem pos_r {x y : Int} (hx : 0 < x) (h : 0 < x * y) : 0 < y := Int.pos_of_mul_pos_right h hx
theorem neg_r {x y : Int} (hx : x < 0) (h : 0 < x * y) : y < 0 := by
  rcases Int.lt_or_le y 0 with q | q
  · exact q
  · have := Int.mul_nonneg (show 0 ≤ -x by omega) q
    rw [Int.neg_mul] at this
    omega
theorem nz_r {x y : Int} (h : 0 < x * y) : x ≠ 0 := fun e => by rw [e, Int.zero_mul] at h; omega
/-- order 3 -/
theorem st3_iff {a b c d : Int} (ha : 0 < a) : St3 a b c d ↔ (-a < d ∧ d < a) ∧ 0 < (a * a - d * d) - (a * c - d * b) ∧ 0 < a + b + c + d ∧ 0 < a - b + c - d := by
  unfold St3
  constructor
  · rintro ⟨h1, h2⟩
    obtain ⟨h3, h4, h5⟩ := (st2_iff (diff_sq h1)).1 h2
    have e1 : a * a - d * d + (a * b - d * c) + (a * c - d * b) = (a - d) * (a + b + c + d) := by grind
    have e2 : a * a - d * d - (a * b - d * c) + (a * c - d * b) = (a + d) * (a - b + c - d) := by grind
    rw [e1] at h4
    rw [e2] at h5
    exact ⟨h1, h3, pos_r (by omega) h4, pos_r (by omega) h5⟩
  · rintro ⟨h1, h3, h4, h5⟩
    refine ⟨h1, (st2_iff (diff_sq h1)).2 ⟨h3, ?_, ?_⟩⟩
    · have e1 : a * a - d * d + (a * b - d * c) + (a * c - d * b) = (a - d) * (a + b + c + d) := by grind
      rw [e1]
      exact Int.mul_pos (by omega) h4
    · have e2 : a * a - d * d - (a * b - d * c) + (a * c - d * b) = (a + d) * (a - b + c - d) := by grind
      rw [e2]
      exact Int.mul_pos (by omega) h5
def W4 (a b c d e : Int) : Int := (a - e) * (a - e) * (a + e - c) - (d - b) * (a * d - e * b)
theorem st4_iff {a b c d e : Int} (ha : 0 < a) : St4 a b c d e ↔ (-a < e ∧ e < a) ∧ (0 < (a * a - e * e) + (a * d - e * b) ∧ 0 < (a * a - e * e) - (a * d - e * b)) ∧ 0 < W4 a b c d e ∧ 0 < a + b + c + d + e ∧ 0 < a - b + c - d + e := by
  unfold St4
  have e0 : ∀ b0 b1 b2 b3 : Int, b0 = a * a - e * e → b1 = a * b - e * d → b2 = a * c - e * c → b3 = a * d - e * b → b0 * b0 - b3 * b3 - (b0 * b2 - b3 * b1) = (a + e) * W4 a b c d e := by
    unfold W4
    intro b0 b1 b2 b3 h0 h1 h2 h3
    subst h0 h1 h2 h3
    grind
  have e1 : a * a - e * e + (a * b - e * d) + (a * c - e * c) + (a * d - e * b) = (a - e) * (a + b + c + d + e) := by grind
  have e2 : a * a - e * e - (a * b - e * d) + (a * c - e * c) - (a * d - e * b) = (a - e) * (a - b + c - d + e) := by grind
  have e3 := e0 _ _ _ _ rfl rfl rfl rfl
  constructor
  · rintro ⟨h1, h2⟩
    obtain ⟨h3, h4, h5, h6⟩ := (st3_iff (diff_sq h1)).1 h2
    rw [e3] at h4
    rw [e1] at h5
    rw [e2] at h6
    exact ⟨h1, ⟨by omega, by omega⟩, pos_r (by omega) h4, pos_r (by omega) h5, pos_r (by omega) h6⟩
  · rintro ⟨h1, ⟨h2, h3⟩, h4, h5, h6⟩
    refine ⟨h1, (st3_iff (diff_sq h1)).2 ⟨⟨by omega, by omega⟩, ?_, ?_, ?_⟩⟩
    · rw [e3]; exact Int.mul_pos (by omega) h4
    · rw [e1]; exact Int.mul_pos (by omega) h5
    · rw [e2]; exact Int.mul_pos (by omega) h6
theorem bound_mul {p q x y : Int} (hp : -p < x ∧ x < p) (hq : -q < y ∧ y < q) : 0 < p * q - x * y ∧ 0 < p * q + x * y := by
  have h1 := Int.mul_pos (show 0 < p - x by omega) (show 0 < q + y by omega)
  have h2 := Int.mul_pos (show 0 < p + x by omega) (show 0 < q - y by omega)
  have h3 := Int.mul_pos (show 0 < p - x by omega) (show 0 < q - y by omega)
  have h4 := Int.mul_pos (show 0 < p + x by omega) (show 0 < q + y by omega)
  have e1 : (p - x) * (q + y) + (p + x) * (q - y) = 2 * (p * q - x * y) := by grind
  have e2 : (p - x) * (q - y) + (p + x) * (q + y) = 2 * (p * q + x * y) := by grind
  omega
/-- orders 1 and 1 -/
theorem f11 {p q r s : Int} (hp : 0 < p) (hr : 0 < r) : St2 (p * r) (p * s + q * r) (q * s) ↔ St1 p q ∧ St1 r s := by
  rw [st2_iff (Int.mul_pos hp hr)]
  have e1 : p * r + (p * s + q * r) + q * s = (p + q) * (r + s) := by grind
  have e2 : p * r - (p * s + q * r) + q * s = (p - q) * (r - s) := by grind
  rw [e1, e2]
  unfold St1
  constructor
  · rintro ⟨h1, h2, h3⟩
    have n1 := nz_r h2
    have n2 := nz_r h3
    rcases Int.lt_or_gt_of_ne n1 with a | a
    · have b := neg_r a h2
      have g1 := Int.mul_lt_mul_of_pos_right (show p < -q by omega) hr
      have g2 := Int.mul_lt_mul_of_pos_left (show r < -s by omega) (show 0 < -q by omega)
      rw [Int.neg_mul_neg] at g2
      omega
    · rcases Int.lt_or_gt_of_ne n2 with c | c
      · have b := neg_r c h3
        have g1 := Int.mul_lt_mul_of_pos_right (show p < q by omega) hr
        have g2 := Int.mul_lt_mul_of_pos_left (show r < s by omega) (show 0 < q by omega)
        omega
      · have b := pos_r a h2
        have d := pos_r c h3
        omega
  · rintro ⟨h1, h2⟩
    exact ⟨by have := bound_mul h1 h2; omega, Int.mul_pos (by omega) (by omega), Int.mul_pos (by omega) (by omega)⟩
/-- orders 1 and 2 -/
theorem f12 {p q d e f : Int} (hp : 0 < p) (hd : 0 < d) : St3 (p * d) (p * e + q * d) (p * f + q * e) (q * f) ↔ St1 p q ∧ St2 d e f := by
  rw [st3_iff (Int.mul_pos hp hd), st2_iff hd]
  obtain ⟨R, hR⟩ : ∃ R, R = p * p * d - p * q * e + q * q * f := ⟨_, rfl⟩
  have e0 : (p * d * (p * d) - q * f * (q * f)) - (p * d * (p * f + q * e) - q * f * (p * e + q * d)) = (d - f) * R := by rw [hR]; grind
  have e1 : p * d + (p * e + q * d) + (p * f + q * e) + q * f = (p + q) * (d + e + f) := by grind
  have e2 : p * d - (p * e + q * d) + (p * f + q * e) - q * f = (p - q) * (d - e + f) := by grind
  have r1 : R = p * q * (d - e + f) + (p - q) * (p * d - q * f) := by rw [hR]; grind
  have r2 : R = -(p * q * (d + e + f)) + (p + q) * (p * d + q * f) := by rw [hR]; grind
  rw [e0, e1, e2]
  clear hR e0 e1 e2
  unfold St1
  have rpos : -p < q → q < p → 0 < p * d - q * f → 0 < p * d + q * f → 0 < d + e + f → 0 < d - e + f → 0 < R := by
    intro h1 h2 h3 h4 h5 h6
    rcases Int.lt_or_le q 0 with a | a
    · have g1 := Int.mul_pos (show 0 < p + q by omega) h4
      have g2 := Int.mul_pos (Int.mul_pos hp (show 0 < -q by omega)) h5
      rw [Int.mul_neg, Int.neg_mul] at g2
      omega
    · have g1 := Int.mul_pos (show 0 < p - q by omega) h3
      have g2 := Int.mul_nonneg (Int.mul_nonneg (Int.le_of_lt hp) a) (Int.le_of_lt h6)
      omega
  constructor
  · rintro ⟨h1, h2, h3, h4⟩
    have n1 := nz_r h3
    have n2 := nz_r h4
    have t1 : 0 < p - q := by
      rcases Int.lt_or_gt_of_ne n2 with c | c
      · exfalso
        have v := neg_r c h4
        have hf : 0 < d - f := by
          rcases Int.lt_or_le f d with x | x
          · omega
          · have := Int.mul_lt_mul_of_pos_right (show p < q by omega) hd
            have := Int.mul_le_mul_of_nonneg_left x (show 0 ≤ q by omega)
            omega
        have hRp := pos_r hf h2
        have g1 := Int.mul_pos (show 0 < -(p - q) by omega) (show 0 < p * d - q * f by omega)
        have g2 := Int.mul_pos (Int.mul_pos hp (show 0 < q by omega)) (show 0 < -(d - e + f) by omega)
        rw [Int.neg_mul] at g1
        rw [Int.mul_neg] at g2
        omega
      · exact c
    have t2 : 0 < p + q := by
      rcases Int.lt_or_gt_of_ne n1 with c | c
      · exfalso
        have v := neg_r c h3
        have hf : 0 < d - f := by
          rcases Int.lt_or_le f d with x | x
          · omega
          · have := Int.mul_lt_mul_of_pos_right (show p < -q by omega) hd
            have := Int.mul_le_mul_of_nonneg_left x (show 0 ≤ -q by omega)
            rw [Int.neg_mul, Int.neg_mul] at this
            rw [Int.neg_mul] at *
            omega
        have hRp := pos_r hf h2
        have g1 := Int.mul_pos (show 0 < -(p + q) by omega) (show 0 < p * d + q * f by omega)
        have g2 := Int.mul_pos (Int.mul_pos hp (show 0 < -q by omega)) (show 0 < -(d + e + f) by omega)
        rw [Int.neg_mul] at g1
        rw [Int.mul_neg, Int.mul_neg, Int.neg_mul, Int.neg_neg] at g2
        omega
      · exact c
    have hu := pos_r t2 h3
    have hv := pos_r t1 h4
    have hR := rpos (by omega) (by omega) (by omega) (by omega) hu hv
    refine ⟨by omega, ?_, hu, hv⟩
    rw [Int.mul_comm] at h2
    exact pos_r hR h2
  · rintro ⟨h1, h2, h3, h4⟩
    have hb := bound_mul h1 (show -d < f ∧ f < d by omega)
    have hR := rpos h1.1 h1.2 hb.1 hb.2 h3 h4
    exact ⟨by omega, Int.mul_pos h2 hR, Int.mul_pos (by omega) h3, Int.mul_pos (by omega) h4⟩
/-- orders 2 and 2 -/
theorem f22 {a b c d e f : Int} (ha : 0 < a) (hd : 0 < d) : St4 (a * d) (a * e + b * d) (a * f + b * e + c * d) (b * f + c * e) (c * f) ↔ St2 a b c ∧ St2 d e f := by
  rw [st4_iff (Int.mul_pos ha hd), st2_iff ha, st2_iff hd]
  obtain ⟨m, hm⟩ : ∃ m, m = a - c := ⟨_, rfl⟩
  obtain ⟨s, hs⟩ : ∃ s, s = a + b + c := ⟨_, rfl⟩
  obtain ⟨t, ht⟩ : ∃ t, t = a - b + c := ⟨_, rfl⟩
  obtain ⟨n, hn⟩ : ∃ n, n = d - f := ⟨_, rfl⟩
  obtain ⟨u, hu⟩ : ∃ u, u = d + e + f := ⟨_, rfl⟩
  obtain ⟨v, hv⟩ : ∃ v, v = d - e + f := ⟨_, rfl⟩
  obtain ⟨g, hg⟩ : ∃ g, g = m * v + n * t := ⟨_, rfl⟩
  obtain ⟨h, hh⟩ : ∃ h, h = m * u + n * s := ⟨_, rfl⟩
  obtain ⟨E1, hE1⟩ : ∃ x, x = (a * d * (a * d) - c * f * (c * f)) + (a * d * (b * f + c * e) - c * f * (a * e + b * d)) := ⟨_, rfl⟩
  obtain ⟨E2, hE2⟩ : ∃ x, x = (a * d * (a * d) - c * f * (c * f)) - (a * d * (b * f + c * e) - c * f * (a * e + b * d)) := ⟨_, rfl⟩
  obtain ⟨W, hW⟩ : ∃ x, x = W4 (a * d) (a * e + b * d) (a * f + b * e + c * d) (b * f + c * e) (c * f) := ⟨_, rfl⟩
  have i1 : 4 * (a * d - c * f) = g + h := by rw [hg, hh, hm, hs, ht, hn, hu, hv]; grind
  have i2 : 8 * (a * d + c * f) = 4 * (m * n) + (s + t) * (u + v) := by rw [hm, hs, ht, hn, hu, hv]; grind
  have i3 : 16 * E1 = 4 * (m * n) * g + m * s * ((u + v) * (u + v)) + n * u * ((s + t) * (s + t)) := by rw [hE1, hg, hm, hs, ht, hn, hu, hv]; grind
  have i4 : 16 * E2 = 4 * (m * n) * h + m * t * ((u + v) * (u + v)) + n * v * ((s + t) * (s + t)) := by rw [hE2, hh, hm, hs, ht, hn, hu, hv]; grind
  have i5 : W = h * E1 - s * u * ((a * d - c * f) * (a * d - c * f)) := by rw [hW, hE1, hh, hm, hs, hn, hu]; unfold W4; grind
  have i6 : W = g * E2 - t * v * ((a * d - c * f) * (a * d - c * f)) := by rw [hW, hE2, hg, hm, ht, hn, hv]; unfold W4; grind
  have i7 : 16 * W = m * n * (4 * (g * h) + (s * v - t * u) * (s * v - t * u)) := by rw [hW, hg, hh, hm, hs, ht, hn, hu, hv]; unfold W4; grind
  have j1 : a * d + (a * e + b * d) + (a * f + b * e + c * d) + (b * f + c * e) + c * f = s * u := by rw [hs, hu]; grind
  have j2 : a * d - (a * e + b * d) + (a * f + b * e + c * d) - (b * f + c * e) + c * f = t * v := by rw [ht, hv]; grind
  rw [j1, j2, ← hW, ← hE1, ← hE2, ← hm, ← hs, ← ht, ← hn, ← hu, ← hv]
  have k1 : 4 * a = s + t + 2 * m := by omega
  have k2 : 4 * d = u + v + 2 * n := by omega
  clear hE1 hE2 hW j1 j2
  constructor
  · rintro ⟨⟨h1, h2⟩, ⟨h3, h4⟩, h5, h6, h7⟩
    have q := sq_nn (a * d - c * f)
    have w1 := Int.mul_nonneg (Int.le_of_lt h6) q
    have w2 := Int.mul_nonneg (Int.le_of_lt h7) q
    have hhp : 0 < h := by
      have : 0 < E1 * h := by rw [Int.mul_comm]; omega
      exact pos_r h3 this
    have hgp : 0 < g := by
      have : 0 < E2 * g := by rw [Int.mul_comm]; omega
      exact pos_r h4 this
    have hZ : 0 < 4 * (g * h) + (s * v - t * u) * (s * v - t * u) := by
      have := Int.mul_pos hgp hhp
      have := sq_nn (s * v - t * u)
      omega
    have hmn : 0 < m * n := by
      have : 0 < (4 * (g * h) + (s * v - t * u) * (s * v - t * u)) * (m * n) := by rw [Int.mul_comm]; omega
      exact pos_r hZ this
    have hmp : 0 < m := by
      rcases Int.lt_or_gt_of_ne (nz_r hmn) with x | x
      · exfalso
        have y := neg_r x hmn
        -- both below 0: s + t and u + v are above 0
        have z1 := Int.mul_pos (show 0 < -m by omega) (show 0 < u + v by omega)
        have z2 := Int.mul_pos (show 0 < -n by omega) (show 0 < s + t by omega)
        rw [Int.neg_mul] at z1 z2
        rw [Int.mul_add] at z1 z2
        omega
      · exact x
    have hnp := pos_r hmp hmn
    have hsu : 0 < s := by
      rcases Int.lt_or_gt_of_ne (nz_r h6) with x | x
      · exfalso
        have y := neg_r x h6
        have z1 := Int.mul_pos hmp (show 0 < -u by omega)
        have z2 := Int.mul_pos hnp (show 0 < -s by omega)
        rw [Int.mul_neg] at z1 z2
        omega
      · exact x
    have htv : 0 < t := by
      rcases Int.lt_or_gt_of_ne (nz_r h7) with x | x
      · exfalso
        have y := neg_r x h7
        have z1 := Int.mul_pos hmp (show 0 < -v by omega)
        have z2 := Int.mul_pos hnp (show 0 < -t by omega)
        rw [Int.mul_neg] at z1 z2
        omega
      · exact x
    exact ⟨⟨hmp, hsu, htv⟩, hnp, pos_r hsu h6, pos_r htv h7⟩
  · rintro ⟨⟨h1, h2, h3⟩, h4, h5, h6⟩
    have hmn := Int.mul_pos h1 h4
    have hgp : 0 < g := by
      have := Int.mul_pos h1 h6
      have := Int.mul_pos h4 h3
      omega
    have hhp : 0 < h := by
      have := Int.mul_pos h1 h5
      have := Int.mul_pos h4 h2
      omega
    have hxy := Int.mul_pos (show 0 < s + t by omega) (show 0 < u + v by omega)
    have hyy := Int.mul_pos (show 0 < u + v by omega) (show 0 < u + v by omega)
    have hxx := Int.mul_pos (show 0 < s + t by omega) (show 0 < s + t by omega)
    have a1 := Int.mul_pos hmn hgp
    have a2 := Int.mul_pos (Int.mul_pos h1 h2) hyy
    have a3 := Int.mul_pos (Int.mul_pos h4 h5) hxx
    have b1 := Int.mul_pos hmn hhp
    have b2 := Int.mul_pos (Int.mul_pos h1 h3) hyy
    have b3 := Int.mul_pos (Int.mul_pos h4 h6) hxx
    have hZ : 0 < 4 * (g * h) + (s * v - t * u) * (s * v - t * u) := by
      have := Int.mul_pos hgp hhp
      have := sq_nn (s * v - t * u)
      omega
    have hWp := Int.mul_pos hmn hZ
    rw [Int.mul_assoc] at i3 i4
    exact ⟨⟨by omega, by omega⟩, ⟨by omega, by omega⟩, by omega, Int.mul_pos h2 h5, Int.mul_pos h3 h6⟩
end Go.Rex

namespace Go.Rex
/-- orders 1 and 3 -/
theorem f13 {p q a b c d : Int} (hp : 0 < p) (ha : 0 < a) : St4 (p * a) (p * b + q * a) (p * c + q * b) (p * d + q * c) (q * d) ↔ St1 p q ∧ St3 a b c d := by
  rw [st4_iff (Int.mul_pos hp ha), st3_iff ha]
  obtain ⟨N, hN⟩ : ∃ x, x = p * a - q * d := ⟨_, rfl⟩
  obtain ⟨M, hM⟩ : ∃ x, x = p * a + q * d := ⟨_, rfl⟩
  obtain ⟨u, hu⟩ : ∃ x, x = a + b + c + d := ⟨_, rfl⟩
  obtain ⟨v, hv⟩ : ∃ x, x = a - b + c - d := ⟨_, rfl⟩
  obtain ⟨V, hV⟩ : ∃ x, x = (a * a - d * d) - (a * c - d * b) := ⟨_, rfl⟩
  obtain ⟨V', hV'⟩ : ∃ x, x = (a * a - d * d) + (a * c - d * b) := ⟨_, rfl⟩
  obtain ⟨R, hR⟩ : ∃ x, x = p * p * p * a - p * p * q * b + p * q * q * c - q * q * q * d := ⟨_, rfl⟩
  obtain ⟨E1, hE1⟩ : ∃ x, x = (p * a * (p * a) - q * d * (q * d)) + (p * a * (p * d + q * c) - q * d * (p * b + q * a)) := ⟨_, rfl⟩
  obtain ⟨E2, hE2⟩ : ∃ x, x = (p * a * (p * a) - q * d * (q * d)) - (p * a * (p * d + q * c) - q * d * (p * b + q * a)) := ⟨_, rfl⟩
  have i1 : W4 (p * a) (p * b + q * a) (p * c + q * b) (p * d + q * c) (q * d) = V * R := by rw [hV, hR]; unfold W4; grind
  have i2 : p * a + (p * b + q * a) + (p * c + q * b) + (p * d + q * c) + q * d = (p + q) * u := by rw [hu]; grind
  have i3 : p * a - (p * b + q * a) + (p * c + q * b) - (p * d + q * c) + q * d = (p - q) * v := by rw [hv]; grind
  have s1 : (a - d) * R = p * q * v * N + (p - q) * E2 := by rw [hR, hv, hN, hE2]; grind
  have s2 : (a + d) * R = -(p * q * u * N) + (p + q) * E1 := by rw [hR, hu, hN, hE1]; grind
  have s3 : p * q * V = E2 - (a - d) * (p - q) * N := by rw [hV, hE2, hN]; grind
  have s4 : p * q * V = -E1 + (a + d) * (p + q) * N := by rw [hV, hE1, hN]; grind
  have s5 : E1 = p * q * V' + (a + d) * (p - q) * M := by rw [hV', hE1, hM]; grind
  have s6 : E2 = -(p * q * V') + (a - d) * (p + q) * M := by rw [hV', hE2, hM]; grind
  have s7 : 2 * V' = (a - d) * u + (a + d) * v := by rw [hV', hu, hv]; grind
  rw [i1, i2, i3, ← hV, ← hE1, ← hE2, ← hu, ← hv]
  clear i1 i2 i3 hR hV hV' hE1 hE2 hu hv
  unfold St1
  constructor
  · rintro ⟨⟨h1, h2⟩, ⟨h3, h4⟩, h5, h6, h7⟩
    have hNp : 0 < N := by omega
    have hMp : 0 < M := by omega
    have t1 : 0 < p - q := by
      rcases Int.lt_or_gt_of_ne (nz_r h7) with x | x
      · exfalso
        have hq : 0 < q := by omega
        have hvn := neg_r x h7
        have had : 0 < a - d := by
          rcases Int.lt_or_le d a with y | y
          · omega
          · have g1 := Int.mul_lt_mul_of_pos_right (show p < q by omega) ha
            have g2 := Int.mul_le_mul_of_nonneg_left y (show 0 ≤ q by omega)
            omega
        have g1 := Int.mul_pos (Int.mul_pos (Int.mul_pos hp hq) (show 0 < -v by omega)) hNp
        have g2 := Int.mul_pos (show 0 < -(p - q) by omega) h4
        have g3 := Int.mul_pos (Int.mul_pos had (show 0 < -(p - q) by omega)) hNp
        have hRn : (a - d) * R < 0 := by
          rw [Int.mul_neg, Int.neg_mul] at g1
          rw [Int.neg_mul] at g2
          omega
        have hVp : 0 < p * q * V := by
          rw [Int.mul_neg, Int.neg_mul] at g3
          omega
        have hV := pos_r (Int.mul_pos hp hq) hVp
        have hR := pos_r hV h5
        have := Int.mul_pos had hR
        omega
      · exact x
    have t2 : 0 < p + q := by
      rcases Int.lt_or_gt_of_ne (nz_r h6) with x | x
      · exfalso
        have hq : 0 < -q := by omega
        have hun := neg_r x h6
        have had : 0 < a + d := by
          rcases Int.lt_or_le (-d) a with y | y
          · omega
          · have g1 := Int.mul_lt_mul_of_pos_right (show p < -q by omega) ha
            have g2 := Int.mul_le_mul_of_nonneg_left y (show 0 ≤ -q by omega)
            rw [Int.neg_mul_neg] at g2
            omega
        have g1 := Int.mul_pos (Int.mul_pos (Int.mul_pos hp hq) (show 0 < -u by omega)) hNp
        have g2 := Int.mul_pos (show 0 < -(p + q) by omega) h3
        have g3 := Int.mul_pos (Int.mul_pos had (show 0 < -(p + q) by omega)) hNp
        have hRn : (a + d) * R < 0 := by
          rw [Int.mul_neg p q, Int.neg_mul_neg] at g1
          rw [Int.neg_mul] at g2
          omega
        have hVp : 0 < p * -q * V := by
          rw [Int.mul_neg, Int.neg_mul] at g3
          rw [Int.mul_neg, Int.neg_mul]
          omega
        have hV := pos_r (Int.mul_pos hp hq) hVp
        have hR := pos_r hV h5
        have := Int.mul_pos had hR
        omega
      · exact x
    have hup := pos_r t2 h6
    have hvp := pos_r t1 h7
    have hVn := nz_r h5
    rcases Int.lt_trichotomy q 0 with hq | hq | hq
    · have hq' : 0 < -q := by omega
      have g1 := Int.mul_pos (Int.mul_pos (Int.mul_pos hp hq') hup) hNp
      have g2 := Int.mul_pos t2 h3
      have hRp : 0 < (a + d) * R := by
        rw [Int.mul_neg, Int.neg_mul, Int.neg_mul] at g1
        omega
      have had : 0 < a + d := by
        rcases Int.lt_or_gt_of_ne (nz_r hRp) with x | x
        · exfalso
          have hRn := neg_r x hRp
          have g3 := Int.mul_pos (Int.mul_pos (show 0 < -(a + d) by omega) t2) hNp
          rw [Int.neg_mul, Int.neg_mul] at g3
          have hVp : 0 < p * -q * V := by rw [Int.mul_neg, Int.neg_mul]; omega
          have hV := pos_r (Int.mul_pos hp hq') hVp
          have := pos_r hV h5
          omega
        · exact x
      have hRR := pos_r had hRp
      have hV : 0 < V := by rw [Int.mul_comm] at h5; exact pos_r hRR h5
      have g4 := Int.mul_pos (Int.mul_pos hp hq') hV
      rw [Int.mul_neg, Int.neg_mul] at g4
      have hd : 0 < a - d := by
        have : 0 < (p - q) * N * (a - d) := by
          have e : (p - q) * N * (a - d) = (a - d) * (p - q) * N := by grind
          rw [e]; omega
        exact pos_r (Int.mul_pos t1 hNp) this
      exact ⟨by omega, by omega, hV, hup, hvp⟩
    · subst hq
      simp only [Int.mul_zero, Int.zero_mul, Int.sub_zero, Int.add_zero, Int.zero_add, Int.neg_zero] at *
      have g1 := Int.mul_pos hp h4
      have g2 := Int.mul_pos hp h3
      have hx : 0 < (a - d) * R := by omega
      have hy : 0 < (a + d) * R := by omega
      have hRp : 0 < R := by
        rcases Int.lt_or_le 0 R with x | x
        · exact x
        · exfalso
          have e : (a - d) * R + (a + d) * R = 2 * (a * R) := by grind
          have := Int.mul_nonneg (Int.le_of_lt ha) (show 0 ≤ -R by omega)
          rw [Int.mul_neg] at this
          omega
      have hd1 : 0 < a - d := by rw [Int.mul_comm] at hx; exact pos_r hRp hx
      have hd2 : 0 < a + d := by rw [Int.mul_comm] at hy; exact pos_r hRp hy
      have hV : 0 < V := by rw [Int.mul_comm] at h5; exact pos_r hRp h5
      exact ⟨by omega, by omega, hV, hup, hvp⟩
    · have g1 := Int.mul_pos (Int.mul_pos (Int.mul_pos hp hq) hvp) hNp
      have g2 := Int.mul_pos t1 h4
      have hRp : 0 < (a - d) * R := by omega
      have had : 0 < a - d := by
        rcases Int.lt_or_gt_of_ne (nz_r hRp) with x | x
        · exfalso
          have hRn := neg_r x hRp
          have g3 := Int.mul_pos (Int.mul_pos (show 0 < -(a - d) by omega) t1) hNp
          rw [Int.neg_mul, Int.neg_mul] at g3
          have hVp : 0 < p * q * V := by omega
          have hV := pos_r (Int.mul_pos hp hq) hVp
          have := pos_r hV h5
          omega
        · exact x
      have hRR := pos_r had hRp
      have hV : 0 < V := by rw [Int.mul_comm] at h5; exact pos_r hRR h5
      have g4 := Int.mul_pos (Int.mul_pos hp hq) hV
      have hd : 0 < a + d := by
        have : 0 < (p + q) * N * (a + d) := by
          have e : (p + q) * N * (a + d) = (a + d) * (p + q) * N := by grind
          rw [e]; omega
        exact pos_r (Int.mul_pos t2 hNp) this
      exact ⟨by omega, by omega, hV, hup, hvp⟩
  · rintro ⟨h1, ⟨h2, h3⟩, h4, h5, h6⟩
    have hb := bound_mul h1 (show -a < d ∧ d < a by omega)
    have hNp : 0 < N := by omega
    have hMp : 0 < M := by omega
    have t1 : 0 < p - q := by omega
    have t2 : 0 < p + q := by omega
    have d1 : 0 < a - d := by omega
    have d2 : 0 < a + d := by omega
    have hV' : 0 < V' := by
      have := Int.mul_pos d1 h5
      have := Int.mul_pos d2 h6
      omega
    have x1 := Int.mul_pos (Int.mul_pos d1 t1) hNp
    have x2 := Int.mul_pos (Int.mul_pos d2 t2) hNp
    have x3 := Int.mul_pos (Int.mul_pos d2 t1) hMp
    have x4 := Int.mul_pos (Int.mul_pos d1 t2) hMp
    rcases Int.lt_or_le q 0 with hq | hq
    · have hq' : 0 ≤ -q := by omega
      have y1 := Int.mul_nonneg (Int.mul_nonneg (Int.le_of_lt hp) hq') (Int.le_of_lt h4)
      have y2 := Int.mul_nonneg (Int.mul_nonneg (Int.le_of_lt hp) hq') (Int.le_of_lt hV')
      have y3 := Int.mul_nonneg (Int.mul_nonneg (Int.mul_nonneg (Int.le_of_lt hp) hq') (Int.le_of_lt h5)) (Int.le_of_lt hNp)
      rw [Int.mul_neg, Int.neg_mul] at y1 y2
      rw [Int.mul_neg, Int.neg_mul, Int.neg_mul] at y3
      have hE1 : 0 < E1 := by omega
      have hE2 : 0 < E2 := by omega
      have z := Int.mul_pos t2 hE1
      have hR : 0 < R := pos_r d2 (by omega)
      exact ⟨⟨by omega, by omega⟩, ⟨hE1, hE2⟩, Int.mul_pos h4 hR, Int.mul_pos t2 h5, Int.mul_pos t1 h6⟩
    · have y1 := Int.mul_nonneg (Int.mul_nonneg (Int.le_of_lt hp) hq) (Int.le_of_lt h4)
      have y2 := Int.mul_nonneg (Int.mul_nonneg (Int.le_of_lt hp) hq) (Int.le_of_lt hV')
      have y3 := Int.mul_nonneg (Int.mul_nonneg (Int.mul_nonneg (Int.le_of_lt hp) hq) (Int.le_of_lt h6)) (Int.le_of_lt hNp)
      have hE1 : 0 < E1 := by omega
      have hE2 : 0 < E2 := by omega
      have z := Int.mul_pos t1 hE2
      have hR : 0 < R := pos_r d1 (by omega)
      exact ⟨⟨by omega, by omega⟩, ⟨hE1, hE2⟩, Int.mul_pos h4 hR, Int.mul_pos t2 h5, Int.mul_pos t1 h6⟩
end Go.Rex

namespace Go.Rex
theorem getI_some {α : Type} {xs : List α} {i : Int} (h : 0 ≤ i ∧ i < xs.length) : ∃ x, getI xs i = some x := by
  unfold getI
  rw [if_pos h.1]
  exact ⟨_, List.getElem?_eq_getElem (by omega)⟩
theorem copyInts_eq {l : List Int} (h : l.length ≤ 1024) : base_CopyInts l = some l := by
  unfold base_CopyInts appI
  rw [if_pos (by simp; omega)]
  rfl
/-- the error of a polynomial -/
def polE (l : List Int) : Int := if 2 ≤ l.length ∧ l.length ≤ 5 then (if (l.all (smallB 100)) = true then (if l[0]?.getD 0 ≤ 0 then 11 else 0) else 2) else 10
theorem fpol_eq (l : List Int) (hl : l.length ≤ 1024) : filter_polynomialError l = some (polE l) := by
  unfold filter_polynomialError polE
  simp only [refuse_eq, Option.bind_some]
  by_cases h1 : (l.length : Int) < 2
  · have h3 : ¬ (2 ≤ l.length ∧ l.length ≤ 5) := by omega
    rw [if_pos (by simpa using h1), if_neg h3]
    simp
  · rw [if_neg (by simpa using h1)]
    by_cases h2 : (l.length : Int) > 5
    · rw [if_neg (by omega : ¬ (2 ≤ l.length ∧ l.length ≤ 5))]
      simp [h2]
    · rw [if_pos (by omega : 2 ≤ l.length ∧ l.length ≤ 5)]
      obtain ⟨a, ha⟩ := getI_some (xs := l) (i := 0) (by omega)
      have ha2 : l[0]? = some a := by simpa [getI] using ha
      simp only [h2, decide_false, Bool.false_eq_true, if_false, ne_eq, not_true]
      rw [allSmall_eq _ (by omega) (by omega), Option.bind_some, ha, Option.bind_some, first2, Option.bind_some, ha2]
      cases l.all (smallB 100) <;> simp
theorem rpol_eq (l : List Int) (hl : l.length ≤ 1024) : ref06_PolynomialErr l = some (polE l) := by
  unfold ref06_PolynomialErr polE
  rw [within_eq, Option.bind_some]
  by_cases h1 : 2 ≤ l.length ∧ l.length ≤ 5
  · rw [if_pos (by simp; omega), if_pos h1]
    obtain ⟨a, ha⟩ := getI_some (xs := l) (i := 0) (by omega)
    have ha2 : l[0]? = some a := by simpa [getI] using ha
    refine (bind_first (fun k : Nat => (k : Int)) (fun x => !smallB 100 x) (fun _ _ => .inl ()) (.inr ()) l (Sum.elim (fun _ => 2) fun _ => if a ≤ 0 then 11 else 0) rfl (fun e => ?_) (fun k x hk => ?_) ?_).trans ?_
    · rcases e with _ | _
      · rfl
      · simp only [ha, Option.bind_some, Sum.elim_inr]
        by_cases h : a ≤ 0 <;> simp [h]
    · have hk2 := (List.getElem?_eq_some_iff.1 hk).1
      dsimp only [ref06_PolynomialErr_l1]
      rw [if_pos (by simpa using hk2), getI_nat, hk, Option.bind_some, within_eq, Option.bind_some, wsucc (n := l.length) (by omega) (by omega)]
      unfold smallB
      cases (decide (-100 ≤ x ∧ x ≤ 100)) <;> rfl
    · dsimp only [ref06_PolynomialErr_l1]
      rw [if_neg (by simp)]
    · simp only [Sum.elim_inl, Sum.elim_inr, firstOr_all, Bool.not_not, ha2, Option.getD_some]
  · rw [if_neg (by simp; omega), if_neg h1]

/-! ### the recursion on lists -/
theorem bmul {x y A B : Int} (hx : -A ≤ x ∧ x ≤ A) (hy : -B ≤ y ∧ y ≤ B) : -(A * B) ≤ x * y ∧ x * y ≤ A * B := by
  have h1 := Int.mul_nonneg (show 0 ≤ A - x by omega) (show 0 ≤ B + y by omega)
  have h2 := Int.mul_nonneg (show 0 ≤ A + x by omega) (show 0 ≤ B - y by omega)
  have h3 := Int.mul_nonneg (show 0 ≤ A - x by omega) (show 0 ≤ B - y by omega)
  have h4 := Int.mul_nonneg (show 0 ≤ A + x by omega) (show 0 ≤ B + y by omega)
  have e1 : (A - x) * (B + y) + (A + x) * (B - y) = 2 * (A * B - x * y) := by grind
  have e2 : (A - x) * (B - y) + (A + x) * (B + y) = 2 * (A * B + x * y) := by grind
  omega
theorem sd_step {l r : List Int} {n k : Nat} {a0 ak an am : Int} (hl : l.length = n + 1) (hk : k < n) (hn : n ≤ 10) (h0 : l[0]? = some a0) (h1 : l[k]? = some ak) (h2 : l[n]? = some an) (h3 : l[n - k]? = some am) (hr : r.length ≤ 10) (b1 : -4000000000000000000 ≤ a0 * ak ∧ a0 * ak ≤ 4000000000000000000) (b2 : -4000000000000000000 ≤ an * am ∧ an * am ≤ 4000000000000000000) : filter_stepDown_l1 l (r, (k : Int)) = some (.inl (r ++ [a0 * ak - an * am], ((k + 1 : Nat) : Int))) := by
  dsimp only [filter_stepDown_l1]
  rw [w64 (x := (l.length : Int) - 1) (by omega), w64 (x := (l.length : Int) - 1 - k) (by omega), if_pos (by simp only [decide_eq_true_eq]; omega), getI_of (i := 0) (k := 0) rfl, h0, Option.bind_some, getI_nat, h1, Option.bind_some, getI_of (k := n) (by omega), h2, Option.bind_some, getI_of (k := n - k) (by omega), h3, Option.bind_some, w64 (x := a0 * ak) (by omega), w64 (x := an * am) (by omega), w64 (x := a0 * ak - an * am) (by omega), appI_one (by omega) (by omega), Option.bind_some, w64 (by omega)]
  rfl
theorem sd_end {l r : List Int} {n : Nat} (hl : l.length = n + 1) (hn : n ≤ 10) : filter_stepDown_l1 l (r, (n : Int)) = some (.inr r) := by
  dsimp only [filter_stepDown_l1]
  rw [w64 (x := (l.length : Int) - 1) (by omega), if_neg (by simp only [decide_eq_true_eq]; omega)]
theorem sd3 {a b c : Int} (ha : -1000000000 ≤ a ∧ a ≤ 1000000000) (hb : -1000000000 ≤ b ∧ b ≤ 1000000000) (hc : -1000000000 ≤ c ∧ c ≤ 1000000000) : filter_stepDown [a, b, c] = some [a * a - c * c, a * b - c * b] := by
  unfold filter_stepDown
  have m1 := bmul ha ha
  have m2 := bmul hc hc
  have m3 := bmul ha hb
  have m4 := bmul hc hb
  rw [show (0 : Int) = ((0 : Nat) : Int) from rfl, run_next (sd_step (n := 2) (k := 0) rfl (by omega) (by omega) rfl rfl rfl rfl (by simp) (by omega) (by omega)), run_next (sd_step (n := 2) (k := 1) rfl (by omega) (by omega) rfl rfl rfl rfl (by simp) (by omega) (by omega)), run_stop (sd_end (n := 2) rfl (by omega))]
  rfl
theorem sd4 {a b c d : Int} (ha : -1000000000 ≤ a ∧ a ≤ 1000000000) (hb : -1000000000 ≤ b ∧ b ≤ 1000000000) (hc : -1000000000 ≤ c ∧ c ≤ 1000000000) (hd : -1000000000 ≤ d ∧ d ≤ 1000000000) : filter_stepDown [a, b, c, d] = some [a * a - d * d, a * b - d * c, a * c - d * b] := by
  unfold filter_stepDown
  have m1 := bmul ha ha
  have m2 := bmul hd hd
  have m3 := bmul ha hb
  have m4 := bmul hd hc
  have m5 := bmul ha hc
  have m6 := bmul hd hb
  rw [show (0 : Int) = ((0 : Nat) : Int) from rfl, run_next (sd_step (n := 3) (k := 0) rfl (by omega) (by omega) rfl rfl rfl rfl (by simp) (by omega) (by omega)), run_next (sd_step (n := 3) (k := 1) rfl (by omega) (by omega) rfl rfl rfl rfl (by simp) (by omega) (by omega)), run_next (sd_step (n := 3) (k := 2) rfl (by omega) (by omega) rfl rfl rfl rfl (by simp) (by omega) (by omega)), run_stop (sd_end (n := 3) rfl (by omega))]
  rfl
theorem sd5 {a b c d e : Int} (ha : -1000000000 ≤ a ∧ a ≤ 1000000000) (hb : -1000000000 ≤ b ∧ b ≤ 1000000000) (hc : -1000000000 ≤ c ∧ c ≤ 1000000000) (hd : -1000000000 ≤ d ∧ d ≤ 1000000000) (he : -1000000000 ≤ e ∧ e ≤ 1000000000) : filter_stepDown [a, b, c, d, e] = some [a * a - e * e, a * b - e * d, a * c - e * c, a * d - e * b] := by
  unfold filter_stepDown
  have m1 := bmul ha ha
  have m2 := bmul he he
  have m3 := bmul ha hb
  have m4 := bmul he hd
  have m5 := bmul ha hc
  have m6 := bmul he hc
  have m7 := bmul ha hd
  have m8 := bmul he hb
  rw [show (0 : Int) = ((0 : Nat) : Int) from rfl, run_next (sd_step (n := 4) (k := 0) rfl (by omega) (by omega) rfl rfl rfl rfl (by simp) (by omega) (by omega)), run_next (sd_step (n := 4) (k := 1) rfl (by omega) (by omega) rfl rfl rfl rfl (by simp) (by omega) (by omega)), run_next (sd_step (n := 4) (k := 2) rfl (by omega) (by omega) rfl rfl rfl rfl (by simp) (by omega) (by omega)), run_next (sd_step (n := 4) (k := 3) rfl (by omega) (by omega) rfl rfl rfl rfl (by simp) (by omega) (by omega)), run_stop (sd_end (n := 4) rfl (by omega))]
  rfl
theorem sc_step {l : List Int} {n : Nat} {a0 an : Int} (k : Int) (hl : l.length = n + 1) (hn : 1 ≤ n ∧ n ≤ 10) (h0 : l[0]? = some a0) (h2 : l[n]? = some an) (b : -4000000000000000000 ≤ an ∧ an ≤ 4000000000000000000) : filter_Schur_l1 (l, k) = if -a0 < an ∧ an < a0 then (if n = 1 then some (.inr (.inl k)) else (filter_stepDown l).bind fun q => some (.inl (q, IntKind.i64.wrap (k + 1)))) else some (.inr (.inr k)) := by
  dsimp only [filter_Schur_l1]
  rw [w64 (x := (l.length : Int) - 1) (by omega), getI_of (i := 0) (k := 0) rfl, h0, Option.bind_some, getI_of (k := n) (by omega), h2, Option.bind_some, fsize_eq (by omega), Option.bind_some]
  by_cases q : -a0 < an ∧ an < a0
  · rw [if_pos q, if_pos (by simp only [decide_eq_true_eq]; omega)]
    by_cases q2 : n = 1
    · rw [if_pos q2, if_pos (by simp only [decide_eq_true_eq]; omega)]
    · rw [if_neg q2, if_neg (by simp only [decide_eq_true_eq]; omega)]
  · rw [if_neg q, if_neg (by simp only [decide_eq_true_eq]; omega)]
def Ends (l : List Int) (k : Int) (S : Prop) : Prop := (S ∧ ∃ i, run filter_Schur_l1 (l, k) = some (.inl i)) ∨ (¬ S ∧ ∃ i, run filter_Schur_l1 (l, k) = some (.inr i))
theorem sc2 {a b : Int} (k : Int) (hb : -4000000000000000000 ≤ b ∧ b ≤ 4000000000000000000) : Ends [a, b] k (St1 a b) := by
  have h := sc_step (l := [a, b]) (n := 1) k rfl (by omega) rfl rfl hb
  by_cases q : St1 a b
  · rw [if_pos (show -a < b ∧ b < a from q), if_pos rfl] at h
    exact .inl ⟨q, _, run_stop h⟩
  · rw [if_neg (show ¬ (-a < b ∧ b < a) from q)] at h
    exact .inr ⟨q, _, run_stop h⟩
theorem sc_next {l l' : List Int} {n : Nat} {a0 an : Int} {S : Prop} (k : Int) (hl : l.length = n + 1) (hn : 2 ≤ n ∧ n ≤ 10) (h0 : l[0]? = some a0) (h2 : l[n]? = some an) (b : -4000000000000000000 ≤ an ∧ an ≤ 4000000000000000000) (hs : filter_stepDown l = some l') (hN : ∀ k, Ends l' k S) : Ends l k ((-a0 < an ∧ an < a0) ∧ S) := by
  have h := sc_step (l := l) (n := n) k hl (by omega) h0 h2 b
  by_cases q : -a0 < an ∧ an < a0
  · rw [if_pos q, if_neg (by omega), hs, Option.bind_some] at h
    rcases hN (IntKind.i64.wrap (k + 1)) with ⟨s, i, hi⟩ | ⟨s, i, hi⟩
    · exact .inl ⟨⟨q, s⟩, i, by rw [run_next h]; exact hi⟩
    · exact .inr ⟨fun x => s x.2, i, by rw [run_next h]; exact hi⟩
  · rw [if_neg q] at h
    exact .inr ⟨fun x => q x.1, _, run_stop h⟩
theorem sc3 {a b c : Int} (k : Int) (ha : -1000000000 ≤ a ∧ a ≤ 1000000000) (hb : -1000000000 ≤ b ∧ b ≤ 1000000000) (hc : -1000000000 ≤ c ∧ c ≤ 1000000000) : Ends [a, b, c] k (St2 a b c) := by
  have m3 := bmul ha hb
  have m4 := bmul hc hb
  exact sc_next (n := 2) k rfl (by omega) rfl rfl (by omega) (sd3 ha hb hc) (fun k => sc2 k (by omega))
theorem sc4 {a b c d : Int} (k : Int) (ha : -20000 ≤ a ∧ a ≤ 20000) (hb : -20000 ≤ b ∧ b ≤ 20000) (hc : -20000 ≤ c ∧ c ≤ 20000) (hd : -20000 ≤ d ∧ d ≤ 20000) : Ends [a, b, c, d] k (St3 a b c d) := by
  have m1 := bmul ha ha
  have m2 := bmul hd hd
  have m3 := bmul ha hb
  have m4 := bmul hd hc
  have m5 := bmul ha hc
  have m6 := bmul hd hb
  exact sc_next (n := 3) k rfl (by omega) rfl rfl (by omega) (sd4 (by omega) (by omega) (by omega) (by omega)) (fun k => sc3 k (by omega) (by omega) (by omega))
theorem sc5 {a b c d e : Int} (k : Int) (ha : -100 ≤ a ∧ a ≤ 100) (hb : -100 ≤ b ∧ b ≤ 100) (hc : -100 ≤ c ∧ c ≤ 100) (hd : -100 ≤ d ∧ d ≤ 100) (he : -100 ≤ e ∧ e ≤ 100) : Ends [a, b, c, d, e] k (St4 a b c d e) := by
  have m1 := bmul ha ha
  have m2 := bmul he he
  have m3 := bmul ha hb
  have m4 := bmul he hd
  have m5 := bmul ha hc
  have m6 := bmul he hc
  have m7 := bmul ha hd
  have m8 := bmul he hb
  exact sc_next (n := 4) k rfl (by omega) rfl rfl (by omega) (sd5 (by omega) (by omega) (by omega) (by omega) (by omega)) (fun k => sc4 k (by omega) (by omega) (by omega) (by omega))
/-- what the program says of a right polynomial -/
theorem schur_is {l : List Int} {S : Prop} (hl : l.length ≤ 1024) (hp : polE l = 0) (h : Ends l 0 S) : ∃ b i, filter_Schur l = some (b, i, 0) ∧ (b = true ↔ S) := by
  unfold filter_Schur
  rw [fpol_eq l hl, hp, Option.bind_some, if_neg (by simp)]
  rcases h with ⟨s, i, hi⟩ | ⟨s, i, hi⟩
  · rw [hi]; exact ⟨true, i, rfl, by simp [s]⟩
  · rw [hi]; exact ⟨false, i, rfl, by simp [s]⟩
end Go.Rex

namespace Go.Rex
/-! ### products -/
theorem tm_in {v1 v2 r : List Int} {i j : Nat} {x a b : Int} (hj : j < v2.length) (hx : r[i + j]? = some x) (ha : v1[i]? = some a) (hb : v2[j]? = some b) (hij : i + j ≤ 100) (h1 : -100000 ≤ x ∧ x ≤ 100000) (h2 : -100000 ≤ a * b ∧ a * b ≤ 100000) : law06_times_l2 v1 v2 (i : Int) (r, (j : Int)) = some (.inl (r.set (i + j) (x + a * b), ((j + 1 : Nat) : Int))) := by
  dsimp only [law06_times_l2]
  have e : ((i : Int) + j).toNat = i + j := by omega
  rw [if_pos (by simp only [decide_eq_true_eq]; omega), w64 (x := (i : Int) + j) (by omega), getI_of (k := i + j) (by omega), hx, Option.bind_some, getI_nat, ha, Option.bind_some, getI_nat, hb, Option.bind_some, e, w64 (x := a * b) (by omega), w64 (x := x + a * b) (by omega), w64 (x := (j : Int) + 1) (by omega)]
  rfl
theorem tm_end {v1 v2 r : List Int} {i : Int} : law06_times_l2 v1 v2 i (r, (v2.length : Int)) = some (.inr r) := by
  dsimp only [law06_times_l2]
  rw [if_neg (by simp)]
theorem tm_out {v1 v2 r r' : List Int} {i : Nat} (hi : i < v1.length) (h2 : i ≤ 100) (h : run (law06_times_l2 v1 v2 (i : Int)) (r, ((0 : Nat) : Int)) = some r') : law06_times_l1 v1 v2 (r, (i : Int)) = some (.inl (r', ((i + 1 : Nat) : Int))) := by
  dsimp only [law06_times_l1]
  rw [show ((0 : Nat) : Int) = 0 from rfl] at h
  rw [if_pos (by simp only [decide_eq_true_eq]; omega), h, Option.bind_some, w64 (by omega)]
  rfl
theorem tm_fin {v1 v2 r : List Int} : law06_times_l1 v1 v2 (r, (v1.length : Int)) = some (.inr r) := by
  dsimp only [law06_times_l1]
  rw [if_neg (by simp)]
def sm (x : Int) : Prop := -100 ≤ x ∧ x ≤ 100
theorem smul {x y : Int} (hx : sm x) (hy : sm y) : -10000 ≤ x * y ∧ x * y ≤ 10000 := bmul hx hy
theorem tm22 {p q r s : Int} (hp : sm p) (hq : sm q) (hr : sm r) (hs : sm s) : law06_times [p, q] [r, s] = some [p * r, p * s + q * r, q * s] := by
  have mpr := smul hp hr
  have mps := smul hp hs
  have mqr := smul hq hr
  have mqs := smul hq hs
  have h0 : run (law06_times_l2 [p, q] [r, s] ((0 : Nat) : Int)) ([0, 0, 0], ((0 : Nat) : Int)) = some [0 + p * r, 0 + p * s, 0] := by
    rw [run_next (s' := ([0 + p * r, 0, 0], ((1 : Nat) : Int))) (tm_in (i := 0) (j := 0) (x := 0) (a := p) (b := r) (by simp) rfl rfl rfl (by omega) (by omega) (by omega)), run_next (s' := ([0 + p * r, 0 + p * s, 0], ((2 : Nat) : Int))) (tm_in (i := 0) (j := 1) (x := 0) (a := p) (b := s) (by simp) rfl rfl rfl (by omega) (by omega) (by omega))]
    exact run_stop tm_end
  have h1 : run (law06_times_l2 [p, q] [r, s] ((1 : Nat) : Int)) ([0 + p * r, 0 + p * s, 0], ((0 : Nat) : Int)) = some [0 + p * r, 0 + p * s + q * r, 0 + q * s] := by
    rw [run_next (s' := ([0 + p * r, 0 + p * s + q * r, 0], ((1 : Nat) : Int))) (tm_in (i := 1) (j := 0) (x := 0 + p * s) (a := q) (b := r) (by simp) rfl rfl rfl (by omega) (by omega) (by omega)), run_next (s' := ([0 + p * r, 0 + p * s + q * r, 0 + q * s], ((2 : Nat) : Int))) (tm_in (i := 1) (j := 1) (x := 0) (a := q) (b := s) (by simp) rfl rfl rfl (by omega) (by omega) (by omega))]
    exact run_stop tm_end
  have hm : mkI 8 (IntKind.i64.wrap (IntKind.i64.wrap ((([p, q] : List Int).length : Int) + (([r, s] : List Int).length : Int)) - 1)) (0 : Int) = some [0, 0, 0] := by
    rw [show ((([p, q] : List Int).length : Int) + (([r, s] : List Int).length : Int)) = 4 from rfl, w64 (x := 4) (by omega), w64 (x := 4 - 1) (by omega)]
    rfl
  have hrun : run (law06_times_l1 [p, q] [r, s]) ([0, 0, 0], ((0 : Nat) : Int)) = some [0 + p * r, 0 + p * s + q * r, 0 + q * s] := by
    rw [run_next (tm_out (i := 0) (by simp) (by omega) h0), run_next (tm_out (i := 1) (by simp) (by omega) h1)]
    exact run_stop tm_fin
  rw [show ((0 : Nat) : Int) = 0 from rfl] at hrun
  unfold law06_times
  rw [hm, Option.bind_some, hrun, Option.bind_some]
  simp only [Int.zero_add]
theorem tm23 {p q d e f : Int} (hp : sm p) (hq : sm q) (hd : sm d) (he : sm e) (hf : sm f) : law06_times [p, q] [d, e, f] = some [p * d, p * e + q * d, p * f + q * e, q * f] := by
  have mpd := smul hp hd
  have mpe := smul hp he
  have mpf := smul hp hf
  have mqd := smul hq hd
  have mqe := smul hq he
  have mqf := smul hq hf
  have h0 : run (law06_times_l2 [p, q] [d, e, f] ((0 : Nat) : Int)) ([0, 0, 0, 0], ((0 : Nat) : Int)) = some [0 + p * d, 0 + p * e, 0 + p * f, 0] := by
    rw [run_next (s' := ([0 + p * d, 0, 0, 0], ((1 : Nat) : Int))) (tm_in (i := 0) (j := 0) (x := 0) (a := p) (b := d) (by simp) rfl rfl rfl (by omega) (by omega) (by omega)), run_next (s' := ([0 + p * d, 0 + p * e, 0, 0], ((2 : Nat) : Int))) (tm_in (i := 0) (j := 1) (x := 0) (a := p) (b := e) (by simp) rfl rfl rfl (by omega) (by omega) (by omega)), run_next (s' := ([0 + p * d, 0 + p * e, 0 + p * f, 0], ((3 : Nat) : Int))) (tm_in (i := 0) (j := 2) (x := 0) (a := p) (b := f) (by simp) rfl rfl rfl (by omega) (by omega) (by omega))]
    exact run_stop tm_end
  have h1 : run (law06_times_l2 [p, q] [d, e, f] ((1 : Nat) : Int)) ([0 + p * d, 0 + p * e, 0 + p * f, 0], ((0 : Nat) : Int)) = some [0 + p * d, 0 + p * e + q * d, 0 + p * f + q * e, 0 + q * f] := by
    rw [run_next (s' := ([0 + p * d, 0 + p * e + q * d, 0 + p * f, 0], ((1 : Nat) : Int))) (tm_in (i := 1) (j := 0) (x := 0 + p * e) (a := q) (b := d) (by simp) rfl rfl rfl (by omega) (by omega) (by omega)), run_next (s' := ([0 + p * d, 0 + p * e + q * d, 0 + p * f + q * e, 0], ((2 : Nat) : Int))) (tm_in (i := 1) (j := 1) (x := 0 + p * f) (a := q) (b := e) (by simp) rfl rfl rfl (by omega) (by omega) (by omega)), run_next (s' := ([0 + p * d, 0 + p * e + q * d, 0 + p * f + q * e, 0 + q * f], ((3 : Nat) : Int))) (tm_in (i := 1) (j := 2) (x := 0) (a := q) (b := f) (by simp) rfl rfl rfl (by omega) (by omega) (by omega))]
    exact run_stop tm_end
  have hm : mkI 8 (IntKind.i64.wrap (IntKind.i64.wrap ((([p, q] : List Int).length : Int) + (([d, e, f] : List Int).length : Int)) - 1)) (0 : Int) = some [0, 0, 0, 0] := by
    rw [show ((([p, q] : List Int).length : Int) + (([d, e, f] : List Int).length : Int)) = 5 from rfl, w64 (x := 5) (by omega), w64 (x := 5 - 1) (by omega)]
    rfl
  have hrun : run (law06_times_l1 [p, q] [d, e, f]) ([0, 0, 0, 0], ((0 : Nat) : Int)) = some [0 + p * d, 0 + p * e + q * d, 0 + p * f + q * e, 0 + q * f] := by
    rw [run_next (tm_out (i := 0) (by simp) (by omega) h0), run_next (tm_out (i := 1) (by simp) (by omega) h1)]
    exact run_stop tm_fin
  rw [show ((0 : Nat) : Int) = 0 from rfl] at hrun
  unfold law06_times
  rw [hm, Option.bind_some, hrun, Option.bind_some]
  simp only [Int.zero_add]
theorem tm32 {d e f p q : Int} (hd : sm d) (he : sm e) (hf : sm f) (hp : sm p) (hq : sm q) : law06_times [d, e, f] [p, q] = some [d * p, d * q + e * p, e * q + f * p, f * q] := by
  have mdp := smul hd hp
  have mdq := smul hd hq
  have mep := smul he hp
  have meq := smul he hq
  have mfp := smul hf hp
  have mfq := smul hf hq
  have h0 : run (law06_times_l2 [d, e, f] [p, q] ((0 : Nat) : Int)) ([0, 0, 0, 0], ((0 : Nat) : Int)) = some [0 + d * p, 0 + d * q, 0, 0] := by
    rw [run_next (s' := ([0 + d * p, 0, 0, 0], ((1 : Nat) : Int))) (tm_in (i := 0) (j := 0) (x := 0) (a := d) (b := p) (by simp) rfl rfl rfl (by omega) (by omega) (by omega)), run_next (s' := ([0 + d * p, 0 + d * q, 0, 0], ((2 : Nat) : Int))) (tm_in (i := 0) (j := 1) (x := 0) (a := d) (b := q) (by simp) rfl rfl rfl (by omega) (by omega) (by omega))]
    exact run_stop tm_end
  have h1 : run (law06_times_l2 [d, e, f] [p, q] ((1 : Nat) : Int)) ([0 + d * p, 0 + d * q, 0, 0], ((0 : Nat) : Int)) = some [0 + d * p, 0 + d * q + e * p, 0 + e * q, 0] := by
    rw [run_next (s' := ([0 + d * p, 0 + d * q + e * p, 0, 0], ((1 : Nat) : Int))) (tm_in (i := 1) (j := 0) (x := 0 + d * q) (a := e) (b := p) (by simp) rfl rfl rfl (by omega) (by omega) (by omega)), run_next (s' := ([0 + d * p, 0 + d * q + e * p, 0 + e * q, 0], ((2 : Nat) : Int))) (tm_in (i := 1) (j := 1) (x := 0) (a := e) (b := q) (by simp) rfl rfl rfl (by omega) (by omega) (by omega))]
    exact run_stop tm_end
  have h2 : run (law06_times_l2 [d, e, f] [p, q] ((2 : Nat) : Int)) ([0 + d * p, 0 + d * q + e * p, 0 + e * q, 0], ((0 : Nat) : Int)) = some [0 + d * p, 0 + d * q + e * p, 0 + e * q + f * p, 0 + f * q] := by
    rw [run_next (s' := ([0 + d * p, 0 + d * q + e * p, 0 + e * q + f * p, 0], ((1 : Nat) : Int))) (tm_in (i := 2) (j := 0) (x := 0 + e * q) (a := f) (b := p) (by simp) rfl rfl rfl (by omega) (by omega) (by omega)), run_next (s' := ([0 + d * p, 0 + d * q + e * p, 0 + e * q + f * p, 0 + f * q], ((2 : Nat) : Int))) (tm_in (i := 2) (j := 1) (x := 0) (a := f) (b := q) (by simp) rfl rfl rfl (by omega) (by omega) (by omega))]
    exact run_stop tm_end
  have hm : mkI 8 (IntKind.i64.wrap (IntKind.i64.wrap ((([d, e, f] : List Int).length : Int) + (([p, q] : List Int).length : Int)) - 1)) (0 : Int) = some [0, 0, 0, 0] := by
    rw [show ((([d, e, f] : List Int).length : Int) + (([p, q] : List Int).length : Int)) = 5 from rfl, w64 (x := 5) (by omega), w64 (x := 5 - 1) (by omega)]
    rfl
  have hrun : run (law06_times_l1 [d, e, f] [p, q]) ([0, 0, 0, 0], ((0 : Nat) : Int)) = some [0 + d * p, 0 + d * q + e * p, 0 + e * q + f * p, 0 + f * q] := by
    rw [run_next (tm_out (i := 0) (by simp) (by omega) h0), run_next (tm_out (i := 1) (by simp) (by omega) h1), run_next (tm_out (i := 2) (by simp) (by omega) h2)]
    exact run_stop tm_fin
  rw [show ((0 : Nat) : Int) = 0 from rfl] at hrun
  unfold law06_times
  rw [hm, Option.bind_some, hrun, Option.bind_some]
  simp only [Int.zero_add]
theorem tm24 {p q a b c d : Int} (hp : sm p) (hq : sm q) (ha : sm a) (hb : sm b) (hc : sm c) (hd : sm d) : law06_times [p, q] [a, b, c, d] = some [p * a, p * b + q * a, p * c + q * b, p * d + q * c, q * d] := by
  have mpa := smul hp ha
  have mpb := smul hp hb
  have mpc := smul hp hc
  have mpd := smul hp hd
  have mqa := smul hq ha
  have mqb := smul hq hb
  have mqc := smul hq hc
  have mqd := smul hq hd
  have h0 : run (law06_times_l2 [p, q] [a, b, c, d] ((0 : Nat) : Int)) ([0, 0, 0, 0, 0], ((0 : Nat) : Int)) = some [0 + p * a, 0 + p * b, 0 + p * c, 0 + p * d, 0] := by
    rw [run_next (s' := ([0 + p * a, 0, 0, 0, 0], ((1 : Nat) : Int))) (tm_in (i := 0) (j := 0) (x := 0) (a := p) (b := a) (by simp) rfl rfl rfl (by omega) (by omega) (by omega)), run_next (s' := ([0 + p * a, 0 + p * b, 0, 0, 0], ((2 : Nat) : Int))) (tm_in (i := 0) (j := 1) (x := 0) (a := p) (b := b) (by simp) rfl rfl rfl (by omega) (by omega) (by omega)), run_next (s' := ([0 + p * a, 0 + p * b, 0 + p * c, 0, 0], ((3 : Nat) : Int))) (tm_in (i := 0) (j := 2) (x := 0) (a := p) (b := c) (by simp) rfl rfl rfl (by omega) (by omega) (by omega)), run_next (s' := ([0 + p * a, 0 + p * b, 0 + p * c, 0 + p * d, 0], ((4 : Nat) : Int))) (tm_in (i := 0) (j := 3) (x := 0) (a := p) (b := d) (by simp) rfl rfl rfl (by omega) (by omega) (by omega))]
    exact run_stop tm_end
  have h1 : run (law06_times_l2 [p, q] [a, b, c, d] ((1 : Nat) : Int)) ([0 + p * a, 0 + p * b, 0 + p * c, 0 + p * d, 0], ((0 : Nat) : Int)) = some [0 + p * a, 0 + p * b + q * a, 0 + p * c + q * b, 0 + p * d + q * c, 0 + q * d] := by
    rw [run_next (s' := ([0 + p * a, 0 + p * b + q * a, 0 + p * c, 0 + p * d, 0], ((1 : Nat) : Int))) (tm_in (i := 1) (j := 0) (x := 0 + p * b) (a := q) (b := a) (by simp) rfl rfl rfl (by omega) (by omega) (by omega)), run_next (s' := ([0 + p * a, 0 + p * b + q * a, 0 + p * c + q * b, 0 + p * d, 0], ((2 : Nat) : Int))) (tm_in (i := 1) (j := 1) (x := 0 + p * c) (a := q) (b := b) (by simp) rfl rfl rfl (by omega) (by omega) (by omega)), run_next (s' := ([0 + p * a, 0 + p * b + q * a, 0 + p * c + q * b, 0 + p * d + q * c, 0], ((3 : Nat) : Int))) (tm_in (i := 1) (j := 2) (x := 0 + p * d) (a := q) (b := c) (by simp) rfl rfl rfl (by omega) (by omega) (by omega)), run_next (s' := ([0 + p * a, 0 + p * b + q * a, 0 + p * c + q * b, 0 + p * d + q * c, 0 + q * d], ((4 : Nat) : Int))) (tm_in (i := 1) (j := 3) (x := 0) (a := q) (b := d) (by simp) rfl rfl rfl (by omega) (by omega) (by omega))]
    exact run_stop tm_end
  have hm : mkI 8 (IntKind.i64.wrap (IntKind.i64.wrap ((([p, q] : List Int).length : Int) + (([a, b, c, d] : List Int).length : Int)) - 1)) (0 : Int) = some [0, 0, 0, 0, 0] := by
    rw [show ((([p, q] : List Int).length : Int) + (([a, b, c, d] : List Int).length : Int)) = 6 from rfl, w64 (x := 6) (by omega), w64 (x := 6 - 1) (by omega)]
    rfl
  have hrun : run (law06_times_l1 [p, q] [a, b, c, d]) ([0, 0, 0, 0, 0], ((0 : Nat) : Int)) = some [0 + p * a, 0 + p * b + q * a, 0 + p * c + q * b, 0 + p * d + q * c, 0 + q * d] := by
    rw [run_next (tm_out (i := 0) (by simp) (by omega) h0), run_next (tm_out (i := 1) (by simp) (by omega) h1)]
    exact run_stop tm_fin
  rw [show ((0 : Nat) : Int) = 0 from rfl] at hrun
  unfold law06_times
  rw [hm, Option.bind_some, hrun, Option.bind_some]
  simp only [Int.zero_add]
theorem tm42 {a b c d p q : Int} (ha : sm a) (hb : sm b) (hc : sm c) (hd : sm d) (hp : sm p) (hq : sm q) : law06_times [a, b, c, d] [p, q] = some [a * p, a * q + b * p, b * q + c * p, c * q + d * p, d * q] := by
  have map := smul ha hp
  have maq := smul ha hq
  have mbp := smul hb hp
  have mbq := smul hb hq
  have mcp := smul hc hp
  have mcq := smul hc hq
  have mdp := smul hd hp
  have mdq := smul hd hq
  have h0 : run (law06_times_l2 [a, b, c, d] [p, q] ((0 : Nat) : Int)) ([0, 0, 0, 0, 0], ((0 : Nat) : Int)) = some [0 + a * p, 0 + a * q, 0, 0, 0] := by
    rw [run_next (s' := ([0 + a * p, 0, 0, 0, 0], ((1 : Nat) : Int))) (tm_in (i := 0) (j := 0) (x := 0) (a := a) (b := p) (by simp) rfl rfl rfl (by omega) (by omega) (by omega)), run_next (s' := ([0 + a * p, 0 + a * q, 0, 0, 0], ((2 : Nat) : Int))) (tm_in (i := 0) (j := 1) (x := 0) (a := a) (b := q) (by simp) rfl rfl rfl (by omega) (by omega) (by omega))]
    exact run_stop tm_end
  have h1 : run (law06_times_l2 [a, b, c, d] [p, q] ((1 : Nat) : Int)) ([0 + a * p, 0 + a * q, 0, 0, 0], ((0 : Nat) : Int)) = some [0 + a * p, 0 + a * q + b * p, 0 + b * q, 0, 0] := by
    rw [run_next (s' := ([0 + a * p, 0 + a * q + b * p, 0, 0, 0], ((1 : Nat) : Int))) (tm_in (i := 1) (j := 0) (x := 0 + a * q) (a := b) (b := p) (by simp) rfl rfl rfl (by omega) (by omega) (by omega)), run_next (s' := ([0 + a * p, 0 + a * q + b * p, 0 + b * q, 0, 0], ((2 : Nat) : Int))) (tm_in (i := 1) (j := 1) (x := 0) (a := b) (b := q) (by simp) rfl rfl rfl (by omega) (by omega) (by omega))]
    exact run_stop tm_end
  have h2 : run (law06_times_l2 [a, b, c, d] [p, q] ((2 : Nat) : Int)) ([0 + a * p, 0 + a * q + b * p, 0 + b * q, 0, 0], ((0 : Nat) : Int)) = some [0 + a * p, 0 + a * q + b * p, 0 + b * q + c * p, 0 + c * q, 0] := by
    rw [run_next (s' := ([0 + a * p, 0 + a * q + b * p, 0 + b * q + c * p, 0, 0], ((1 : Nat) : Int))) (tm_in (i := 2) (j := 0) (x := 0 + b * q) (a := c) (b := p) (by simp) rfl rfl rfl (by omega) (by omega) (by omega)), run_next (s' := ([0 + a * p, 0 + a * q + b * p, 0 + b * q + c * p, 0 + c * q, 0], ((2 : Nat) : Int))) (tm_in (i := 2) (j := 1) (x := 0) (a := c) (b := q) (by simp) rfl rfl rfl (by omega) (by omega) (by omega))]
    exact run_stop tm_end
  have h3 : run (law06_times_l2 [a, b, c, d] [p, q] ((3 : Nat) : Int)) ([0 + a * p, 0 + a * q + b * p, 0 + b * q + c * p, 0 + c * q, 0], ((0 : Nat) : Int)) = some [0 + a * p, 0 + a * q + b * p, 0 + b * q + c * p, 0 + c * q + d * p, 0 + d * q] := by
    rw [run_next (s' := ([0 + a * p, 0 + a * q + b * p, 0 + b * q + c * p, 0 + c * q + d * p, 0], ((1 : Nat) : Int))) (tm_in (i := 3) (j := 0) (x := 0 + c * q) (a := d) (b := p) (by simp) rfl rfl rfl (by omega) (by omega) (by omega)), run_next (s' := ([0 + a * p, 0 + a * q + b * p, 0 + b * q + c * p, 0 + c * q + d * p, 0 + d * q], ((2 : Nat) : Int))) (tm_in (i := 3) (j := 1) (x := 0) (a := d) (b := q) (by simp) rfl rfl rfl (by omega) (by omega) (by omega))]
    exact run_stop tm_end
  have hm : mkI 8 (IntKind.i64.wrap (IntKind.i64.wrap ((([a, b, c, d] : List Int).length : Int) + (([p, q] : List Int).length : Int)) - 1)) (0 : Int) = some [0, 0, 0, 0, 0] := by
    rw [show ((([a, b, c, d] : List Int).length : Int) + (([p, q] : List Int).length : Int)) = 6 from rfl, w64 (x := 6) (by omega), w64 (x := 6 - 1) (by omega)]
    rfl
  have hrun : run (law06_times_l1 [a, b, c, d] [p, q]) ([0, 0, 0, 0, 0], ((0 : Nat) : Int)) = some [0 + a * p, 0 + a * q + b * p, 0 + b * q + c * p, 0 + c * q + d * p, 0 + d * q] := by
    rw [run_next (tm_out (i := 0) (by simp) (by omega) h0), run_next (tm_out (i := 1) (by simp) (by omega) h1), run_next (tm_out (i := 2) (by simp) (by omega) h2), run_next (tm_out (i := 3) (by simp) (by omega) h3)]
    exact run_stop tm_fin
  rw [show ((0 : Nat) : Int) = 0 from rfl] at hrun
  unfold law06_times
  rw [hm, Option.bind_some, hrun, Option.bind_some]
  simp only [Int.zero_add]
theorem tm33 {a b c d e f : Int} (ha : sm a) (hb : sm b) (hc : sm c) (hd : sm d) (he : sm e) (hf : sm f) : law06_times [a, b, c] [d, e, f] = some [a * d, a * e + b * d, a * f + b * e + c * d, b * f + c * e, c * f] := by
  have mad := smul ha hd
  have mae := smul ha he
  have maf := smul ha hf
  have mbd := smul hb hd
  have mbe := smul hb he
  have mbf := smul hb hf
  have mcd := smul hc hd
  have mce := smul hc he
  have mcf := smul hc hf
  have h0 : run (law06_times_l2 [a, b, c] [d, e, f] ((0 : Nat) : Int)) ([0, 0, 0, 0, 0], ((0 : Nat) : Int)) = some [0 + a * d, 0 + a * e, 0 + a * f, 0, 0] := by
    rw [run_next (s' := ([0 + a * d, 0, 0, 0, 0], ((1 : Nat) : Int))) (tm_in (i := 0) (j := 0) (x := 0) (a := a) (b := d) (by simp) rfl rfl rfl (by omega) (by omega) (by omega)), run_next (s' := ([0 + a * d, 0 + a * e, 0, 0, 0], ((2 : Nat) : Int))) (tm_in (i := 0) (j := 1) (x := 0) (a := a) (b := e) (by simp) rfl rfl rfl (by omega) (by omega) (by omega)), run_next (s' := ([0 + a * d, 0 + a * e, 0 + a * f, 0, 0], ((3 : Nat) : Int))) (tm_in (i := 0) (j := 2) (x := 0) (a := a) (b := f) (by simp) rfl rfl rfl (by omega) (by omega) (by omega))]
    exact run_stop tm_end
  have h1 : run (law06_times_l2 [a, b, c] [d, e, f] ((1 : Nat) : Int)) ([0 + a * d, 0 + a * e, 0 + a * f, 0, 0], ((0 : Nat) : Int)) = some [0 + a * d, 0 + a * e + b * d, 0 + a * f + b * e, 0 + b * f, 0] := by
    rw [run_next (s' := ([0 + a * d, 0 + a * e + b * d, 0 + a * f, 0, 0], ((1 : Nat) : Int))) (tm_in (i := 1) (j := 0) (x := 0 + a * e) (a := b) (b := d) (by simp) rfl rfl rfl (by omega) (by omega) (by omega)), run_next (s' := ([0 + a * d, 0 + a * e + b * d, 0 + a * f + b * e, 0, 0], ((2 : Nat) : Int))) (tm_in (i := 1) (j := 1) (x := 0 + a * f) (a := b) (b := e) (by simp) rfl rfl rfl (by omega) (by omega) (by omega)), run_next (s' := ([0 + a * d, 0 + a * e + b * d, 0 + a * f + b * e, 0 + b * f, 0], ((3 : Nat) : Int))) (tm_in (i := 1) (j := 2) (x := 0) (a := b) (b := f) (by simp) rfl rfl rfl (by omega) (by omega) (by omega))]
    exact run_stop tm_end
  have h2 : run (law06_times_l2 [a, b, c] [d, e, f] ((2 : Nat) : Int)) ([0 + a * d, 0 + a * e + b * d, 0 + a * f + b * e, 0 + b * f, 0], ((0 : Nat) : Int)) = some [0 + a * d, 0 + a * e + b * d, 0 + a * f + b * e + c * d, 0 + b * f + c * e, 0 + c * f] := by
    rw [run_next (s' := ([0 + a * d, 0 + a * e + b * d, 0 + a * f + b * e + c * d, 0 + b * f, 0], ((1 : Nat) : Int))) (tm_in (i := 2) (j := 0) (x := 0 + a * f + b * e) (a := c) (b := d) (by simp) rfl rfl rfl (by omega) (by omega) (by omega)), run_next (s' := ([0 + a * d, 0 + a * e + b * d, 0 + a * f + b * e + c * d, 0 + b * f + c * e, 0], ((2 : Nat) : Int))) (tm_in (i := 2) (j := 1) (x := 0 + b * f) (a := c) (b := e) (by simp) rfl rfl rfl (by omega) (by omega) (by omega)), run_next (s' := ([0 + a * d, 0 + a * e + b * d, 0 + a * f + b * e + c * d, 0 + b * f + c * e, 0 + c * f], ((3 : Nat) : Int))) (tm_in (i := 2) (j := 2) (x := 0) (a := c) (b := f) (by simp) rfl rfl rfl (by omega) (by omega) (by omega))]
    exact run_stop tm_end
  have hm : mkI 8 (IntKind.i64.wrap (IntKind.i64.wrap ((([a, b, c] : List Int).length : Int) + (([d, e, f] : List Int).length : Int)) - 1)) (0 : Int) = some [0, 0, 0, 0, 0] := by
    rw [show ((([a, b, c] : List Int).length : Int) + (([d, e, f] : List Int).length : Int)) = 6 from rfl, w64 (x := 6) (by omega), w64 (x := 6 - 1) (by omega)]
    rfl
  have hrun : run (law06_times_l1 [a, b, c] [d, e, f]) ([0, 0, 0, 0, 0], ((0 : Nat) : Int)) = some [0 + a * d, 0 + a * e + b * d, 0 + a * f + b * e + c * d, 0 + b * f + c * e, 0 + c * f] := by
    rw [run_next (tm_out (i := 0) (by simp) (by omega) h0), run_next (tm_out (i := 1) (by simp) (by omega) h1), run_next (tm_out (i := 2) (by simp) (by omega) h2)]
    exact run_stop tm_fin
  rw [show ((0 : Nat) : Int) = 0 from rfl] at hrun
  unfold law06_times
  rw [hm, Option.bind_some, hrun, Option.bind_some]
  simp only [Int.zero_add]

theorem pol_ok {l : List Int} (h : polE l = 0) : (2 ≤ l.length ∧ l.length ≤ 5) ∧ (∀ x, x ∈ l → sm x) ∧ (0 : Int) < l[0]?.getD 0 := by
  unfold polE at h
  split at h
  · rename_i h1
    split at h
    · rename_i h2
      split at h
      · cases h
      · rename_i h3
        refine ⟨h1, fun x hx => ?_, by omega⟩
        have := List.all_eq_true.1 h2 x hx
        simpa [smallB, sm] using this
    · cases h
  · cases h
def Pair (l r : List Int) : Prop := ∃ (v : List Int) (S T U : Prop), law06_times l r = some v ∧ v.length ≤ 1024 ∧ Ends l 0 S ∧ Ends r 0 T ∧ (polE v = 0 → Ends v 0 U) ∧ (U ↔ S ∧ T) ∧ (l.length = 2 → ∃ a b, l = [a, b] ∧ sm b ∧ (S ↔ -a < b ∧ b < a))
theorem sm2 {x : Int} (h : sm x) : -20000 ≤ x ∧ x ≤ 20000 := by unfold sm at h; omega
theorem sm9 {x : Int} (h : sm x) : -1000000000 ≤ x ∧ x ≤ 1000000000 := by unfold sm at h; omega
theorem sm18 {x : Int} (h : sm x) : -4000000000000000000 ≤ x ∧ x ≤ 4000000000000000000 := by unfold sm at h; omega
theorem pair_all {l r : List Int} (hl : polE l = 0) (hr : polE r = 0) (hs : l.length + r.length ≤ 6) : Pair l r := by
  obtain ⟨l1, l2, l3⟩ := pol_ok hl
  obtain ⟨r1, r2, r3⟩ := pol_ok hr
  match l, r, l1, r1, hs, l2, r2, l3, r3 with
  | [p, q], [r, s], _, _, _, l2, r2, l3, r3 =>
    have hp := l2 p (by simp)
    have hq := l2 q (by simp)
    have hr := r2 r (by simp)
    have hs := r2 s (by simp)
    refine ⟨_, _, _, _, tm22 hp hq hr hs, by simp, sc2 0 (sm18 hq), sc2 0 (sm18 hs), fun h => ?_, f11 l3 r3, fun _ => ⟨p, q, rfl, hq, Iff.rfl⟩⟩
    have hv := (pol_ok h).2.1
    exact sc3 0 (sm9 (hv _ (by simp))) (sm9 (hv _ (by simp))) (sm9 (hv _ (by simp)))
  | [p, q], [d, e, f], _, _, _, l2, r2, l3, r3 =>
    have hp := l2 p (by simp)
    have hq := l2 q (by simp)
    have hd := r2 d (by simp)
    have he := r2 e (by simp)
    have hf := r2 f (by simp)
    refine ⟨_, _, _, _, tm23 hp hq hd he hf, by simp, sc2 0 (sm18 hq), sc3 0 (sm9 hd) (sm9 he) (sm9 hf), fun h => ?_, f12 l3 r3, fun _ => ⟨p, q, rfl, hq, Iff.rfl⟩⟩
    have hv := (pol_ok h).2.1
    exact sc4 0 (sm2 (hv _ (by simp))) (sm2 (hv _ (by simp))) (sm2 (hv _ (by simp))) (sm2 (hv _ (by simp)))
  | [d, e, f], [p, q], _, _, _, l2, r2, l3, r3 =>
    have hp := r2 p (by simp)
    have hq := r2 q (by simp)
    have hd := l2 d (by simp)
    have he := l2 e (by simp)
    have hf := l2 f (by simp)
    have hE : [d * p, d * q + e * p, e * q + f * p, f * q] = [p * d, p * e + q * d, p * f + q * e, q * f] := by
      rw [Int.mul_comm d p, Int.mul_comm d q, Int.mul_comm e p, Int.mul_comm e q, Int.mul_comm f p, Int.mul_comm f q, Int.add_comm (q * d), Int.add_comm (q * e)]
    refine ⟨_, _, _, _, (tm32 hd he hf hp hq).trans (congrArg some hE), by simp, sc3 0 (sm9 hd) (sm9 he) (sm9 hf), sc2 0 (sm18 hq), fun h => ?_, (f12 r3 l3).trans and_comm, fun h => by simp at h⟩
    have hv := (pol_ok h).2.1
    exact sc4 0 (sm2 (hv _ (by simp))) (sm2 (hv _ (by simp))) (sm2 (hv _ (by simp))) (sm2 (hv _ (by simp)))
  | [p, q], [a, b, c, d], _, _, _, l2, r2, l3, r3 =>
    have hp := l2 p (by simp)
    have hq := l2 q (by simp)
    have ha := r2 a (by simp)
    have hb := r2 b (by simp)
    have hc := r2 c (by simp)
    have hd := r2 d (by simp)
    refine ⟨_, _, _, _, tm24 hp hq ha hb hc hd, by simp, sc2 0 (sm18 hq), sc4 0 (sm2 ha) (sm2 hb) (sm2 hc) (sm2 hd), fun h => ?_, f13 l3 r3, fun _ => ⟨p, q, rfl, hq, Iff.rfl⟩⟩
    have hv := (pol_ok h).2.1
    exact sc5 0 (hv _ (by simp)) (hv _ (by simp)) (hv _ (by simp)) (hv _ (by simp)) (hv _ (by simp))
  | [a, b, c, d], [p, q], _, _, _, l2, r2, l3, r3 =>
    have hp := r2 p (by simp)
    have hq := r2 q (by simp)
    have ha := l2 a (by simp)
    have hb := l2 b (by simp)
    have hc := l2 c (by simp)
    have hd := l2 d (by simp)
    have hE : [a * p, a * q + b * p, b * q + c * p, c * q + d * p, d * q] = [p * a, p * b + q * a, p * c + q * b, p * d + q * c, q * d] := by
      rw [Int.mul_comm a p, Int.mul_comm a q, Int.mul_comm b p, Int.mul_comm b q, Int.mul_comm c p, Int.mul_comm c q, Int.mul_comm d p, Int.mul_comm d q, Int.add_comm (q * a), Int.add_comm (q * b), Int.add_comm (q * c)]
    refine ⟨_, _, _, _, (tm42 ha hb hc hd hp hq).trans (congrArg some hE), by simp, sc4 0 (sm2 ha) (sm2 hb) (sm2 hc) (sm2 hd), sc2 0 (sm18 hq), fun h => ?_, (f13 r3 l3).trans and_comm, fun h => by simp at h⟩
    have hv := (pol_ok h).2.1
    exact sc5 0 (hv _ (by simp)) (hv _ (by simp)) (hv _ (by simp)) (hv _ (by simp)) (hv _ (by simp))
  | [a, b, c], [d, e, f], _, _, _, l2, r2, l3, r3 =>
    have ha := l2 a (by simp)
    have hb := l2 b (by simp)
    have hc := l2 c (by simp)
    have hd := r2 d (by simp)
    have he := r2 e (by simp)
    have hf := r2 f (by simp)
    refine ⟨_, _, _, _, tm33 ha hb hc hd he hf, by simp, sc3 0 (sm9 ha) (sm9 hb) (sm9 hc), sc3 0 (sm9 hd) (sm9 he) (sm9 hf), fun h => ?_, f22 l3 r3, fun h => by simp at h⟩
    have hv := (pol_ok h).2.1
    exact sc5 0 (hv _ (by simp)) (hv _ (by simp)) (hv _ (by simp)) (hv _ (by simp)) (hv _ (by simp))
  | [], _, l1, _, _, _, _, _, _ => simp at l1
  | [_], _, l1, _, _, _, _, _, _ => simp at l1
  | _, [], _, r1, _, _, _, _, _ => simp at r1
  | _, [_], _, r1, _, _, _, _, _ => simp at r1
  | _ :: _ :: _ :: _ :: _ :: _, _ :: _ :: _, _, _, hs, _, _, _, _ => simp at hs; omega
  | _ :: _ :: _ :: _ :: _, _ :: _ :: _ :: _, _, _, hs, _, _, _, _ => simp at hs; omega
  | _ :: _ :: _ :: _, _ :: _ :: _ :: _ :: _, _, _, hs, _, _, _, _ => simp at hs; omega
  | _ :: _ :: _, _ :: _ :: _ :: _ :: _ :: _, _, _, hs, _, _, _, _ => simp at hs; omega
theorem factors_true (l r : List Int) : law06_FilterFactors l r = some true := by
  unfold law06_FilterFactors
  by_cases q1 : (l.length : Int) < 2
  · rw [if_pos (by simpa using q1)]
  rw [if_neg (by simpa using q1)]
  by_cases q2 : (r.length : Int) < 2
  · rw [if_pos (by simpa using q2)]
  rw [if_neg (by simpa using q2)]
  have big : ∀ v : List Int, 5 < v.length → ref06_PolynomialErr v = some 10 := fun v hv => by
    unfold ref06_PolynomialErr
    rw [within_eq, Option.bind_some, decide_eq_false (by omega), if_neg (by simp)]
  by_cases q3 : (IntKind.i64.wrap ((l.length : Int) + (r.length : Int))) > 6
  · rw [if_pos (by simpa using q3)]
  rw [if_neg (by simpa using q3)]
  by_cases b1 : 5 < l.length
  · rw [big l b1, Option.bind_some, if_pos (by simp)]
  rw [rpol_eq l (by omega), Option.bind_some]
  by_cases e1 : polE l = 0
  case neg => rw [if_pos (by simpa using e1)]
  rw [if_neg (by simpa using e1)]
  by_cases b2 : 5 < r.length
  · rw [big r b2, Option.bind_some, if_pos (by simp)]
  rw [rpol_eq r (by omega), Option.bind_some]
  by_cases e2 : polE r = 0
  case neg => rw [if_pos (by simpa using e2)]
  rw [if_neg (by simpa using e2)]
  rw [w64 (by omega)] at q3
  obtain ⟨v, S, T, U, h1, h2, h3, h4, h5, h6, h7⟩ := pair_all e1 e2 (by omega)
  rw [h1, Option.bind_some, rpol_eq v h2, Option.bind_some]
  by_cases e3 : polE v = 0
  case neg => rw [if_pos (by simpa using e3)]
  rw [if_neg (by simpa using e3), copyInts_eq (l := l) (by omega), Option.bind_some]
  obtain ⟨x1, i1, g1, w1⟩ := schur_is (by omega) e1 h3
  obtain ⟨x2, i2, g2, w2⟩ := schur_is (by omega) e2 h4
  obtain ⟨x3, i3, g3, w3⟩ := schur_is h2 e3 (h5 e3)
  rw [g1, Option.bind_some]
  dsimp only
  rw [copyInts_eq (l := r) (by omega), Option.bind_some, g2, Option.bind_some]
  dsimp only
  rw [g3, Option.bind_some]
  dsimp only
  rw [if_neg (by simp), if_neg (by simp), if_neg (by simp)]
  have hx3 : x3 = (x1 && x2) := by
    rw [Bool.eq_iff_iff, Bool.and_eq_true, w1, w2, w3]
    exact h6
  subst hx3
  have fin : (if (decide ((l.length : Int) ≠ 2)) = true then (some (true)) else ((getI l 1).bind fun v19 => (base_Size v19).bind fun v20 => (getI l 0).bind fun v21 => some ((x1 == (decide (v20 < v21)))))) = some true := by
    by_cases q4 : l.length = 2
    · obtain ⟨a, b, rfl, hb, hS⟩ := h7 q4
      have hg : getI [a, b] 1 = some b := rfl
      have hg0 : getI [a, b] 0 = some a := rfl
      unfold sm at hb
      rw [if_neg (by simp), hg, Option.bind_some, bsize_eq (by omega), Option.bind_some, hg0, Option.bind_some]
      have : x1 = decide ((b.natAbs : Int) < a) := by
        rw [Bool.eq_iff_iff, w1, hS, decide_eq_true_eq]
        omega
      rw [this]
      simp
    · rw [if_pos (by simp only [decide_eq_true_eq]; omega)]
  cases x1
  · rw [if_neg (by simp), if_pos (by simp)]
    exact fin
  · rw [if_pos rfl, if_pos (by simp)]
    exact fin
end Go.Rex

namespace Go.Rex
open Go Go.ChangeShapes Go.WideShapes Go.ChangeAt Go.RowKit Go.Joins Go.Proofs
/-! ### arguments: what they are as trees, and the names of their blocks -/
structure Arg (W : World) (v' : Value) (p : TV) (bs : List Blk) (is : List Info) (av : Nat → Value) : Prop where
  vr : ∀ (D : Nat → Prop) (m : NMap) n, (∀ j, j < bs.length → D (n + j)) → (∀ (j : Nat) i, is[j]? = some i → m (n + j) = i) → VR D m (av n) v'
  vl : ∀ (Fz : Nat → Prop) (h : List Blk) n, (∀ j, j < bs.length → Fz (n + j)) → (∀ (j : Nat) b, bs[j]? = some b → h[n + j]? = some b) → VL Fz h noL p (av n)
  ok : ∀ (D : Nat → Prop) (m : NMap) n, (∀ j, j < bs.length → D (n + j)) → (∀ (j : Nat) i, is[j]? = some i → m (n + j) = i) → ∀ (j : Nat) b, bs[j]? = some b → BlkOk D m W (n + j) b
  lt : ∀ (j : Nat) b i, bs[j]? = some b → is[j]? = some i → b ≠ .dead → i.block < W.heap.size
  len : is.length = bs.length
structure Args (W : World) (vs' : List Value) (ps : List TV) (bs : List Blk) (is : List Info) (av : Nat → List Value) : Prop where
  vr : ∀ (D : Nat → Prop) (m : NMap) n, (∀ j, j < bs.length → D (n + j)) → (∀ (j : Nat) i, is[j]? = some i → m (n + j) = i) → VRs D m (av n) vs'
  vl : ∀ (Fz : Nat → Prop) (h : List Blk) n, (∀ j, j < bs.length → Fz (n + j)) → (∀ (j : Nat) b, bs[j]? = some b → h[n + j]? = some b) → VLs Fz h noL ps (av n)
  ok : ∀ (D : Nat → Prop) (m : NMap) n, (∀ j, j < bs.length → D (n + j)) → (∀ (j : Nat) i, is[j]? = some i → m (n + j) = i) → ∀ (j : Nat) b, bs[j]? = some b → BlkOk D m W (n + j) b
  lt : ∀ (j : Nat) b i, bs[j]? = some b → is[j]? = some i → b ≠ .dead → i.block < W.heap.size
  len : is.length = bs.length
theorem Args.nil (W : World) : Args W [] [] [] [] (fun _ => []) :=
  ⟨fun _ _ _ _ _ => ⟨rfl, fun i a a' h => by simp at h⟩, fun _ _ _ _ _ => .nil, fun _ _ _ _ _ j b h => by simp at h, fun j b i h => by simp at h, rfl⟩
theorem Args.cons {W : World} {v' : Value} {p : TV} {bs bs2 : List Blk} {is is2 : List Info} {av : Nat → Value} {vs' : List Value} {ps : List TV} {avs : Nat → List Value}
    (a : Arg W v' p bs is av) (as : Args W vs' ps bs2 is2 avs) : Args W (v' :: vs') (p :: ps) (bs ++ bs2) (is ++ is2) (fun n => av n :: avs (n + bs.length)) := by
  have cD : ∀ (D : Nat → Prop) n, (∀ j, j < (bs ++ bs2).length → D (n + j)) → (∀ j, j < bs.length → D (n + j)) ∧ (∀ j, j < bs2.length → D (n + bs.length + j)) := by
    intro D n h
    refine ⟨fun j hj => h j (by simp; omega), fun j hj => ?_⟩
    have := h (bs.length + j) (by simp; omega)
    rwa [← Nat.add_assoc] at this
  have cI : ∀ (m : NMap) n, (∀ (j : Nat) i, (is ++ is2)[j]? = some i → m (n + j) = i) → (∀ (j : Nat) i, is[j]? = some i → m (n + j) = i) ∧ (∀ (j : Nat) i, is2[j]? = some i → m (n + bs.length + j) = i) := by
    intro m n h
    refine ⟨fun j i hj => h j i (by rw [List.getElem?_append_left (List.getElem?_eq_some_iff.1 hj).1]; exact hj), fun j i hj => ?_⟩
    have := h (bs.length + j) i (by rw [List.getElem?_append_right (by rw [a.len]; omega), a.len, Nat.add_sub_cancel_left]; exact hj)
    rwa [← Nat.add_assoc] at this
  refine ⟨fun D m n hD hm => ?_, fun Fz h n hF hh => ?_, fun D m n hD hm j b hb => ?_, fun j b i hb hi hd => ?_, by simp [a.len, as.len]⟩
  · have h1 := a.vr D m n (cD D n hD).1 (cI m n hm).1
    have h2 := as.vr D m (n + bs.length) (cD D n hD).2 (cI m n hm).2
    refine ⟨by simp [h2.len], fun i x x' hx hx' => ?_⟩
    cases i with
    | zero => simp at hx hx'; subst hx hx'; exact h1
    | succ i => simp at hx hx'; exact h2.at' i x x' hx hx'
  · refine .cons (a.vl Fz h n (cD Fz n hF).1 fun j b hb => hh j b (by rw [List.getElem?_append_left (List.getElem?_eq_some_iff.1 hb).1]; exact hb)) (as.vl Fz h (n + bs.length) (cD Fz n hF).2 fun j b hb => ?_)
    have := hh (bs.length + j) b (by rw [List.getElem?_append_right (by omega), Nat.add_sub_cancel_left]; exact hb)
    rwa [← Nat.add_assoc] at this
  · rcases Nat.lt_or_ge j bs.length with hj | hj
    · rw [List.getElem?_append_left hj] at hb
      exact a.ok D m n (cD D n hD).1 (cI m n hm).1 j b hb
    · rw [List.getElem?_append_right hj] at hb
      have := as.ok D m (n + bs.length) (cD D n hD).2 (cI m n hm).2 _ b hb
      rwa [show n + bs.length + (j - bs.length) = n + j by omega] at this
  · rcases Nat.lt_or_ge j bs.length with hj | hj
    · rw [List.getElem?_append_left hj] at hb
      rw [List.getElem?_append_left (by rw [a.len]; exact hj)] at hi
      exact a.lt j b i hb hi hd
    · rw [List.getElem?_append_right hj] at hb
      rw [List.getElem?_append_right (by rw [a.len]; exact hj), a.len] at hi
      exact as.lt _ b i hb hi hd
/-- the names of the arguments -/
def nm (is : List Info) : NMap := fun n => is.getD n ⟨0, 0, 0, 0⟩
theorem nm_at {is : List Info} {j : Nat} {i : Info} (h : is[j]? = some i) : nm is (0 + j) = i := by
  unfold nm
  rw [Nat.zero_add, List.getD_eq_getElem?_getD, h]
  rfl
section
variable {W : World} {vs' : List Value} {ps : List TV} {bs : List Blk} {is : List Info} {av : Nat → List Value}
theorem Args.rel (a : Args W vs' ps bs is av) : Rel W.heap.size bs.length (fun k => k < bs.length) (nm is) bs W := by
  refine ⟨Nat.le_refl _, fun _ h => h, fun n b hn hb => ?_, fun n b hn hb hd => ?_, fun n b hD hl => absurd hD (by omega), fun n b hn _ hb hd => ?_, fun n b hD hl => absurd hD (by omega), fun n n' b b' hD _ hl => absurd hD (by omega)⟩
  · have := a.ok (fun k => k < bs.length) (nm is) 0 (fun j hj => by omega) (fun j i hi => nm_at hi) n b hb
    rwa [Nat.zero_add] at this
  all_goals
    have hi : n < is.length := by rw [a.len]; exact hn
    have e := nm_at (List.getElem?_eq_getElem hi)
    rw [Nat.zero_add] at e
    rw [e]
    exact a.lt n b _ hb (List.getElem?_eq_getElem hi) hd
theorem Args.vls (a : Args W vs' ps bs is av) : VLs (fun k => k < bs.length) bs noL ps (av 0) := a.vl _ _ 0 (fun j hj => by omega) (fun j b hb => by rw [Nat.zero_add]; exact hb)
theorem Args.vrs (a : Args W vs' ps bs is av) : VRs (fun k => k < bs.length) (nm is) (av 0) vs' := a.vr _ _ 0 (fun j hj => by omega) (fun j i hi => nm_at hi)
end
theorem len1 {α : Type} {l : List α} (h : l.length = 1) : ∃ x0, l = [x0] := by
  match l, h with
  | [x0], _ => exact ⟨_, rfl⟩
/-! ### arguments without names -/
def AtomV (c : Value) : Prop := isAtom c = true ∧ ∀ D m, VR D m c c
theorem atomV_int (k : IntKind) (n : Int) : AtomV (.int k n) := ⟨rfl, fun _ _ => .int _ _⟩
theorem Arg.agg {W : World} {l : List Value} (h : ∀ c ∈ l, AtomV c) : Arg W (.agg ⟨l⟩) (.agg (l.map .v)) [] [] (fun _ => .agg ⟨l⟩) := by
  refine ⟨fun _ _ _ _ _ => .agg _ _ rfl fun i v v' hv hv' => ?_, fun _ _ _ _ _ => .agg _ _ _ (by simp) fun i p x hp hx => ?_, fun _ _ _ _ _ j b h => by simp at h, fun j b i h => by simp at h, rfl⟩
  · obtain rfl : v = v' := Option.some.inj (hv.symm.trans hv')
    exact (h v (List.mem_of_getElem? hv)).2 _ _
  · rw [List.getElem?_map, hx] at hp
    obtain rfl := Option.some.inj hp
    exact .v _ _ (h x (List.mem_of_getElem? hx)).1
/-! ### a slice of rows -/
theorem flatMap_at {α β : Type} {g : α → List β} {es : Nat} (hg : ∀ x, (g x).length = es) (he : 0 < es) : ∀ (xs : List α) i, (xs.flatMap g)[i]? = (xs[i / es]?).bind fun x => (g x)[i % es]?
  | [], i => by simp
  | x :: t, i => by
    rw [List.flatMap_cons]
    rcases Nat.lt_or_ge i es with h | h
    · rw [List.getElem?_append_left (by rw [hg]; exact h), Nat.div_eq_of_lt h, Nat.mod_eq_of_lt h]
      rfl
    · rw [List.getElem?_append_right (by rw [hg]; exact h), hg, flatMap_at hg he t (i - es)]
      have e1 : i / es = (i - es) / es + 1 := by rw [Nat.div_eq_sub_div he h]
      have e2 : i % es = (i - es) % es := Nat.mod_eq_sub_mod h
      rw [e1, e2]
      rfl
theorem flatMap_len {α β : Type} {g : α → List β} {es : Nat} (hg : ∀ x, (g x).length = es) : ∀ (xs : List α), (xs.flatMap g).length = xs.length * es
  | [] => by simp
  | x :: t => by rw [List.flatMap_cons, List.length_append, hg, flatMap_len hg t, List.length_cons, Nat.add_mul]; omega
theorem flatMap_map {α : Type} {f : α → List TV} {g : α → List Value} (hf : ∀ x, f x = (g x).map .v) : ∀ (xs : List α), (xs.map f).flatten = (xs.flatMap g).map .v
  | [] => rfl
  | x :: t => by rw [List.map_cons, List.flatten_cons, flatMap_map hf t, List.flatMap_cons, List.map_append, hf]
theorem choose_list {α : Type} {Q : Nat → α → Prop} : ∀ n, (∀ i, i < n → ∃ x, Q i x) → ∃ xs : List α, xs.length = n ∧ ∀ (i : Nat) x, xs[i]? = some x → Q i x
  | 0, _ => ⟨[], rfl, fun i x h => by simp at h⟩
  | n + 1, h => by
    obtain ⟨xs, hl, hq⟩ := choose_list n (fun i hi => h i (by omega))
    obtain ⟨x, hx⟩ := h n (by omega)
    refine ⟨xs ++ [x], by simp [hl], fun i y hy => ?_⟩
    rcases Nat.lt_or_ge i n with hi | hi
    · rw [List.getElem?_append_left (by omega)] at hy
      exact hq i y hy
    · rw [List.getElem?_append_right (by omega), hl] at hy
      have : i = n := by
        rcases Nat.lt_or_ge 0 (i - n) with g | g
        · rw [List.getElem?_eq_none (by simp; omega)] at hy; cases hy
        · omega
      subst this
      simp at hy
      subst hy
      exact hx
section
variable {H : Type} {enc : TypeId × Value → H} {W : World} {base : Nat} {spare : Nat → Bool} {held : Bool}
theorem open_rowsC {α : Type} {f : α → List TV} {g : α → List Value} {es : Nat} (he : 0 < es) (hf : ∀ x, f x = (g x).map .v) (hg : ∀ x, (g x).length = es) (hat : ∀ x, ∀ c ∈ g x, AtomV c)
    {P : Program} {t te : TypeId} (ht : P.underlying t = some (.slice te)) (hC : P.cellsOf te = es) {r : Reach} {b0 : Nat} {v' : Value} (hval : Cell.okWide P W r b0 t v')
    (elem : ∀ n cs y, DataW.trod enc P W base spare held n te cs = some y → cs.length = es → ∃ x : α, cs = g x)
    {fuel : Nat} {x : DataW H × List MemPlace} (h : DataW.trod enc P W base spare held fuel t [v'] = some x) : ∃ (xs : List α) (bs : List Blk) (is : List Info) (av : Nat → Value), Arg W v' (.list es (xs.map f)) bs is av := by
  rcases DataW.trod_slice ht h with ⟨hv, _⟩ | ⟨a, len, cap, elems, rest, n, _, hv, _, hb, hlc, hcm, hel, hel2, _, _⟩
  · obtain rfl : v' = .slice none 0 0 := by simpa using hv
    exact ⟨[], [], [], fun _ => .slice none 0 0, fun _ _ _ _ _ => .nilSlice 0 0, fun _ _ _ _ _ => .nillist _ _, fun _ _ _ _ _ j b h => by simp at h, fun j b i h => by simp at h, rfl⟩
  · obtain rfl : v' = .slice (some a) len cap := by simpa using hv
    have hok : len ≤ cap ∧ (cap : Int) ≤ IntKind.i64.max ∧ W.has P r b0 a te cap := by
      unfold Cell.okWide at hval
      simp only [ht] at hval
      unfold Cell.ok at hval
      simpa only [ht] using hval
    obtain ⟨gb, o, s⟩ := a
    obtain ⟨_, _, _, hs, row, cells, hsh, _⟩ := hok
    simp only at hs hsh
    subst hs
    have hgb : gb < W.heap.size := by
      unfold World.shape? at hsh
      rcases Nat.lt_or_ge gb W.heap.size with hg | hg
      · exact hg
      · rw [Array.getElem?_eq_none hg] at hsh
        simp at hsh
    have key : ∀ i, i < len → ∃ x : α, ∀ j, j < es → W.cell? ⟨gb, o + i * es + j, none⟩ = (g x)[j]? := fun i hi => by
      have h1 := hel2 i hi
      rw [List.getElem?_eq_getElem (by omega), Option.bind_eq_some_iff] at h1
      obtain ⟨cs, hcs, htr⟩ := h1
      rw [hC] at hcs
      unfold World.cells? at hcs
      split at hcs
      · have hlen := mapM_some_length hcs
        simp at hlen
        obtain ⟨x, rfl⟩ := elem n cs _ htr hlen
        refine ⟨x, fun j hj => ?_⟩
        have := mapM_some_get hcs j j (by simp [hj])
        have e : ((⟨gb, o, none⟩ : Addr).add (i * es)).add j = ⟨gb, o + i * es + j, none⟩ := by
          unfold Addr.add
          split <;> split <;> simp_all
        rw [← e]
        exact this
      · cases hcs
    obtain ⟨xs, hl, hq⟩ := choose_list len key
    subst hl
    have hlen := flatMap_len hg xs
    have hfl := flatMap_map hf xs
    refine ⟨xs, [.cells es (xs.flatMap g)], [⟨gb, o, cap * es, es⟩], fun n => .slice (some ⟨n, 0, none⟩) xs.length xs.length, fun D m n hD hm => ?_, fun Fz h n hF hh => ?_, fun D m n hD hm j b hb => ?_, fun j b i hb hi hd => ?_, rfl⟩
    · have e := hm 0 _ rfl
      rw [Nat.add_zero] at e
      have := VR.slice (D := D) (m := m) n 0 xs.length xs.length cap (hD 0 (by simp)) (Nat.le_refl _) hlc (.inr (by rw [e]; simp))
      rw [e] at this
      exact this
    · have hw : ∀ r ∈ xs.map f, r.length = es := fun r hr => by obtain ⟨x, _, rfl⟩ := List.mem_map.1 hr; rw [hf, List.length_map, hg]
      have := VL.list (Fz := Fz) (h := h) noL es (xs.map f) n 0 xs.length (xs.flatMap g) es (hF 0 (by simp)) (hh 0 _ rfl) (.inl rfl) hw (by simp) (by rw [List.length_map, hlen]; omega) (fun j p x hp hx => by
        rw [hfl, List.getElem?_map, Option.map_eq_some_iff] at hp
        rw [Nat.zero_add] at hx
        obtain ⟨y, h1, rfl⟩ := hp
        obtain rfl : y = x := Option.some.inj (h1.symm.trans hx)
        obtain ⟨z, _, hz⟩ := List.mem_flatMap.1 (List.mem_of_getElem? hx)
        exact .v _ _ (hat z y hz).1)
      rw [List.length_map] at this
      exact this
    · match j, hb with
      | 0, hb =>
        obtain rfl := Option.some.inj hb
        have e := hm 0 _ rfl
        rw [Nat.add_zero] at e ⊢
        refine ⟨by rw [e], fun i v hv => ⟨v, ?_, ?_⟩⟩
        · rw [flatMap_at hg he, Option.bind_eq_some_iff] at hv
          obtain ⟨x, hx, hv⟩ := hv
          rw [e]
          have := hq _ x hx (i % es) (Nat.mod_lt _ he)
          rw [Nat.add_assoc, Nat.mul_comm, Nat.div_add_mod] at this
          rw [this]
          exact hv
        · obtain ⟨z, _, hz⟩ := List.mem_flatMap.1 (List.mem_of_getElem? hv)
          exact (hat z v hz).2 _ _
      | j + 1, hb => simp at hb
    · match j, hb, hi with
      | 0, hb, hi => obtain rfl := Option.some.inj hi
                     exact hgb
      | j + 1, hb, hi => simp at hb
theorem open_rows {α : Type} {f : α → List TV} {g : α → List Value} {es : Nat} (he : 0 < es) (hf : ∀ x, f x = (g x).map .v) (hg : ∀ x, (g x).length = es) (hat : ∀ x, ∀ c ∈ g x, AtomV c)
    {P : Program} {t te : TypeId} (ht : P.underlying t = some (.slice te)) (hC : P.cellsOf te = es) {r : Reach} {b0 : Nat} {v' : Value} (hval : Value.okWide P W r b0 t v')
    (elem : ∀ n cs y, DataW.trod enc P W base spare held n te cs = some y → cs.length = es → ∃ x : α, cs = g x)
    {fuel : Nat} {x : DataW H × List MemPlace} (h : DataW.trod enc P W base spare held fuel t [v'] = some x) : ∃ (xs : List α) (bs : List Blk) (is : List Info) (av : Nat → Value), Arg W v' (.list es (xs.map f)) bs is av := by
  refine open_rowsC he hf hg hat ht hC (r := r) (b0 := b0) ?_ elem h
  unfold Value.okWide at hval
  simpa only [ht] using hval
/-! ### aggregates of ints -/
def AI (cs : List Value) : Prop := ∀ c ∈ cs, ∃ n : Int, c = .int .i64 n
theorem AI.list {cs : List Value} (h : AI cs) : ∃ l : List Int, cs = l.map (.int .i64) := by
  induction cs with
  | nil => exact ⟨[], rfl⟩
  | cons c t ih =>
    obtain ⟨n, rfl⟩ := h c (by simp)
    obtain ⟨l, rfl⟩ := ih fun c hc => h c (by simp [hc])
    exact ⟨n :: l, rfl⟩
variable {P : Program}
theorem ai_int {te : TypeId} (ht : P.underlying te = some (.int .i64)) {fuel : Nat} {cs : List Value} {x : DataW H × List MemPlace} (h : DataW.trod enc P W base spare held fuel te cs = some x) : AI cs := by
  obtain ⟨n, rfl, _⟩ := DataW.trod_int ht h
  exact fun c hc => ⟨n, by simpa using hc⟩
end
end Go.Rex
