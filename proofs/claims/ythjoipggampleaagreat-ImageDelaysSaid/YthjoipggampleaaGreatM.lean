/- What these functions return: facts on lists and numbers. -/
import Derived.Test.YthjoipggampleaaGreatRexG8
import Derived.Test.YthjoipggampleaaGreatRexG10
import Derived.Test.YthjoipggampleaaGreatS
import Derived.Test.YthjoipggampleaaGreatRexG9
import Derived.ProofKit
import Derived.OpenShut
import Derived.ShutString
import Derived.ChangeOld
import Derived.Below
import Derived.Lib.SmallJoins
import Derived.ChangeShapes
import Derived.ChangeArms
import Derived.WideShapes
set_option linter.unusedSimpArgs false
set_option linter.unusedVariables false
set_option linter.defProp false
namespace Go.Rex
/-! ### plain facts for shallow functions -/
theorem w64 {x : Int} (h : -9223372036854775808 ≤ x ∧ x ≤ 9223372036854775807) : IntKind.i64.wrap x = x:=IntWalk.i64_in x (by omega)
/-- a loop that counts -/
theorem run_count {σ ε : Type} {step : σ → Option (σ ⊕ ε)} (f : Nat → σ) {n : Nat} {e : ε} (h : ∀ k,k < n → step (f k) = some (.inl (f (k + 1)))) (hn : step (f n) = some (.inr e)) : run step (f 0) = some e:=by
  suffices H : ∀ j k,n - k = j → k ≤ n → run step (f k) = some e from H n 0 (by omega) (Nat.zero_le _)
  intro j
  induction j with
  | zero => intro k hj hk; obtain rfl : k = n := by omega
            exact run_stop hn
  | succ j ih=>intro k hj hk;rw [run_next (h k (by omega))];exact ih (k + 1) (by omega) (by omega)
theorem getI_nat {α : Type} {xs : List α} {k : Nat} : getI xs (k : Int) = xs[k]?:=by
  unfold getI
  rw [if_pos (by omega),Int.toNat_natCast]
theorem appI_one {α : Type} {b : Nat} {xs : List α} {y : α} (h : xs.length < 2 ^ 40) (hb : b ≤ 128) : appI b xs [y] = some (xs ++ [y]):=by
  unfold appI
  rw [if_pos]
  refine ⟨by simp;omega,?_⟩
  have h1 : (xs.length + [y].length) * b ≤ 2 ^ 40 * 128:=Nat.mul_le_mul (by simp;omega) hb
  omega
end Go.Rex

namespace Go.Rex
/-! ### a loop that walks a list,gathers,and may end early -/
end Go.Rex

open Go Go.Rex
namespace Go.Rex
set_option maxRecDepth 100000
/-! ### loops, once more -/
theorem wsucc {k : Nat} {n : Nat} (h : k ≤ n) (hn : n ≤ 2 ^ 62) : IntKind.i64.wrap ((k : Int) + 1) = ((k + 1 : Nat) : Int) := by rw [w64 (by omega)]; omega
/-- the first one that has an answer -/
def firstOf {ε : Type} (p : Nat → Option ε) (n : Nat) : Option ε := (List.range n).findSome? p
theorem firstOf_none {ε : Type} {p : Nat → Option ε} {n : Nat} : firstOf p n = none ↔ ∀ k, k < n → p k = none := by
  unfold firstOf
  rw [List.findSome?_eq_none_iff]
  constructor
  · intro h k hk; exact h k (List.mem_range.2 hk)
  · intro h k hk; exact h k (List.mem_range.1 hk)
theorem firstOf_succ {ε : Type} {p : Nat → Option ε} {n : Nat} : firstOf p (n + 1) = match firstOf p n with | some e => some e | none => p n := by
  unfold firstOf
  rw [List.range_succ, List.findSome?_append]
  cases h : List.findSome? p (List.range n) with
  | some e => rfl
  | none => simp
theorem firstOf_congr {ε : Type} {p q : Nat → Option ε} {n : Nat} (h : ∀ k, k < n → p k = q k) : firstOf p n = firstOf q n := by
  induction n with
  | zero => rfl
  | succ n ih => rw [firstOf_succ, firstOf_succ, ih (fun k hk => h k (by omega)), h n (by omega)]
theorem run_find {ε δ : Type} {step : Int → Option (Int ⊕ (ε ⊕ δ))} {n : Nat} {p : Nat → Option ε} {r : δ}
    (h : ∀ k : Nat, k < n → (∀ j, j < k → p j = none) → step (k : Int) = some (match p k with | none => .inl ((k + 1 : Nat) : Int) | some e => .inr (.inl e))) (he : (∀ j, j < n → p j = none) → step (n : Int) = some (.inr (.inr r))) : run step 0 = some (match firstOf p n with | some e => .inl e | none => .inr r) := by
  suffices H : ∀ m, m ≤ n → firstOf p m = none → run step 0 = run step (m : Int) by
    cases hf : firstOf p n with
    | none =>
      simp only
      rw [H n (Nat.le_refl _) hf]
      exact run_stop (he (firstOf_none.1 hf))
    | some e =>
      simp only
      have : ∃ m, m < n ∧ firstOf p m = none ∧ p m = some e := by
        clear h he H
        induction n with
        | zero => simp [firstOf] at hf
        | succ n ih =>
          rw [firstOf_succ] at hf
          cases hn : firstOf p n with
          | none => rw [hn] at hf; exact ⟨n, by omega, hn, hf⟩
          | some e' => rw [hn] at hf; cases hf; obtain ⟨m, h1, h2⟩ := ih hn; exact ⟨m, by omega, h2⟩
      obtain ⟨m, hm, h1, h2⟩ := this
      rw [H m (by omega) h1]
      have := h m hm (firstOf_none.1 h1)
      rw [h2] at this
      exact run_stop this
  intro m
  induction m with
  | zero => intro _ _; rfl
  | succ m ih =>
    intro hm hf
    have hf' := firstOf_none.1 hf
    rw [ih (by omega) (firstOf_none.2 fun k hk => hf' k (by omega))]
    have := h m (by omega) (fun j hj => hf' j (by omega))
    rw [hf' m (by omega)] at this
    exact run_next this
def iter {β : Type} (g : Nat → β → β) : Nat → β → β
  | 0, b => b
  | k + 1, b => g k (iter g k b)
theorem run_iter {β σ ε : Type} {step : σ → Option (σ ⊕ ε)} (st : Nat → β → σ) (g : Nat → β → β) (fin : β → ε) (n : Nat) (Inv : Nat → β → Prop) {b0 : β} (h0 : Inv 0 b0)
    (hs : ∀ k b, k < n → Inv k b → step (st k b) = some (.inl (st (k + 1) (g k b))) ∧ Inv (k + 1) (g k b)) (he : ∀ b, Inv n b → step (st n b) = some (.inr (fin b))) :
    run step (st 0 b0) = some (fin (iter g n b0)) ∧ ∀ k, k ≤ n → Inv k (iter g k b0) := by
  have hI : ∀ k, k ≤ n → Inv k (iter g k b0) := by
    intro k
    induction k with
    | zero => intro _; exact h0
    | succ k ih => intro hk; exact (hs k _ (by omega) (ih (by omega))).2
  refine ⟨?_, hI⟩
  exact run_count (fun k => st k (iter g k b0)) (fun k hk => (hs k _ hk (hI k (by omega))).1) (he _ (hI n (Nat.le_refl _)))
theorem getI_lt' {α : Type} {l : List α} {k : Nat} (h : k < l.length) : getI l (k : Int) = some l[k] := by
  rw [getI_nat]; exact List.getElem?_eq_getElem h
/-! ### small things -/
theorem copyI' {l : List Int} (h : l.length ≤ 1048576) : appI 8 ([] : List Int) l = some l := by
  unfold appI
  rw [if_pos (by simp; omega)]
  simp
theorem mkI_nat {n : Nat} (h : n ≤ 1048576) : mkI 8 (n : Int) (0 : Int) = some (List.replicate n 0) := by
  unfold mkI
  rw [if_pos (by omega), Int.toNat_natCast]
/-! ### sums of lists -/
def sumL : List Int → Int
  | [] => 0
  | x :: t => x + sumL t
theorem sumL_append (a b : List Int) : sumL (a ++ b) = sumL a + sumL b := by
  induction a with
  | nil => simp [sumL]
  | cons x t ih => simp only [List.cons_append, sumL, ih]; omega
theorem sumL_set : ∀ {l : List Int} {k : Nat} (h : k < l.length) (x : Int), sumL (l.set k x) = sumL l - l[k] + x
  | y :: t, 0, _, x => by simp only [List.set_cons_zero, sumL, List.getElem_cons_zero]; omega
  | y :: t, k + 1, h, x => by
    simp only [List.set_cons_succ, sumL, List.getElem_cons_succ]
    rw [sumL_set (by simpa using h)]
    omega
theorem sumL_replicate (n : Nat) : sumL (List.replicate n 0) = 0 := by
  induction n with
  | zero => rfl
  | succ n ih => simp only [List.replicate_succ, sumL, ih]; rfl
theorem sumL_take_succ {l : List Int} {k : Nat} (h : k < l.length) : sumL (l.take (k + 1)) = sumL (l.take k) + l[k] := by
  rw [List.take_add_one, sumL_append, List.getElem?_eq_getElem h]
  simp [sumL]
theorem sumL_nonneg : ∀ {l : List Int}, (∀ x ∈ l, 0 ≤ x) → 0 ≤ sumL l
  | [], _ => by simp [sumL]
  | x :: t, h => by
    have := sumL_nonneg (l := t) fun y hy => h y (by simp [hy])
    have := h x (by simp)
    simp only [sumL]; omega
theorem sumL_le {m : Int} : ∀ {l : List Int}, (∀ x ∈ l, x ≤ m) → sumL l ≤ m * l.length
  | [], _ => by simp [sumL]
  | x :: t, h => by
    have := sumL_le (l := t) fun y hy => h y (by simp [hy])
    have := h x (by simp)
    simp only [sumL, List.length_cons]
    rw [Int.natCast_add, Int.mul_add]
    simp; omega
theorem sumL_elem : ∀ {l : List Int}, (∀ x ∈ l, 0 ≤ x) → ∀ {x : Int}, x ∈ l → x ≤ sumL l
  | y :: t, h, x, hx => by
    have h1 := sumL_nonneg (l := t) fun y hy => h y (by simp [hy])
    have h2 := h y (by simp)
    simp only [sumL]
    rcases List.mem_cons.1 hx with rfl | hx
    · omega
    · have := sumL_elem (l := t) (fun y hy => h y (by simp [hy])) hx
      omega
theorem sumL_take_le {l : List Int} (h : ∀ x ∈ l, 0 ≤ x) (k : Nat) : sumL (l.take k) ≤ sumL l ∧ 0 ≤ sumL (l.take k) := by
  have e : sumL l = sumL (l.take k) + sumL (l.drop k) := by rw [← sumL_append, List.take_append_drop]
  have h1 := sumL_nonneg (l := l.take k) fun x hx => h x (List.mem_of_mem_take hx)
  have h2 := sumL_nonneg (l := l.drop k) fun x hx => h x (List.mem_of_mem_drop hx)
  omega
end Go.Rex

open Go Go.Rex
namespace Go.Rex
set_option maxRecDepth 100000
theorem withinB (a b c : Int) : base_Within a b c = some (decide (b ≤ a ∧ a ≤ c)) := by
  unfold base_Within
  by_cases h1 : b ≤ a <;> by_cases h2 : a ≤ c <;> simp [h1, h2]
theorem iRefuse' (b : Bool) (e : Int) : image_refuse_c1_11f9 b e = some (if b = true then e else 0) := by
  unfold image_refuse_c1_11f9; cases b <;> rfl
theorem iWithin' (n a b : Int) : image_within n a b = some (decide (n < a ∨ n > b), 2) := by
  unfold image_within image_refuse
  by_cases h : n < a
  · simp [h]
  · simp [h]
/-! ### roots -/
def IsRt (n r : Int) : Prop := 0 ≤ r ∧ r ≤ 2147483648 ∧ r * r ≤ n ∧ n < (r + 1) * (r + 1)
theorem IsRt.unique {n r s : Int} (h : IsRt n r) (g : IsRt n s) : r = s := by
  obtain ⟨h0, h1, h2, h3⟩ := h
  obtain ⟨g0, g1, g2, g3⟩ := g
  rcases Int.lt_trichotomy r s with q | q | q
  · have := Int.mul_le_mul (show r + 1 ≤ s by omega) (show r + 1 ≤ s by omega) (by omega) g0
    omega
  · exact q
  · have := Int.mul_le_mul (show s + 1 ≤ r by omega) (show s + 1 ≤ r by omega) (by omega) h0
    omega
theorem shr1_eq {x : Int} (h0 : 0 ≤ x) (h1 : x < 9223372036854775808) : shI .shr .u64 (IntKind.u64.wrap x) 1 = some (x / 2) := by
  have hw : IntKind.u64.wrap x = x := by
    unfold IntKind.wrap
    show x.emod (2 ^ 64) = x
    exact Int.emod_eq_of_lt h0 (by omega)
  rw [hw]
  unfold shI
  rw [if_neg (by omega)]
  dsimp only
  have : min (1 : Int).toNat IntKind.u64.bits = 1 := by decide
  rw [this, Int.fdiv_eq_ediv_of_nonneg _ (Int.pow_nonneg (by omega))]
  rfl
theorem search_run {n : Int} (h0 : 0 ≤ n) (h1 : n < 4611686018427387904) : ∀ (d lo hi : Nat), hi - lo ≤ d → lo ≤ hi → hi ≤ 2147483648 → ((lo : Int) * lo ≤ n) → (n < ((hi : Int) + 1) * ((hi : Int) + 1)) → ∃ i : Nat, run (sort_Search_5a34_l1 n) ((lo : Int), (hi : Int)) = some (i : Int) ∧ (i : Int) * i ≤ n ∧ n < ((i : Int) + 1) * ((i : Int) + 1) ∧ i ≤ 2147483648 := by
  intro d
  induction d with
  | zero =>
    intro lo hi hd hle hhi hl hh
    obtain rfl : lo = hi := by omega
    refine ⟨lo, run_stop ?_, hl, hh, hhi⟩
    dsimp only [sort_Search_5a34_l1]
    rw [if_neg (by simp)]
  | succ d ih =>
    intro lo hi hd hle hhi hl hh
    by_cases q : lo < hi
    · obtain ⟨m, hm⟩ : ∃ m : Nat, m = (lo + hi) / 2 := ⟨_, rfl⟩
      have hmi : ((lo : Int) + hi) / 2 = (m : Int) := by omega
      have hmb : ((m : Int) + 1) * ((m : Int) + 1) ≤ 2147483648 * 2147483648 := Int.mul_le_mul (by omega) (by omega) (by omega) (by omega)
      have hm0 : 0 ≤ ((m : Int) + 1) * ((m : Int) + 1) := Int.mul_nonneg (by omega) (by omega)
      have hst : sort_Search_5a34_l1 n ((lo : Int), (hi : Int)) = if decide (((m : Int) + 1) * ((m : Int) + 1) > n) = true then some (.inl ((lo : Int), (m : Int))) else some (.inl (((m + 1 : Nat) : Int), (hi : Int))) := by
        dsimp only [sort_Search_5a34_l1]
        rw [if_pos (by simp only [decide_eq_true_eq]; omega), w64 (x := (lo : Int) + hi) (by omega), shr1_eq (by omega) (by omega), Option.bind_some, hmi, w64 (x := (m : Int)) (by omega)]
        unfold image_root_c1_d3d3
        rw [w64 (x := (m : Int) + 1) (by omega), w64 (x := ((m : Int) + 1) * ((m : Int) + 1)) (by omega), Option.bind_some]
        rfl
      by_cases q2 : ((m : Int) + 1) * ((m : Int) + 1) > n
      · rw [run_next (s' := ((lo : Int), (m : Int))) (by rw [hst, if_pos (by simpa using q2)])]
        exact ih lo m (by omega) (by omega) (by omega) hl q2
      · rw [run_next (s' := (((m + 1 : Nat) : Int), (hi : Int))) (by rw [hst, if_neg (by simpa using q2)])]
        exact ih (m + 1) hi (by omega) (by omega) (by omega) (by have e : (((m + 1 : Nat)) : Int) = (m : Int) + 1 := by omega
                                                                 rw [e]; omega) hh
    · obtain rfl : lo = hi := by omega
      refine ⟨lo, run_stop ?_, hl, hh, hhi⟩
      dsimp only [sort_Search_5a34_l1]
      rw [if_neg (by simp)]
theorem rootP {n : Int} (h0 : 0 ≤ n) (h1 : n < 4611686018427387904) : ∃ r : Int, IsRt n r ∧ image_root n = some (r, if r * r = n then r else r + 1) := by
  obtain ⟨i, hi, hl, hh, hb⟩ := search_run h0 h1 2147483648 0 2147483648 (by omega) (by omega) (by omega) (by simpa using h0) (by simpa using by omega)
  have m0 : (0 : Int) ≤ (i : Int) * i := Int.mul_nonneg (by omega) (by omega)
  refine ⟨i, ⟨by omega, by omega, hl, hh⟩, ?_⟩
  unfold image_root sort_Search_5a34
  rw [show ((0 : Nat) : Int) = 0 from rfl, show ((2147483648 : Nat) : Int) = 2147483648 from rfl] at hi
  rw [hi, Option.bind_some, Option.bind_some, w64 (x := (i : Int) * i) (by omega), w64 (x := (i : Int) + 1) (by omega)]
  by_cases q : (i : Int) * i = n
  · rw [if_pos (by simpa using q), if_pos q]
  · rw [if_neg (by simpa using q), if_neg q]
theorem Root_run {n : Int} (h0 : 0 ≤ n) (h1 : n < 4611686018427387904) : ∀ (k : Nat) (r : Int), k ≤ 30 → 0 ≤ r → r + 2 * 2 ^ k ≤ 2147483648 → r * r ≤ n → n < (r + 2 * 2 ^ k) * (r + 2 * 2 ^ k) → ∃ s, run (base_Root_l1 n) (r, 2 ^ k) = some s ∧ IsRt n s := by
  intro k
  induction k with
  | zero =>
    intro r _ hr hb hl hh
    have e : (2 : Int) ^ 0 = 1 := rfl
    rw [e] at hh hb ⊢
    have m1 : (r + 1) * (r + 1) ≤ 2147483648 * 2147483648 := Int.mul_le_mul (by omega) (by omega) (by omega) (by omega)
    have m0 : 0 ≤ (r + 1) * (r + 1) := Int.mul_nonneg (by omega) (by omega)
    have stop : ∀ s, IsRt n s → run (base_Root_l1 n) (s, 0) = some s := fun s _ => run_stop (by dsimp only [base_Root_l1]; rw [if_neg (by decide)])
    by_cases q : (r + 1) * (r + 1) ≤ n
    · have hR : IsRt n (r + 1) := ⟨by omega, by omega, q, by rw [show r + 1 + 1 = r + 2 * 1 by omega]; exact hh⟩
      refine ⟨r + 1, ?_, hR⟩
      rw [run_next (s' := (r + 1, 0)) (by
        dsimp only [base_Root_l1]
        rw [if_pos (by decide), w64 (x := r + 1) (by omega), w64 (x := (r + 1) * (r + 1)) (by omega), if_pos (by simpa using q)]
        rfl)]
      exact stop _ hR
    · have hR : IsRt n r := ⟨hr, by omega, hl, by omega⟩
      refine ⟨r, ?_, hR⟩
      rw [run_next (s' := (r, 0)) (by
        dsimp only [base_Root_l1]
        rw [if_pos (by decide), w64 (x := r + 1) (by omega), w64 (x := (r + 1) * (r + 1)) (by omega), if_neg (by simpa using q)]
        rfl)]
      exact stop _ hR
  | succ k ih =>
    intro r hk hr hb hl hh
    obtain ⟨c, hc⟩ : ∃ c : Int, c = 2 ^ k := ⟨_, rfl⟩
    have hc0 : 0 < c := by rw [hc]; exact Int.pow_pos (by omega)
    have e : (2 : Int) ^ (k + 1) = 2 * c := by rw [Int.pow_succ, ← hc]; omega
    rw [e] at hh hb ⊢
    have m1 : (r + 2 * c) * (r + 2 * c) ≤ 2147483648 * 2147483648 := Int.mul_le_mul (by omega) (by omega) (by omega) (by omega)
    have m0 : 0 ≤ (r + 2 * c) * (r + 2 * c) := Int.mul_nonneg (by omega) (by omega)
    have hd : IntKind.i64.wrap ((2 * c).tdiv 2) = c := by rw [Int.tdiv_eq_ediv_of_nonneg (by omega), show 2 * c / 2 = c by omega, w64 (by omega)]
    by_cases q : (r + 2 * c) * (r + 2 * c) ≤ n
    · rw [run_next (s' := (r + 2 * c, c)) (by
        dsimp only [base_Root_l1]
        rw [if_pos (by simp only [decide_eq_true_eq]; omega), w64 (x := r + 2 * c) (by omega), w64 (x := (r + 2 * c) * (r + 2 * c)) (by omega), if_pos (by simpa using q), hd]), hc]
      rw [← hc]
      have := ih (r + 2 * c) (by omega) (by omega) (by rw [← hc]; omega) q (by rw [← hc, show r + 2 * c + 2 * c = r + 2 * (2 * c) by omega]; exact hh)
      rw [← hc] at this
      exact this
    · rw [run_next (s' := (r, c)) (by
        dsimp only [base_Root_l1]
        rw [if_pos (by simp only [decide_eq_true_eq]; omega), w64 (x := r + 2 * c) (by omega), w64 (x := (r + 2 * c) * (r + 2 * c)) (by omega), if_neg (by simpa using q), hd]), hc]
      rw [← hc]
      have := ih r (by omega) hr (by rw [← hc]; omega) hl (by rw [← hc]; omega)
      rw [← hc] at this
      exact this
theorem rootR {n r : Int} (h0 : 0 ≤ n) (h1 : n < 4611686018427387904) (hr : IsRt n r) : base_Root n = some r ∧ base_RootUp n = some (if r * r = n then r else r + 1) := by
  obtain ⟨s, hs, hS⟩ := Root_run h0 h1 30 0 (by omega) (by omega) (by decide) (by simpa using h0) (by
    have e : (0 + 2 * 2 ^ 30 : Int) * (0 + 2 * 2 ^ 30) = 4611686018427387904 := by decide
    rw [e]; exact h1)
  obtain rfl := hr.unique hS
  have e : base_Root n = some r := by
    unfold base_Root
    rw [show ((0 : Int), (1073741824 : Int)) = ((0 : Int), (2 : Int) ^ 30) from rfl, hs]
    rfl
  refine ⟨e, ?_⟩
  obtain ⟨a, b, c, d⟩ := hr
  have m0 : 0 ≤ r * r := Int.mul_nonneg a a
  unfold base_RootUp
  rw [e, Option.bind_some, w64 (x := r * r) (by omega), w64 (x := r + 1) (by omega)]
  by_cases q : r * r = n
  · rw [if_neg (by simp only [decide_eq_true_eq]; omega), if_pos q]
  · rw [if_pos (by simp only [decide_eq_true_eq]; omega), if_neg q]
/-! ### lengths and delays -/
/-- what a square says of the length -/
structure Lens (q a b : Int) : Prop where
  p : ∀ (v1 : List Int) (v2 : List (Int × Int × Int × Int)), image_lengthOf v1 v2 q = some (a, b)
  r : ref02_LengthOf q = some (a, b)
  le : 0 ≤ a ∧ a ≤ b ∧ b ≤ 2147483649
theorem lens_ex {q : Int} (h : 1 ≤ q ∧ q ≤ 24300000000) : ∃ a b, Lens q a b := by
  obtain ⟨r, hr, hp⟩ := rootP (n := 100000000 * q) (by omega) (by omega)
  obtain ⟨h1, h2⟩ := rootR (n := 100000000 * q) (by omega) (by omega) hr
  refine ⟨r, if r * r = 100000000 * q then r else r + 1, fun v1 v2 => ?_, ?_, ?_⟩
  · unfold image_lengthOf
    rw [w64 (by omega), hp, Option.bind_some]
  · unfold ref02_LengthOf
    rw [w64 (by omega), Int.mul_comm q, h1, Option.bind_some, h2, Option.bind_some]
  · have := hr.1; have := hr.2.1
    split <;> omega
theorem floorN {a d : Int} (h0 : 0 ≤ a) (h1 : a ≤ 9000000000000000000) (hd : 0 < d) : base_Floor a d = some (a / d) := by
  have e := Int.ediv_le_self d h0
  have e0 := Int.ediv_nonneg h0 (show 0 ≤ d by omega)
  unfold base_Floor
  rw [if_neg (by omega), if_neg (by simp only [decide_eq_true_eq]; rw [Int.tmod_eq_emod_of_nonneg h0]; have := Int.emod_nonneg a (show d ≠ 0 by omega); omega), Int.tdiv_eq_ediv_of_nonneg h0, w64 (by omega)]
theorem ceilN {a d : Int} (h0 : 0 ≤ a) (h1 : a ≤ 4000000000000000000) (hd : 0 < d) (hd1 : d ≤ 1000000000000) : base_Ceil a d = some ((a + d - 1) / d) := by
  have e : (0 - a).tdiv d = - (a / d) := by rw [Int.zero_sub, Int.neg_tdiv, Int.tdiv_eq_ediv_of_nonneg h0]
  have f : (0 - a).tmod d = - (a % d) := by rw [Int.zero_sub, Int.neg_tmod, Int.tmod_eq_emod_of_nonneg h0]
  have hm := Int.emod_nonneg a (show d ≠ 0 by omega)
  have hm2 := Int.emod_lt_of_pos a hd
  have hdm := Int.mul_ediv_add_emod a d
  have hq0 := Int.ediv_nonneg h0 (show 0 ≤ d by omega)
  have hq1 := Int.ediv_le_self d h0
  unfold base_Ceil base_Floor
  rw [w64 (x := 0 - a) (by omega), if_neg (by omega), e, f]
  by_cases c : -(a % d) < 0
  · have key : (a + d - 1) / d = a / d + 1 := by
      rw [Int.ediv_eq_iff_of_pos hd] <;> try exact hd
      rw [Int.add_mul, Int.mul_comm (a / d)]
      omega
    rw [if_pos (by simpa using c), Option.bind_some, w64 (x := -(a / d)) (by omega), w64 (x := -(a / d) - 1) (by omega), w64 (by omega), key]
    congr 1; omega
  · have key : (a + d - 1) / d = a / d := by
      rw [Int.ediv_eq_iff_of_pos hd] <;> try exact hd
      rw [Int.mul_comm (a / d)]
      omega
    rw [if_neg (by simpa using c), Option.bind_some, w64 (x := -(a / d)) (by omega), w64 (by omega), key]
    congr 1; omega
end Go.Rex

open Go Go.Rex
namespace Go.Rex
set_option maxRecDepth 100000
/-- delays of a length -/
structure Dels (q v a b : Int) : Prop where
  p : ∀ (v1 : List Int) (v2 : List (Int × Int × Int × Int)), image_delayOf v1 v2 q v = some (a, b)
  r : ref02_DelayOf q v = some (a, b)
  le : 0 ≤ a ∧ a ≤ b ∧ b ≤ 8000000
theorem scaledP {a b m d : Int} (h : 0 ≤ a ∧ a ≤ b) (hm : 0 ≤ m) (hb : b * m ≤ 4000000000000000000) (hd : 0 < d) (hd1 : d ≤ 1000000000000) : image_scaled a b m d = some (a * m / d, (b * m + d - 1) / d) ∧ 0 ≤ a * m ∧ a * m ≤ b * m := by
  have m0 : 0 ≤ a * m := Int.mul_nonneg h.1 hm
  have m1 : a * m ≤ b * m := Int.mul_le_mul_of_nonneg_right h.2 hm
  have q1 := Int.ediv_le_self d m0
  have q0 := Int.ediv_nonneg m0 (show 0 ≤ d by omega)
  have q3 := Int.ediv_le_self d (show 0 ≤ b * m + d - 1 by omega)
  have q4 := Int.ediv_nonneg (show 0 ≤ b * m + d - 1 by omega) (show 0 ≤ d by omega)
  refine ⟨?_, m0, m1⟩
  unfold image_scaled
  rw [if_neg (by omega), w64 (x := a * m) (by omega), Int.tdiv_eq_ediv_of_nonneg m0, w64 (x := a * m / d) (by omega), w64 (x := b * m) (by omega), w64 (x := b * m + d) (by omega), w64 (x := b * m + d - 1) (by omega), Int.tdiv_eq_ediv_of_nonneg (by omega), w64 (by omega)]
theorem dels_ex {q v : Int} (h : 1 ≤ q ∧ q ≤ 24300000000) (hv : 30000 ≤ v ∧ v ≤ 40000) : ∃ a b, Dels q v a b := by
  obtain ⟨a, b, L⟩ := lens_ex h
  obtain ⟨h1, h2, h3⟩ := L.le
  obtain ⟨s, m0, m1⟩ := scaledP (a := a) (b := b) (m := 100) (d := v) ⟨h1, h2⟩ (by omega) (by omega) (by omega) (by omega)
  refine ⟨a * 100 / v, (b * 100 + v - 1) / v, fun v1 v2 => ?_, ?_, ?_⟩
  · unfold image_delayOf
    rw [L.p, Option.bind_some]
    simp only
    rw [s, Option.bind_some]
  · unfold ref02_DelayOf
    rw [L.r, Option.bind_some]
    simp only
    rw [w64 (x := 100 * a) (by omega), floorN (by omega) (by omega) (by omega), Option.bind_some, w64 (x := 100 * b) (by omega), ceilN (by omega) (by omega) (by omega) (by omega), Option.bind_some, Int.mul_comm 100 a, Int.mul_comm 100 b]
  · refine ⟨Int.ediv_nonneg m0 (by omega), Int.ediv_le_ediv (by omega) (by omega), ?_⟩
    have e1 : (b * 100 + v - 1) / v ≤ (214748364900 + 40000) / v := Int.ediv_le_ediv (by omega) (by omega)
    have e2 : (214748364900 + 40000) / v ≤ 8000000 := by
      refine Int.ediv_le_of_le_mul (by omega) ?_
      omega
    omega
structure Sams (q v t a b : Int) : Prop where
  p : ∀ c d, Dels q v c d → image_scaled c d t 1000000 = some (a, b)
  r : ref02_SamplesOf q v t = some (a, b)
theorem Dels.unique {q v a b c d : Int} (h : Dels q v a b) (g : Dels q v c d) : a = c ∧ b = d := by
  have := h.r.symm.trans g.r
  simpa using this
theorem sams_ex {q v t : Int} (h : 1 ≤ q ∧ q ≤ 24300000000) (hv : 30000 ≤ v ∧ v ≤ 40000) (ht : 8000 ≤ t ∧ t ≤ 192000) : ∃ a b, Sams q v t a b := by
  obtain ⟨a, b, D⟩ := dels_ex h hv
  obtain ⟨h1, h2, h3⟩ := D.le
  have mb : b * t ≤ 8000000 * 192000 := Int.mul_le_mul h3 ht.2 (by omega) (by omega)
  obtain ⟨s, m0, m1⟩ := scaledP (a := a) (b := b) (m := t) (d := 1000000) ⟨h1, h2⟩ (by omega) (by omega) (by omega) (by omega)
  refine ⟨a * t / 1000000, (b * t + 1000000 - 1) / 1000000, fun c d hD => ?_, ?_⟩
  · obtain ⟨rfl, rfl⟩ := D.unique hD
    exact s
  · unfold ref02_SamplesOf
    rw [D.r, Option.bind_some]
    simp only
    rw [w64 (x := a * t) (by omega), floorN (by omega) (by omega) (by omega), Option.bind_some, w64 (x := b * t) (by omega), ceilN (by omega) (by omega) (by omega) (by omega), Option.bind_some]
/-! ### errors -/
def pathErr (v1 : List Int) (v2 : List (Int × Int × Int × Int)) (q : Int) : Int := if v2.length ≠ v1.length then 10 else if v1.length > 4 then 8 else if q < 1 ∨ q > 24300000000 then 2 else 0
def spErr (v : Int) : Int := if v < 30000 ∨ v > 40000 then 2 else 0
theorem wholeP (v1 : List Int) (v2 : List (Int × Int × Int × Int)) (q : Int) : image_whole_c1_fa7c v1 v2 q = some (pathErr v1 v2 q) := by
  unfold image_whole_c1_fa7c image_firstError_262d pathErr
  rw [show ∀ (b : Bool) (e : Int), image_refuse b e = some (b, e) from fun _ _ => rfl, Option.bind_some]
  simp only
  rw [show ∀ (b : Bool) (e : Int), image_refuse b e = some (b, e) from fun _ _ => rfl, Option.bind_some]
  simp only [iWithin', iRefuse', Option.bind_some]
  by_cases c1 : v2.length ≠ v1.length
  · have : (v2.length : Int) ≠ (v1.length : Int) := by omega
    simp [c1, this]
  · have d1 : ¬ (v2.length : Int) ≠ (v1.length : Int) := by omega
    by_cases c2 : v1.length > 4
    · have : (v1.length : Int) > 4 := by omega
      simp [c1, d1, c2, this]
    · have d2 : ¬ (v1.length : Int) > 4 := by omega
      by_cases c3 : q < 1 ∨ q > 24300000000 <;> simp [c1, d1, c2, d2, c3]
theorem pathR (v1 : List Int) (v2 : List (Int × Int × Int × Int)) (q : Int) : ref02_PathErr v1 v2 q = some (pathErr v1 v2 q) := by
  unfold ref02_PathErr pathErr
  by_cases c1 : v2.length ≠ v1.length
  · rw [if_pos (by simp only [decide_eq_true_eq]; omega), if_pos c1]
  rw [if_neg (by simp only [decide_eq_true_eq]; omega), if_neg c1]
  by_cases c2 : v1.length > 4
  · rw [if_pos (by simp only [decide_eq_true_eq]; omega), if_pos c2]
  rw [if_neg (by simp only [decide_eq_true_eq]; omega), if_neg c2, withinB, Option.bind_some]
  by_cases c3 : q < 1 ∨ q > 24300000000
  · rw [if_neg (by simp only [decide_eq_true_eq]; omega), if_pos c3]
  · rw [if_pos (by simp only [decide_eq_true_eq]; omega), if_neg c3]
theorem speedR (v : Int) : ref02_SpeedErr v = some (spErr v) := by
  unfold ref02_SpeedErr spErr
  rw [withinB, Option.bind_some]
  by_cases c3 : v < 30000 ∨ v > 40000
  · rw [if_neg (by simp only [decide_eq_true_eq]; omega), if_pos c3]
  · rw [if_pos (by simp only [decide_eq_true_eq]; omega), if_neg c3]
theorem pathErr0 {v1 : List Int} {v2 : List (Int × Int × Int × Int)} {q : Int} (h : pathErr v1 v2 q = 0) : v2.length = v1.length ∧ v1.length ≤ 4 ∧ 1 ≤ q ∧ q ≤ 24300000000 := by
  unfold pathErr at h
  by_cases c1 : v2.length ≠ v1.length
  · rw [if_pos c1] at h; cases h
  rw [if_neg c1] at h
  by_cases c2 : v1.length > 4
  · rw [if_pos c2] at h; cases h
  rw [if_neg c2] at h
  by_cases c3 : q < 1 ∨ q > 24300000000
  · rw [if_pos c3] at h; cases h
  · exact ⟨by omega, by omega, by omega, by omega⟩
theorem spErr0 {v : Int} (h : spErr v = 0) : 30000 ≤ v ∧ v ≤ 40000 := by
  unfold spErr at h
  by_cases c3 : v < 30000 ∨ v > 40000
  · rw [if_pos c3] at h; cases h
  · omega
theorem first2 (v1 : List Int) (v2 : List (Int × Int × Int × Int)) (q v : Int) : image_firstError_cd3e v1 v2 q (decide (v < 30000 ∨ v > 40000)) 2 = some (if pathErr v1 v2 q ≠ 0 then pathErr v1 v2 q else spErr v) := by
  unfold image_firstError_cd3e spErr
  simp only [wholeP, iRefuse', Option.bind_some]
  by_cases c : pathErr v1 v2 q = 0
  · by_cases d : v < 30000 ∨ v > 40000 <;> simp [c, d]
  · simp [c]
theorem lengthP (v1 : List Int) (v2 : List (Int × Int × Int × Int)) (q : Int) : (pathErr v1 v2 q ≠ 0 ∧ image_LengthOf v1 v2 q = some (0, 0, pathErr v1 v2 q)) ∨ (pathErr v1 v2 q = 0 ∧ ∃ a b, Lens q a b ∧ image_LengthOf v1 v2 q = some (a, b, 0)) := by
  unfold image_LengthOf image_whole
  simp only [Option.bind_some, wholeP]
  by_cases c : pathErr v1 v2 q = 0
  · obtain ⟨_, _, h1, h2⟩ := pathErr0 c
    obtain ⟨a, b, L⟩ := lens_ex ⟨h1, h2⟩
    refine .inr ⟨c, a, b, L, ?_⟩
    rw [if_neg (by simpa using c), L.p, Option.bind_some]
  · refine .inl ⟨c, ?_⟩
    rw [if_pos (by simpa using c)]
theorem delayP (v1 : List Int) (v2 : List (Int × Int × Int × Int)) (q v : Int) : (pathErr v1 v2 q = 0 ∧ spErr v = 0 ∧ ∃ a b, Dels q v a b ∧ image_DelayOf v1 v2 q v = some (a, b, 0)) ∨ ((if pathErr v1 v2 q ≠ 0 then pathErr v1 v2 q else spErr v) ≠ 0 ∧ image_DelayOf v1 v2 q v = some (0, 0, if pathErr v1 v2 q ≠ 0 then pathErr v1 v2 q else spErr v)) := by
  unfold image_DelayOf image_whole image_audible
  simp only [Option.bind_some, iWithin', first2]
  by_cases c : (if pathErr v1 v2 q ≠ 0 then pathErr v1 v2 q else spErr v) = 0
  · have c1 : pathErr v1 v2 q = 0 := by
      by_cases c1 : pathErr v1 v2 q = 0
      · exact c1
      · rw [if_pos c1] at c; exact absurd c c1
    have c2 : spErr v = 0 := by rw [if_neg (by simpa using c1)] at c; exact c
    obtain ⟨_, _, h1, h2⟩ := pathErr0 c1
    obtain ⟨a, b, D⟩ := dels_ex ⟨h1, h2⟩ (spErr0 c2)
    refine .inl ⟨c1, c2, a, b, D, ?_⟩
    rw [if_neg (by simpa using c), D.p, Option.bind_some]
  · refine .inr ⟨c, ?_⟩
    rw [if_pos (by simpa using c)]
def rtErr (t : Int) : Int := if t < 8000 ∨ t > 192000 then 2 else 0
theorem samplesP (v1 : List Int) (v2 : List (Int × Int × Int × Int)) (q v t : Int) : (pathErr v1 v2 q = 0 ∧ spErr v = 0 ∧ rtErr t = 0 ∧ ∃ a b, Sams q v t a b ∧ image_SamplesOf v1 v2 q v t = some (a, b, 0)) ∨ ((if pathErr v1 v2 q ≠ 0 then pathErr v1 v2 q else if spErr v ≠ 0 then spErr v else rtErr t) ≠ 0 ∧ image_SamplesOf v1 v2 q v t = some (0, 0, if pathErr v1 v2 q ≠ 0 then pathErr v1 v2 q else if spErr v ≠ 0 then spErr v else rtErr t)) := by
  have f3 : image_firstError_cd5b v1 v2 q (decide (v < 30000 ∨ v > 40000)) 2 (decide (t < 8000 ∨ t > 192000)) 2 = some (if pathErr v1 v2 q ≠ 0 then pathErr v1 v2 q else if spErr v ≠ 0 then spErr v else rtErr t) := by
    unfold image_firstError_cd5b spErr rtErr
    simp only [wholeP, iRefuse', Option.bind_some]
    by_cases c : pathErr v1 v2 q = 0
    · by_cases d : v < 30000 ∨ v > 40000
      · simp [c, d]
      · by_cases e : t < 8000 ∨ t > 192000 <;> simp [c, d, e]
    · simp [c]
  unfold image_SamplesOf image_whole image_audible
  simp only [Option.bind_some, iWithin', f3]
  by_cases c : (if pathErr v1 v2 q ≠ 0 then pathErr v1 v2 q else if spErr v ≠ 0 then spErr v else rtErr t) = 0
  · have c1 : pathErr v1 v2 q = 0 := by
      by_cases c1 : pathErr v1 v2 q = 0
      · exact c1
      · rw [if_pos c1] at c; exact absurd c c1
    have c0 := c
    rw [if_neg (by simpa using c1)] at c
    have c2 : spErr v = 0 := by
      by_cases c2 : spErr v = 0
      · exact c2
      · rw [if_pos c2] at c; exact absurd c c2
    rw [if_neg (by simpa using c2)] at c
    have ht : 8000 ≤ t ∧ t ≤ 192000 := by
      unfold rtErr at c
      by_cases e : t < 8000 ∨ t > 192000
      · rw [if_pos e] at c; cases c
      · omega
    obtain ⟨_, _, h1, h2⟩ := pathErr0 c1
    obtain ⟨x, y, D⟩ := dels_ex ⟨h1, h2⟩ (spErr0 c2)
    obtain ⟨a, b, S⟩ := sams_ex ⟨h1, h2⟩ (spErr0 c2) ht
    refine .inl ⟨c1, c2, c, a, b, S, ?_⟩
    rw [if_neg (by simpa using c0), D.p, Option.bind_some]
    simp only
    rw [S.p _ _ D, Option.bind_some]
  · refine .inr ⟨c, ?_⟩
    rw [if_pos (by simpa using c)]
end Go.Rex

open Go Go.Rex
namespace Go.Rex
set_option maxRecDepth 100000
/-! ### lists turned in place -/
structure RevI {α : Type} (l c : List α) (k : Nat) : Prop where
  len : c.length = l.length
  at_ : ∀ p, p < l.length → c[p]? = if p < k ∨ l.length - k ≤ p then l[l.length - 1 - p]? else l[p]?
theorem RevI.zero {α : Type} (l : List α) : RevI l l 0 := ⟨rfl, fun p hp => by rw [if_neg (by omega)]⟩
theorem RevI.next {α : Type} {l c : List α} {k : Nat} (h : RevI l c k) (hk : k < l.length - 1 - k) {x y : α} (hx : c[k]? = some x) (hy : c[l.length - 1 - k]? = some y) : RevI l ((c.set k y).set (l.length - 1 - k) x) (k + 1) := by
  refine ⟨by simp [h.len], fun p hp => ?_⟩
  have h1 := h.at_ k (by omega)
  rw [if_neg (by omega), hx] at h1
  have h2 := h.at_ (l.length - 1 - k) (by omega)
  rw [if_neg (by omega), hy] at h2
  have hl := h.len
  rw [List.getElem?_set]
  by_cases e1 : l.length - 1 - k = p
  · rw [if_pos e1, if_pos (by rw [List.length_set]; omega), if_pos (by omega), ← e1, show l.length - 1 - (l.length - 1 - k) = k by omega, ← h1]
  · rw [if_neg e1, List.getElem?_set]
    by_cases e2 : k = p
    · rw [if_pos e2, if_pos (by omega), if_pos (by omega), ← e2, ← h2]
    · rw [if_neg e2, h.at_ p hp]
      by_cases e3 : p < k ∨ l.length - k ≤ p
      · rw [if_pos e3, if_pos (by omega)]
      · rw [if_neg e3, if_neg (by omega)]
theorem RevI.done {α : Type} {l c : List α} {k : Nat} (h : RevI l c k) (hk : ¬ k < l.length - 1 - k) : c = l.reverse := by
  apply List.ext_getElem?
  intro p
  by_cases hp : p < l.length
  · rw [h.at_ p hp, List.getElem?_reverse hp]
    by_cases e3 : p < k ∨ l.length - k ≤ p
    · rw [if_pos e3]
    · rw [if_neg e3, show l.length - 1 - p = p by omega]
  · rw [List.getElem?_eq_none (by rw [h.len]; omega), List.getElem?_eq_none (by simp; omega)]
theorem getI_some {α : Type} {l : List α} {k : Nat} {x : α} (h : l[k]? = some x) : getI l (k : Int) = some x := by rw [getI_nat]; exact h
theorem rev_run {α : Type} {step : (List α × Int × Int) → Option ((List α × Int × Int) ⊕ List α)} (l : List α) (hn : 1 ≤ l.length) (hl : l.length ≤ 1048576)
    (h1 : ∀ (c : List α) (i j : Nat) (x y : α), i < j → j < l.length → c.length = l.length → c[i]? = some x → c[j]? = some y → step (c, (i : Int), (j : Int)) = some (.inl ((c.set i y).set j x, ((i + 1 : Nat) : Int), (j : Int) - 1)))
    (h2 : ∀ (c : List α) (i j : Int), ¬ i < j → step (c, i, j) = some (.inr c)) : run step (l, 0, (l.length : Int) - 1) = some l.reverse := by
  suffices H : ∀ (d k : Nat) (c : List α), l.length - 1 - k - k ≤ d → k ≤ l.length - 1 → RevI l c k → run step (c, (k : Int), ((l.length - 1 - k : Nat) : Int)) = some l.reverse by
    have := H l.length 0 l (by omega) (by omega) (RevI.zero l)
    rw [show ((l.length - 1 - 0 : Nat) : Int) = (l.length : Int) - 1 by omega] at this
    exact this
  intro d
  induction d with
  | zero =>
    intro k c hd hk hI
    rw [hI.done (by omega)] at *
    exact run_stop (h2 _ _ _ (by omega))
  | succ d ih =>
    intro k c hd hk hI
    by_cases q : k < l.length - 1 - k
    · have hcl := hI.len
      obtain ⟨x, hx⟩ : ∃ x, c[k]? = some x := ⟨_, List.getElem?_eq_getElem (by omega)⟩
      obtain ⟨y, hy⟩ : ∃ y, c[l.length - 1 - k]? = some y := ⟨_, List.getElem?_eq_getElem (by omega)⟩
      have := h1 c k (l.length - 1 - k) x y q (by omega) hcl hx hy
      rw [run_next this, show ((l.length - 1 - k : Nat) : Int) - 1 = ((l.length - 1 - (k + 1) : Nat) : Int) by omega]
      exact ih (k + 1) _ (by omega) (by omega) (hI.next q hx hy)
    · rw [hI.done q] at *
      exact run_stop (h2 _ _ _ (by omega))
abbrev Pt := Int × Int × Int × Int
theorem copyA {α : Type} {b : Nat} {l : List α} (h : l.length ≤ 16) (hb : b ≤ 128) : appI b ([] : List α) l = some l := by
  unfold appI
  rw [if_pos (by
    refine ⟨by simp; omega, ?_⟩
    have : (([] : List α).length + l.length) * b ≤ 16 * 128 := Nat.mul_le_mul (by simpa using h) hb
    omega)]
  simp
theorem turnedI (l : List Int) (h : l.length ≤ 6) : image_turned_int l = some l.reverse := by
  unfold image_turned_int slices_Clone_int_int nilq
  rw [copyA (by omega) (by omega), Option.bind_some]
  by_cases c : l = []
  · subst c
    rw [if_pos rfl, if_pos rfl, Option.bind_some]
    unfold slices_Reverse_int_int_1549
    rw [show (IntKind.i64.wrap ((([] : List Int).length : Int) - 1)) = -1 from by decide, run_stop (e := ([] : List Int)) (by dsimp only [slices_Reverse_int_int_1549_l1]; rw [if_neg (by decide)])]
    rfl
  · have hn : 1 ≤ l.length := by
      have := List.length_pos_iff.2 c; omega
    rw [if_neg c, Option.bind_some]
    unfold slices_Reverse_int_int_1549
    rw [w64 (x := (l.length : Int) - 1) (by omega), rev_run l hn (by omega) (fun c i j x y hij hj hcl hx hy => by
      unfold slices_Reverse_int_int_1549_l1
      try simp only
      rw [if_pos (by simp only [decide_eq_true_eq]; omega), getI_some hy, Option.bind_some, getI_some hx, Option.bind_some, Int.toNat_natCast, Int.toNat_natCast, getI_some (l := c.set i y) (k := j) (x := y) (by rw [List.getElem?_set_ne (by omega)]; exact hy), Option.bind_some, w64 (x := (i : Int) + 1) (by omega), w64 (x := (j : Int) - 1) (by omega), show ((i + 1 : Nat) : Int) = (i : Int) + 1 by omega]) (fun c i j hij => by
      unfold slices_Reverse_int_int_1549_l1
      try simp only
      rw [if_neg (by simpa using hij)]), Option.bind_some, Option.bind_some, lenAs_of (by simp)]
theorem turnedP (l : List Pt) (h : l.length ≤ 6) : image_turned_api_HallPoint l = some l.reverse := by
  unfold image_turned_api_HallPoint slices_Clone_api_HallPoint_api_HallPoint nilq
  rw [copyA (by omega) (by omega), Option.bind_some]
  by_cases c : l = []
  · subst c
    rw [if_pos rfl, if_pos rfl, Option.bind_some]
    unfold slices_Reverse_api_HallPoint_api_HallPoint_4249
    rw [show (IntKind.i64.wrap ((([] : List Pt).length : Int) - 1)) = -1 from by decide, run_stop (e := ([] : List Pt)) (by dsimp only [slices_Reverse_api_HallPoint_api_HallPoint_4249_l1]; rw [if_neg (by decide)])]
    rfl
  · have hn : 1 ≤ l.length := by
      have := List.length_pos_iff.2 c; omega
    rw [if_neg c, Option.bind_some]
    unfold slices_Reverse_api_HallPoint_api_HallPoint_4249
    rw [w64 (x := (l.length : Int) - 1) (by omega), rev_run l hn (by omega) (fun c i j x y hij hj hcl hx hy => by
      unfold slices_Reverse_api_HallPoint_api_HallPoint_4249_l1
      try simp only
      rw [if_pos (by simp only [decide_eq_true_eq]; omega), getI_some hy, Option.bind_some]
      try simp only
      rw [getI_some hx, Option.bind_some]
      try simp only
      rw [Int.toNat_natCast, Int.toNat_natCast, getI_some (l := c.set i y) (k := j) (x := y) (by rw [List.getElem?_set_ne (by omega)]; exact hy), Option.bind_some]
      try simp only
      rw [w64 (x := (i : Int) + 1) (by omega), w64 (x := (j : Int) - 1) (by omega), show ((i + 1 : Nat) : Int) = (i : Int) + 1 by omega]) (fun c i j hij => by
      unfold slices_Reverse_api_HallPoint_api_HallPoint_4249_l1
      try simp only
      rw [if_neg (by simpa using hij)]), Option.bind_some, Option.bind_some, lenAs_of (by simp)]
theorem turnP (v1 : List Int) (v2 : List Pt) (q : Int) (h1 : v1.length ≤ 6) (h2 : v2.length ≤ 6) : image_Turned v1 v2 q = some (if pathErr v1 v2 q ≠ 0 then ([], [], 0, pathErr v1 v2 q) else (v1.reverse, v2.reverse, q, 0)) := by
  unfold image_Turned image_whole
  simp only [Option.bind_some, wholeP]
  by_cases c : pathErr v1 v2 q = 0
  · rw [if_neg (by simpa using c), turnedI v1 h1, Option.bind_some, turnedP v2 h2, Option.bind_some, if_neg (by simpa using c)]
  · rw [if_pos (by simpa using c), if_pos c]
theorem turnR (v1 : List Int) (v2 : List Pt) (q : Int) (h1 : v1.length ≤ 6) (h2 : v2.length = v1.length) : ref02_Turned v1 v2 q = some (v1.reverse, v2.reverse, q) := by
  unfold ref02_Turned
  have H : ∀ (k : Nat), k ≤ v1.length → run (ref02_Turned_l1 v1 v2) ((v1.drop k).reverse, (v2.drop k).reverse, (k : Int) - 1) = some (v1.reverse, v2.reverse) := by
    intro k
    induction k with
    | zero =>
      intro _
      refine run_stop ?_
      unfold ref02_Turned_l1
      try simp only
      rw [if_neg (by decide)]
      rfl
    | succ k ih =>
      intro hk
      have e1 : (v1.drop k).reverse = (v1.drop (k + 1)).reverse ++ [v1[k]] := by rw [List.drop_eq_getElem_cons (show k < v1.length by omega), List.reverse_cons]
      have e2 : (v2.drop k).reverse = (v2.drop (k + 1)).reverse ++ [v2[k]] := by rw [List.drop_eq_getElem_cons (show k < v2.length by omega), List.reverse_cons]
      rw [← ih (by omega), e1, e2]
      refine run_next ?_
      unfold ref02_Turned_l1
      try simp only
      rw [if_pos (by simp only [decide_eq_true_eq]; omega), show ((k + 1 : Nat) : Int) - 1 = (k : Int) by omega, getI_lt' (show k < v1.length by omega), Option.bind_some, appI_one (by simp; omega) (by omega), Option.bind_some, getI_lt' (show k < v2.length by omega), Option.bind_some]
      try simp only
      rw [appI_one (by simp; omega) (by omega), Option.bind_some, w64 (x := (k : Int) - 1) (by omega)]
  rw [w64 (x := (v1.length : Int) - 1) (by omega)]
  have := H v1.length (Nat.le_refl _)
  rw [List.drop_length, List.drop_eq_nil_of_le (by omega)] at this
  rw [show (([] : List Int), ([] : List Pt), (v1.length : Int) - 1) = (([] : List Int).reverse, ([] : List Pt).reverse, (v1.length : Int) - 1) from rfl, this, Option.bind_some]
theorem intsRefl {l : List Int} (h : l.length ≤ 1048576) : base_Ints l l = some true := by
  unfold base_Ints
  rw [if_neg (by simp)]
  have := run_find (step := base_Ints_l1 l l) (n := l.length) (p := fun _ => (none : Option Unit)) (r := ()) (fun k hk _ => by
    unfold base_Ints_l1
    rw [if_pos (by simp only [decide_eq_true_eq]; omega), getI_lt' hk, Option.bind_some, Option.bind_some, if_neg (by simp), wsucc (n := l.length) (by omega) (by omega)]) (fun _ => by
    unfold base_Ints_l1
    rw [if_neg (by simp)])
  rw [firstOf_none.2 (fun _ _ => rfl)] at this
  rw [this]
  rfl
theorem sameRefl (v1 : List Int) (v2 : List Pt) (q : Int) (h1 : v1.length ≤ 6) (h2 : v2.length ≤ 6) : ref02_Same v1 v2 q v1 v2 q = some true := by
  unfold ref02_Same
  rw [intsRefl (by omega), Option.bind_some, if_pos rfl, if_neg (by simp), if_neg (by simp)]
  have := run_find (step := ref02_Same_l1 v2 v2) (n := v2.length) (p := fun _ => (none : Option Unit)) (r := ()) (fun k hk _ => by
    unfold ref02_Same_l1
    rw [if_pos (by simp only [decide_eq_true_eq]; omega), getI_lt' hk, Option.bind_some]
    try simp only
    rw [Option.bind_some]
    try simp only
    rw [if_pos (by simp), wsucc (n := v2.length) (by omega) (by omega)]) (fun _ => by
    unfold ref02_Same_l1
    rw [if_neg (by simp)])
  rw [firstOf_none.2 (fun _ _ => rfl)] at this
  rw [this]
  rfl
theorem same0 : ref02_Same_5679 [] [] 0 0 = some true := by
  unfold ref02_Same_5679 base_Ints_811f
  rw [if_neg (by decide), run_stop (e := ()) (by unfold base_Ints_811f_l1; rw [if_neg (by decide)]), Option.bind_some, Option.bind_some, if_pos rfl, if_neg (by decide), if_neg (by decide), run_stop (e := ()) (by unfold ref02_Same_5679_l1; rw [if_neg (by decide)])]
  rfl
theorem copyPath (v1 : List Int) (v2 : List Pt) (q : Int) (h1 : v1.length ≤ 6) (h2 : v2.length ≤ 6) : ref02_CopyPath v1 v2 q = some (v1, v2, q) := by
  unfold ref02_CopyPath base_CopyInts
  rw [copyA (by omega) (by omega), Option.bind_some, Option.bind_some, copyA (by omega) (by omega), Option.bind_some]
end Go.Rex

open Go Go.Rex
namespace Go.Rex
set_option maxRecDepth 100000
theorem delays_true (v1 : List Int) (v2 : List Pt) (q v t u : Int) : law02_ImageDelays v1 v2 q v t u = some true := by
  have all2 : ∀ {a b : Int}, (([a == a, b == b] : List Bool).all id) = true := fun {a b} => by simp
  unfold law02_ImageDelays
  by_cases c1 : v1.length > 6
  · rw [if_pos (by simp only [decide_eq_true_eq]; omega)]
  rw [if_neg (by simp only [decide_eq_true_eq]; omega)]
  by_cases c2 : v2.length > 6
  · rw [if_pos (by simp only [decide_eq_true_eq]; omega)]
  rw [if_neg (by simp only [decide_eq_true_eq]; omega)]
  have h1 : v1.length ≤ 6 := by omega
  have h2 : v2.length ≤ 6 := by omega
  have hc := copyPath v1 v2 q h1 h2
  simp only [hc, Option.bind_some, turnP v1 v2 q h1 h2, pathR]
  by_cases hp : pathErr v1 v2 q = 0
  · obtain ⟨e1, e2, e3, e4⟩ := pathErr0 hp
    rcases lengthP v1 v2 q with ⟨x, _⟩ | ⟨_, a, b, L, hL⟩
    · exact absurd hp x
    simp only [hL, Option.bind_some, L.r, hp, ne_eq, not_true, if_false, decide_false, Bool.false_eq_true]
    have ht := turnR v1 v2 q h1 e1
    have hb := turnP v1.reverse v2.reverse q (by simpa using h1) (by simpa using h2)
    have hpr : pathErr v1.reverse v2.reverse q = 0 := by unfold pathErr at hp ⊢; simpa using hp
    rw [if_neg (by simpa using hpr), List.reverse_reverse, List.reverse_reverse] at hb
    have hs1 := sameRefl v1.reverse v2.reverse q (by simpa using h1) (by simpa using h2)
    have hs2 := sameRefl v1 v2 q h1 h2
    have hd : (spErr v = 0 ∧ ∃ a b, Dels q v a b ∧ image_DelayOf v1 v2 q v = some (a, b, 0)) ∨ (spErr v ≠ 0 ∧ image_DelayOf v1 v2 q v = some (0, 0, spErr v)) := by
      rcases delayP v1 v2 q v with ⟨_, d1, d2⟩ | ⟨d1, d2⟩
      · exact .inl ⟨d1, d2⟩
      · rw [if_neg (by simpa using hp)] at d1 d2; exact .inr ⟨d1, d2⟩
    have hsm : (spErr v = 0 ∧ rtErr t = 0 ∧ ∃ a b, Sams q v t a b ∧ image_SamplesOf v1 v2 q v t = some (a, b, 0)) ∨ ((if spErr v ≠ 0 then spErr v else rtErr t) ≠ 0 ∧ image_SamplesOf v1 v2 q v t = some (0, 0, if spErr v ≠ 0 then spErr v else rtErr t)) := by
      rcases samplesP v1 v2 q v t with ⟨_, d1, d2, d3⟩ | ⟨d1, d2⟩
      · exact .inl ⟨d1, d2, d3⟩
      · rw [if_neg (by simpa using hp)] at d1 d2; exact .inr ⟨d1, d2⟩
    rcases hd with ⟨d1, x, y, D, hD⟩ | ⟨d1, hD⟩
    · simp only [hD, Option.bind_some]
      rcases hsm with ⟨_, m1, z, w, S, hS⟩ | ⟨m1, hS⟩
      · have hw : 8000 ≤ t ∧ t ≤ 192000 := by
          unfold rtErr at m1
          by_cases e : t < 8000 ∨ t > 192000
          · rw [if_pos e] at m1; cases m1
          · omega
        simp only [hS, Option.bind_some, ht, hs1, hb, hs2, speedR, d1, D.r, S.r, withinB, all2, if_true, ne_eq, not_true, if_false, decide_false, Bool.false_eq_true, decide_true, hw, and_self]
      · rw [if_neg (by simpa using d1)] at m1 hS
        have m2 : rtErr t = 2 := by unfold rtErr at m1 ⊢; split at m1 <;> simp_all
        have hw : ¬ (8000 ≤ t ∧ t ≤ 192000) := by
          intro hw
          apply m1
          unfold rtErr
          rw [if_neg (by omega)]
        simp only [hS, m2, Option.bind_some, ht, hs1, hb, hs2, speedR, d1, D.r, withinB, all2, if_true, ne_eq, not_true, if_false, decide_false, Bool.false_eq_true, decide_true, hw]
    · simp only [hD, Option.bind_some]
      rcases hsm with ⟨m1, _⟩ | ⟨m1, hS⟩
      · exact absurd m1 d1
      · rw [if_pos d1] at hS
        simp only [hS, Option.bind_some, ht, hs1, hb, hs2, speedR, d1, all2, if_true, ne_eq, not_true, if_false, decide_false, Bool.false_eq_true, decide_true, not_false_eq_true]
  · rcases lengthP v1 v2 q with ⟨_, hL⟩ | ⟨x, _⟩
    · rcases delayP v1 v2 q v with ⟨x, _⟩ | ⟨_, hD⟩
      · exact absurd x hp
      · rcases samplesP v1 v2 q v t with ⟨x, _⟩ | ⟨_, hS⟩
        · exact absurd x hp
        · rw [if_pos hp] at hD hS
          simp only [hL, hD, hS, Option.bind_some, hp, ne_eq, not_false_eq_true, if_true, decide_true, all2, same0]
    · exact absurd x hp
end Go.Rex

namespace Go.Rex
open Go Go.ChangeShapes Go.WideShapes Go.ChangeAt Go.RowKit Go.Joins Go.Proofs
/-! ### arguments: what they are as trees,and the names of their blocks -/
structure Arg (W : World) (v' : Value) (p : TV) (bs : List Blk) (is : List Info) (av : Nat → Value) : Prop where
  vr : ∀ (D : Nat → Prop) (m : NMap) n,(∀ j,j < bs.length → D (n + j)) → (∀ (j : Nat) i,is[j]? = some i → m (n + j) = i) → VR D m (av n) v'
  vl : ∀ (Fz : Nat → Prop) (h : List Blk) n,(∀ j,j < bs.length → Fz (n + j)) → (∀ (j : Nat) b,bs[j]? = some b → h[n + j]? = some b) → VL Fz h noL p (av n)
  ok : ∀ (D : Nat → Prop) (m : NMap) n,(∀ j,j < bs.length → D (n + j)) → (∀ (j : Nat) i,is[j]? = some i → m (n + j) = i) → ∀ (j : Nat) b,bs[j]? = some b → BlkOk D m W (n + j) b
  lt : ∀ (j : Nat) b i,bs[j]? = some b → is[j]? = some i → b ≠ .dead → i.block < W.heap.size
  len : is.length = bs.length
structure Args (W : World) (vs' : List Value) (ps : List TV) (bs : List Blk) (is : List Info) (av : Nat → List Value) : Prop where
  vr : ∀ (D : Nat → Prop) (m : NMap) n,(∀ j,j < bs.length → D (n + j)) → (∀ (j : Nat) i,is[j]? = some i → m (n + j) = i) → VRs D m (av n) vs'
  vl : ∀ (Fz : Nat → Prop) (h : List Blk) n,(∀ j,j < bs.length → Fz (n + j)) → (∀ (j : Nat) b,bs[j]? = some b → h[n + j]? = some b) → VLs Fz h noL ps (av n)
  ok : ∀ (D : Nat → Prop) (m : NMap) n,(∀ j,j < bs.length → D (n + j)) → (∀ (j : Nat) i,is[j]? = some i → m (n + j) = i) → ∀ (j : Nat) b,bs[j]? = some b → BlkOk D m W (n + j) b
  lt : ∀ (j : Nat) b i,bs[j]? = some b → is[j]? = some i → b ≠ .dead → i.block < W.heap.size
  len : is.length = bs.length
theorem Args.nil (W : World) : Args W [] [] [] [] (fun _=>[]) :=
  ⟨fun _ _ _ _ _=>⟨rfl,fun i a a' h=>by simp at h⟩,fun _ _ _ _ _=>.nil,fun _ _ _ _ _ j b h=>by simp at h,fun j b i h=>by simp at h,rfl⟩
theorem Args.cons {W : World} {v' : Value} {p : TV} {bs bs2 : List Blk} {is is2 : List Info} {av : Nat → Value} {vs' : List Value} {ps : List TV} {avs : Nat → List Value}
    (a : Arg W v' p bs is av) (az : Args W vs' ps bs2 is2 avs) : Args W (v' :: vs') (p :: ps) (bs ++ bs2) (is ++ is2) (fun n=>av n :: avs (n + bs.length)):=by
  have cD : ∀ (D : Nat → Prop) n,(∀ j,j < (bs ++ bs2).length → D (n + j)) → (∀ j,j < bs.length → D (n + j)) ∧ (∀ j,j < bs2.length → D (n + bs.length + j)):=by
    intro D n h
    refine ⟨fun j hj=>h j (by simp;omega),fun j hj=>?_⟩
    have:=h (bs.length + j) (by simp;omega)
    rwa [← Nat.add_assoc] at this
  have cI : ∀ (m : NMap) n,(∀ (j : Nat) i,(is ++ is2)[j]? = some i → m (n + j) = i) → (∀ (j : Nat) i,is[j]? = some i → m (n + j) = i) ∧ (∀ (j : Nat) i,is2[j]? = some i → m (n + bs.length + j) = i):=by
    intro m n h
    refine ⟨fun j i hj=>h j i (by rw [List.getElem?_append_left (List.getElem?_eq_some_iff.1 hj).1];exact hj),fun j i hj=>?_⟩
    have:=h (bs.length + j) i (by rw [List.getElem?_append_right (by rw [a.len];omega),a.len,Nat.add_sub_cancel_left];exact hj)
    rwa [← Nat.add_assoc] at this
  refine ⟨fun D m n hD hm=>?_,fun Fz h n hF hh=>?_,fun D m n hD hm j b hb=>?_,fun j b i hb hi hd=>?_,by simp [a.len,az.len]⟩
  · have h1:=a.vr D m n (cD D n hD).1 (cI m n hm).1
    have h2:=az.vr D m (n + bs.length) (cD D n hD).2 (cI m n hm).2
    refine ⟨by simp [h2.len],fun i x x' hx hx'=>?_⟩
    cases i with
    | zero=>simp at hx hx';subst hx hx';exact h1
    | succ i=>simp at hx hx';exact h2.at' i x x' hx hx'
  · refine .cons (a.vl Fz h n (cD Fz n hF).1 fun j b hb=>hh j b (by rw [List.getElem?_append_left (List.getElem?_eq_some_iff.1 hb).1];exact hb)) (az.vl Fz h (n + bs.length) (cD Fz n hF).2 fun j b hb=>?_)
    have:=hh (bs.length + j) b (by rw [List.getElem?_append_right (by omega),Nat.add_sub_cancel_left];exact hb)
    rwa [← Nat.add_assoc] at this
  · rcases Nat.lt_or_ge j bs.length with hj|hj
    · rw [List.getElem?_append_left hj] at hb
      exact a.ok D m n (cD D n hD).1 (cI m n hm).1 j b hb
    · rw [List.getElem?_append_right hj] at hb
      have:=az.ok D m (n + bs.length) (cD D n hD).2 (cI m n hm).2 _ b hb
      rwa [show n + bs.length + (j - bs.length) = n + j by omega] at this
  · rcases Nat.lt_or_ge j bs.length with hj|hj
    · rw [List.getElem?_append_left hj] at hb
      rw [List.getElem?_append_left (by rw [a.len];exact hj)] at hi
      exact a.lt j b i hb hi hd
    · rw [List.getElem?_append_right hj] at hb
      rw [List.getElem?_append_right (by rw [a.len];exact hj),a.len] at hi
      exact az.lt _ b i hb hi hd
/-- the names of the arguments -/
def nm (is : List Info) : NMap:=fun n=>is.getD n ⟨0,0,0,0⟩
theorem nm_at {is : List Info} {j : Nat} {i : Info} (h : is[j]? = some i) : nm is (0 + j) = i:=by
  unfold nm
  rw [Nat.zero_add,List.getD_eq_getElem?_getD,h]
  rfl
section
variable {W : World} {vs' : List Value} {ps : List TV} {bs : List Blk} {is : List Info} {av : Nat → List Value}
theorem Args.vls (a : Args W vs' ps bs is av) : VLs (fun k=>k < bs.length) bs noL ps (av 0):=a.vl _ _ 0 (fun j hj=>by omega) (fun j b hb=>by rw [Nat.zero_add];exact hb)
theorem Args.vrs (a : Args W vs' ps bs is av) : VRs (fun k=>k < bs.length) (nm is) (av 0) vs':=a.vr _ _ 0 (fun j hj=>by omega) (fun j i hi=>nm_at hi)
end
theorem len1 {α : Type} {l : List α} (h : l.length = 1) : ∃ x0,l = [x0]:=by
  match l,h with
  | [x0],_=>exact ⟨_,rfl⟩
theorem len2 {α : Type} {l : List α} (h : l.length = 2) : ∃ x0 x1,l = [x0,x1]:=by
  match l,h with
  | [x0,x1],_=>exact ⟨_,_,rfl⟩
theorem len3 {α : Type} {l : List α} (h : l.length = 3) : ∃ x0 x1 x2,l = [x0,x1,x2]:=by
  match l,h with
  | [x0,x1,x2],_=>exact ⟨_,_,_,rfl⟩
theorem len4 {α : Type} {l : List α} (h : l.length = 4) : ∃ x0 x1 x2 x3,l = [x0,x1,x2,x3]:=by
  match l,h with
  | [x0,x1,x2,x3],_=>exact ⟨_,_,_,_,rfl⟩
/-! ### arguments without names -/
def AtomV (c : Value) : Prop:=isAtom c = true ∧ ∀ D m,VR D m c c
theorem atomV_int (k : IntKind) (n : Int) : AtomV (.int k n):=⟨rfl,fun _ _=>.int _ _⟩
theorem Arg.atom {W : World} {v : Value} (h : AtomV v) : Arg W v (.v v) [] [] (fun _=>v) :=
  ⟨fun _ _ _ _ _=>h.2 _ _,fun _ _ _ _ _=>.v _ _ h.1,fun _ _ _ _ _ j b h=>by simp at h,fun j b i h=>by simp at h,rfl⟩
theorem Arg.agg {W : World} {l : List Value} (h : ∀ c ∈ l,AtomV c) : Arg W (.agg ⟨l⟩) (.agg (l.map .v)) [] [] (fun _=>.agg ⟨l⟩):=by
  refine ⟨fun _ _ _ _ _=>.agg _ _ rfl fun i v v' hv hv'=>?_,fun _ _ _ _ _=>.agg _ _ _ (by simp) fun i p x hp hx=>?_,fun _ _ _ _ _ j b h=>by simp at h,fun j b i h=>by simp at h,rfl⟩
  · obtain rfl : v = v':=Option.some.inj (hv.symm.trans hv')
    exact (h v (List.mem_of_getElem? hv)).2 _ _
  · rw [List.getElem?_map,hx] at hp
    obtain rfl:=Option.some.inj hp
    exact .v _ _ (h x (List.mem_of_getElem? hx)).1
/-! ### a slice of rows -/
theorem flatMap_at {α β : Type} {g : α → List β} {es : Nat} (hg : ∀ x,(g x).length = es) (he : 0 < es) : ∀ (xs : List α) i,(xs.flatMap g)[i]? = (xs[i / es]?).bind fun x=>(g x)[i % es]?
  | [],i=>by simp
  | x :: t,i=>by
    rw [List.flatMap_cons]
    rcases Nat.lt_or_ge i es with h|h
    · rw [List.getElem?_append_left (by rw [hg];exact h),Nat.div_eq_of_lt h,Nat.mod_eq_of_lt h]
      rfl
    · rw [List.getElem?_append_right (by rw [hg];exact h),hg,flatMap_at hg he t (i - es)]
      have e1 : i / es = (i - es) / es + 1:=by rw [Nat.div_eq_sub_div he h]
      have e2 : i % es = (i - es) % es:=Nat.mod_eq_sub_mod h
      rw [e1,e2]
      rfl
theorem flatMap_len {α β : Type} {g : α → List β} {es : Nat} (hg : ∀ x,(g x).length = es) : ∀ (xs : List α),(xs.flatMap g).length = xs.length * es
  | []=>by simp
  | x :: t=>by rw [List.flatMap_cons,List.length_append,hg,flatMap_len hg t,List.length_cons,Nat.add_mul];omega
theorem flatMap_map {α : Type} {f : α → List TV} {g : α → List Value} (hf : ∀ x,f x = (g x).map .v) : ∀ (xs : List α),(xs.map f).flatten = (xs.flatMap g).map .v
  | []=>rfl
  | x :: t=>by rw [List.map_cons,List.flatten_cons,flatMap_map hf t,List.flatMap_cons,List.map_append,hf]
theorem choose_list {α : Type} {Q : Nat → α → Prop} : ∀ n,(∀ i,i < n → ∃ x,Q i x) → ∃ xs : List α,xs.length = n ∧ ∀ (i : Nat) x,xs[i]? = some x → Q i x
  | 0,_=>⟨[],rfl,fun i x h=>by simp at h⟩
  | n + 1,h=>by
    obtain ⟨xs,hl,hq⟩:=choose_list n (fun i hi=>h i (by omega))
    obtain ⟨x,hx⟩:=h n (by omega)
    refine ⟨xs ++ [x],by simp [hl],fun i y hy=>?_⟩
    rcases Nat.lt_or_ge i n with hi|hi
    · rw [List.getElem?_append_left (by omega)] at hy
      exact hq i y hy
    · rw [List.getElem?_append_right (by omega),hl] at hy
      have : i = n:=by
        rcases Nat.lt_or_ge 0 (i - n) with g|g
        · rw [List.getElem?_eq_none (by simp;omega)] at hy;cases hy
        · omega
      subst this
      simp at hy
      subst hy
      exact hx
section
variable {H : Type} {enc : TypeId × Value → H} {W : World} {base : Nat} {spare : Nat → Bool} {held : Bool}
theorem open_rowsC {α : Type} {f : α → List TV} {g : α → List Value} {es : Nat} (he : 0 < es) (hf : ∀ x, f x = (g x).map .v) (hg : ∀ x, (g x).length = es) (hat : ∀ x, ∀ c ∈ g x, AtomV c)
    {P : Program} {t te : TypeId} (ht : P.underlying t = some (.slice te)) (hC : P.cellsOf te = es) {r : Reach} {b0 : Nat} {v' : Value} (hval : Cell.okWide P W r b0 t v')
    (elem : ∀ n cs y,DataW.trod enc P W base spare held n te cs = some y → cs.length = es → ∃ x : α,cs = g x)
    {fuel : Nat} {x : DataW H × List MemPlace} (h : DataW.trod enc P W base spare held fuel t [v'] = some x) : ∃ (xs : List α) (bs : List Blk) (is : List Info) (av : Nat → Value),Arg W v' (.list es (xs.map f)) bs is av:=by
  rcases DataW.trod_slice ht h with ⟨hv,_⟩|⟨a,len,cap,elems,rest,n,_,hv,_,hb,hlc,hcm,hel,hel2,_,_⟩
  · obtain rfl : v' = .slice none 0 0:=by simpa using hv
    exact ⟨[],[],[],fun _=>.slice none 0 0,fun _ _ _ _ _=>.nilSlice 0 0,fun _ _ _ _ _=>.nillist _ _,fun _ _ _ _ _ j b h=>by simp at h,fun j b i h=>by simp at h,rfl⟩
  · obtain rfl : v' = .slice (some a) len cap:=by simpa using hv
    have hok : len ≤ cap ∧ (cap : Int) ≤ IntKind.i64.max ∧ W.has P r b0 a te cap:=by
      unfold Cell.okWide at hval
      simp only [ht] at hval
      unfold Cell.ok at hval
      simpa only [ht] using hval
    obtain ⟨gb,o,s⟩:=a
    obtain ⟨_,_,_,hs,row,cells,hsh,_⟩:=hok
    simp only at hs hsh
    subst hs
    have hgb : gb < W.heap.size:=by
      unfold World.shape? at hsh
      rcases Nat.lt_or_ge gb W.heap.size with hg|hg
      · exact hg
      · rw [Array.getElem?_eq_none hg] at hsh
        simp at hsh
    have key : ∀ i,i < len → ∃ x : α,∀ j,j < es → W.cell? ⟨gb,o + i * es + j,none⟩ = (g x)[j]?:=fun i hi=>by
      have h1:=hel2 i hi
      rw [List.getElem?_eq_getElem (by omega),Option.bind_eq_some_iff] at h1
      obtain ⟨cs,hcs,htr⟩:=h1
      rw [hC] at hcs
      unfold World.cells? at hcs
      split at hcs
      · have hlen:=mapM_some_length hcs
        simp at hlen
        obtain ⟨x,rfl⟩:=elem n cs _ htr hlen
        refine ⟨x,fun j hj=>?_⟩
        have:=mapM_some_get hcs j j (by simp [hj])
        have e : ((⟨gb,o,none⟩ : Addr).add (i * es)).add j = ⟨gb,o + i * es + j,none⟩:=by
          unfold Addr.add
          split<;>split<;>simp_all
        rw [← e]
        exact this
      · cases hcs
    obtain ⟨xs,hl,hq⟩:=choose_list len key
    subst hl
    have hlen:=flatMap_len hg xs
    have hfl:=flatMap_map hf xs
    refine ⟨xs,[.cells es (xs.flatMap g)],[⟨gb,o,cap * es,es⟩],fun n=>.slice (some ⟨n,0,none⟩) xs.length xs.length,fun D m n hD hm=>?_,fun Fz h n hF hh=>?_,fun D m n hD hm j b hb=>?_,fun j b i hb hi hd=>?_,rfl⟩
    · have e:=hm 0 _ rfl
      rw [Nat.add_zero] at e
      have:=VR.slice (D:=D) (m:=m) n 0 xs.length xs.length cap (hD 0 (by simp)) (Nat.le_refl _) hlc (.inr (by rw [e];simp))
      rw [e] at this
      exact this
    · have hw : ∀ r ∈ xs.map f,r.length = es:=fun r hr=>by obtain ⟨x,_,rfl⟩:=List.mem_map.1 hr;rw [hf,List.length_map,hg]
      have:=VL.list (Fz:=Fz) (h:=h) noL es (xs.map f) n 0 xs.length (xs.flatMap g) es (hF 0 (by simp)) (hh 0 _ rfl) (.inl rfl) hw (by simp) (by rw [List.length_map,hlen];omega) (fun j p x hp hx=>by
        rw [hfl,List.getElem?_map,Option.map_eq_some_iff] at hp
        rw [Nat.zero_add] at hx
        obtain ⟨y,h1,rfl⟩:=hp
        obtain rfl : y = x:=Option.some.inj (h1.symm.trans hx)
        obtain ⟨z,_,hz⟩:=List.mem_flatMap.1 (List.mem_of_getElem? hx)
        exact .v _ _ (hat z y hz).1)
      rw [List.length_map] at this
      exact this
    · match j,hb with
      | 0,hb =>
        obtain rfl:=Option.some.inj hb
        have e:=hm 0 _ rfl
        rw [Nat.add_zero] at e ⊢
        refine ⟨by rw [e],fun i v hv=>⟨v,?_,?_⟩⟩
        · rw [flatMap_at hg he,Option.bind_eq_some_iff] at hv
          obtain ⟨x,hx,hv⟩:=hv
          rw [e]
          have:=hq _ x hx (i % es) (Nat.mod_lt _ he)
          rw [Nat.add_assoc,Nat.mul_comm,Nat.div_add_mod] at this
          rw [this]
          exact hv
        · obtain ⟨z,_,hz⟩:=List.mem_flatMap.1 (List.mem_of_getElem? hv)
          exact (hat z v hz).2 _ _
      | j + 1,hb=>simp at hb
    · match j,hb,hi with
      | 0, hb, hi => obtain rfl := Option.some.inj hi
                     exact hgb
      | j + 1,hb,hi=>simp at hb
/-! ### aggregates of ints -/
def AI (cs : List Value) : Prop:=∀ c ∈ cs,∃ n : Int,c = .int .i64 n
theorem AI.list {cs : List Value} (h : AI cs) : ∃ l : List Int,cs = l.map (.int .i64):=by
  induction cs with
  | nil=>exact ⟨[],rfl⟩
  | cons c t ih =>
    obtain ⟨n,rfl⟩:=h c (by simp)
    obtain ⟨l,rfl⟩:=ih fun c hc=>h c (by simp [hc])
    exact ⟨n :: l,rfl⟩
variable {P : Program}
theorem ai_int {te : TypeId} (ht : P.underlying te = some (.int .i64)) {fuel : Nat} {cs : List Value} {x : DataW H × List MemPlace} (h : DataW.trod enc P W base spare held fuel te cs = some x) : AI cs:=by
  obtain ⟨n,rfl,_⟩:=DataW.trod_int ht h
  exact fun c hc=>⟨n,by simpa using hc⟩
theorem ai_struct {t : TypeId} {fs : Array Field} (ht : P.underlying t = some (.struct fs)) (hcov : ((List.range (P.cellsOf t)).all fun j => fs.toList.any fun f => decide (f.offset ≤ j) && decide (j < f.offset + P.cellsOf f.type)) = true) (he : ∀ f ∈ fs.toList, ∀ n cs y, DataW.trod enc P W base spare held n f.type cs = some y → AI cs)
    {fuel : Nat} {cs : List Value} {x : DataW H × List MemPlace} (h : DataW.trod enc P W base spare held fuel t cs = some x) : AI cs:=by
  obtain ⟨xs,n,_,_,hl,hx,hi⟩:=DataW.trod_struct ht h
  intro c hcm
  obtain ⟨j,hj,rfl⟩:=List.mem_iff_getElem.1 hcm
  rw [hl] at hj
  have:=List.all_eq_true.1 hcov j (by simpa using hj)
  obtain ⟨f,hf,hf2⟩:=List.any_eq_true.1 this
  simp only [Bool.and_eq_true,decide_eq_true_eq] at hf2
  obtain ⟨i,hil,hif⟩:=List.mem_iff_getElem.1 hf
  have hfi : fs[i]? = some f:=by rw [← Array.getElem?_toList,List.getElem?_eq_getElem hil,hif]
  have h1:=hi i f hfi
  have hil2 : i < fs.size:=by simpa using hil
  rw [List.getElem?_eq_getElem (by omega)] at h1
  refine he f hf _ _ _ h1 _ ?_
  refine List.mem_of_getElem? (i:=j - f.offset) ?_
  rw [List.getElem?_take,if_pos (by omega),List.getElem?_drop,show f.offset + (j - f.offset) = j by omega,List.getElem?_eq_getElem]
theorem okW_int {t : TypeId} (ht : P.underlying t = some (.int .i64)) {r : Reach} {b : Nat} {v : Value} (w : Cell.okWide P W r b t v) : ∃ n : Int,v = .int .i64 n:=by
  unfold Cell.okWide at w
  simp only [ht] at w
  unfold Cell.ok at w
  simp only [ht] at w
  cases v<;>first|exact ⟨_,by rw [w.1]⟩|exact absurd w (by simp)
theorem open_sti {t ti : TypeId} {fs : Array Field} {n : Nat} (ht : P.underlying t = some (.struct fs)) (hti : P.underlying ti = some (.int .i64)) (hct : P.cellTypes P.depth t = some (List.replicate n ti)) (hn : P.cellsOf t = n)
    {r : Reach} {b : Nat} {v : Value} (w : Value.okWide P W r b t v) : ∃ l : List Int,l.length = n ∧ v = .agg ⟨l.map (.int .i64)⟩:=by
  unfold Value.okWide at w
  simp only [ht] at w
  obtain ⟨cs,rfl,hs,ts,hts,_,hc⟩:=w
  rw [hct] at hts
  obtain rfl:=Option.some.inj hts
  obtain ⟨l⟩:=cs
  have : AI l:=by
    intro c hcm
    obtain ⟨j,hj,rfl⟩:=List.mem_iff_getElem.1 hcm
    obtain ⟨u,hu,hok⟩:=hc j l[j] (by simp)
    have:=List.eq_of_mem_replicate (List.mem_of_getElem? hu)
    subst this
    exact okW_int hti hok
  obtain ⟨l',rfl⟩:=this.list
  refine ⟨l',?_,rfl⟩
  simpa [hn] using hs
theorem arg_ints (l : List Int) : Arg W (.agg ⟨l.map (.int .i64)⟩) (.agg (l.map fun x=>.v (.int .i64 x))) [] [] (fun _=>.agg ⟨l.map (.int .i64)⟩):=by
  have:=Arg.agg (W:=W) (l:=l.map (.int .i64)) fun c hc=>by obtain ⟨x,_,rfl⟩:=List.mem_map.1 hc;exact atomV_int _ _
  rwa [List.map_map] at this
theorem Arg.ofArgs {cs : List Value} {ps : List TV} {bs : List Blk} {is : List Info} {av : Nat → List Value} (a : Args W cs ps bs is av) : Arg W (.agg ⟨cs⟩) (.agg ps) bs is (fun n=>.agg ⟨av n⟩) :=
  ⟨fun D m n hD hm=>.agg' (a.vr D m n hD hm),fun Fz h n hF hh=>.agg' (a.vl Fz h n hF hh),a.ok,a.lt,a.len⟩
theorem open_cells {t : TypeId} {fs : Array Field} {ts : List TypeId} (ht : P.underlying t = some (.struct fs)) (hct : P.cellTypes P.depth t = some ts) (hn : P.cellsOf t = ts.length) {r : Reach} {b : Nat} {v : Value} (w : Value.okWide P W r b t v) :
    ∃ cs : List Value,v = .agg ⟨cs⟩ ∧ cs.length = ts.length ∧ ∀ (j : Nat) c u,cs[j]? = some c → ts[j]? = some u → Cell.okWide P W r b u c:=by
  unfold Value.okWide at w
  simp only [ht] at w
  obtain ⟨cs,rfl,hs,ts',hts,_,hc⟩:=w
  rw [hct] at hts
  obtain rfl:=Option.some.inj hts
  obtain ⟨l⟩:=cs
  have hl : l.length = ts.length:=by simpa [hn] using hs
  refine ⟨l,rfl,hl,fun j c u hj hu=>?_⟩
  obtain ⟨u',hu',hok⟩:=hc j c (by simpa using hj)
  rw [Nat.mod_eq_of_lt (by have:=(List.getElem?_eq_some_iff.1 hj).1;omega)] at hu'
  obtain rfl:=Option.some.inj (hu.symm.trans hu')
  exact hok
theorem st_field {t : TypeId} {fs : Array Field} {i : Nat} {f : Field} (ht : P.underlying t = some (.struct fs)) (hf : fs[i]? = some f) {fuel : Nat} {cs : List Value} {x : DataW H × List MemPlace} (h : DataW.trod enc P W base spare held fuel t cs = some x) :
    ∃ n y,DataW.trod enc P W base spare held n f.type ((cs.drop f.offset).take (P.cellsOf f.type)) = some y:=by
  obtain ⟨xs,n,_,_,hl,hx,hi⟩:=DataW.trod_struct ht h
  have:=hi i f hf
  have hil : i < fs.size:=(Array.getElem?_eq_some_iff.1 hf).1
  rw [List.getElem?_eq_getElem (by omega)] at this
  exact ⟨n,_,this⟩
end
end Go.Rex

namespace Go.Rex
open Go Go.ChangeShapes Go.WideShapes Go.ChangeAt Go.RowKit Go.Joins Go.Proofs
/-! ### arguments whose blocks name one another: lists of lists -/
structure NArg (W : World) (v' : Value) (p : TV) (bs : Nat → List Blk) (is : List Info) (av : Nat → Value) : Prop where
  vr : ∀ (D : Nat → Prop) (m : NMap) n,(∀ j,j < is.length → D (n + j)) → (∀ (j : Nat) i,is[j]? = some i → m (n + j) = i) → VR D m (av n) v'
  vl : ∀ (Fz : Nat → Prop) (h : List Blk) n,(∀ j,j < is.length → Fz (n + j)) → (∀ (j : Nat) b,(bs n)[j]? = some b → h[n + j]? = some b) → VL Fz h noL p (av n)
  ok : ∀ (D : Nat → Prop) (m : NMap) n,(∀ j,j < is.length → D (n + j)) → (∀ (j : Nat) i,is[j]? = some i → m (n + j) = i) → ∀ (j : Nat) b,(bs n)[j]? = some b → BlkOk D m W (n + j) b
  lt : ∀ n (j : Nat) b i,(bs n)[j]? = some b → is[j]? = some i → b ≠ .dead → i.block < W.heap.size
  len : ∀ n,(bs n).length = is.length
structure NArgs (W : World) (vs' : List Value) (ps : List TV) (bs : Nat → List Blk) (is : List Info) (av : Nat → List Value) : Prop where
  vr : ∀ (D : Nat → Prop) (m : NMap) n,(∀ j,j < is.length → D (n + j)) → (∀ (j : Nat) i,is[j]? = some i → m (n + j) = i) → VRs D m (av n) vs'
  vl : ∀ (Fz : Nat → Prop) (h : List Blk) n,(∀ j,j < is.length → Fz (n + j)) → (∀ (j : Nat) b,(bs n)[j]? = some b → h[n + j]? = some b) → VLs Fz h noL ps (av n)
  ok : ∀ (D : Nat → Prop) (m : NMap) n,(∀ j,j < is.length → D (n + j)) → (∀ (j : Nat) i,is[j]? = some i → m (n + j) = i) → ∀ (j : Nat) b,(bs n)[j]? = some b → BlkOk D m W (n + j) b
  lt : ∀ n (j : Nat) b i,(bs n)[j]? = some b → is[j]? = some i → b ≠ .dead → i.block < W.heap.size
  len : ∀ n,(bs n).length = is.length
theorem Arg.n {W : World} {v' : Value} {p : TV} {bs : List Blk} {is : List Info} {av : Nat → Value} (a : Arg W v' p bs is av) : NArg W v' p (fun _=>bs) is av :=
  ⟨fun D m n hD hm=>a.vr D m n (by rw [← a.len];exact hD) hm,fun Fz h n hF hh=>a.vl Fz h n (by rw [← a.len];exact hF) hh,fun D m n hD hm=>a.ok D m n (by rw [← a.len];exact hD) hm,fun _=>a.lt,fun _=>a.len.symm⟩
theorem NArgs.nil (W : World) : NArgs W [] [] (fun _=>[]) [] (fun _=>[]) :=
  ⟨fun _ _ _ _ _=>⟨rfl,fun i a a' h=>by simp at h⟩,fun _ _ _ _ _=>.nil,fun _ _ _ _ _ j b h=>by simp at h,fun _ j b i h=>by simp at h,fun _=>rfl⟩
theorem NArgs.cons {W : World} {v' : Value} {p : TV} {bs bs2 : Nat → List Blk} {is is2 : List Info} {av : Nat → Value} {vs' : List Value} {ps : List TV} {avs : Nat → List Value}
    (a : NArg W v' p bs is av) (az : NArgs W vs' ps bs2 is2 avs) : NArgs W (v' :: vs') (p :: ps) (fun n=>bs n ++ bs2 (n + is.length)) (is ++ is2) (fun n=>av n :: avs (n + is.length)):=by
  have cD : ∀ (D : Nat → Prop) n,(∀ j,j < (is ++ is2).length → D (n + j)) → (∀ j,j < is.length → D (n + j)) ∧ (∀ j,j < is2.length → D (n + is.length + j)):=by
    intro D n h
    refine ⟨fun j hj=>h j (by simp;omega),fun j hj=>?_⟩
    have:=h (is.length + j) (by simp;omega)
    rwa [← Nat.add_assoc] at this
  have cI : ∀ (m : NMap) n,(∀ (j : Nat) i,(is ++ is2)[j]? = some i → m (n + j) = i) → (∀ (j : Nat) i,is[j]? = some i → m (n + j) = i) ∧ (∀ (j : Nat) i,is2[j]? = some i → m (n + is.length + j) = i):=by
    intro m n h
    refine ⟨fun j i hj=>h j i (by rw [List.getElem?_append_left (List.getElem?_eq_some_iff.1 hj).1];exact hj),fun j i hj=>?_⟩
    have:=h (is.length + j) i (by rw [List.getElem?_append_right (by omega),Nat.add_sub_cancel_left];exact hj)
    rwa [← Nat.add_assoc] at this
  refine ⟨fun D m n hD hm=>?_,fun Fz h n hF hh=>?_,fun D m n hD hm j b hb=>?_,fun n j b i hb hi hd=>?_,fun n=>by simp [a.len,az.len]⟩
  · have h1:=a.vr D m n (cD D n hD).1 (cI m n hm).1
    have h2:=az.vr D m (n + is.length) (cD D n hD).2 (cI m n hm).2
    refine ⟨by simp [h2.len],fun i x x' hx hx'=>?_⟩
    cases i with
    | zero=>simp at hx hx';subst hx hx';exact h1
    | succ i=>simp at hx hx';exact h2.at' i x x' hx hx'
  · refine .cons (a.vl Fz h n (cD Fz n hF).1 fun j b hb=>hh j b (by rw [List.getElem?_append_left (List.getElem?_eq_some_iff.1 hb).1];exact hb)) (az.vl Fz h (n + is.length) (cD Fz n hF).2 fun j b hb=>?_)
    have:=hh (is.length + j) b (by rw [List.getElem?_append_right (by rw [a.len];omega),a.len,Nat.add_sub_cancel_left];exact hb)
    rwa [← Nat.add_assoc] at this
  · rcases Nat.lt_or_ge j is.length with hj|hj
    · rw [List.getElem?_append_left (by rw [a.len];exact hj)] at hb
      exact a.ok D m n (cD D n hD).1 (cI m n hm).1 j b hb
    · rw [List.getElem?_append_right (by rw [a.len];exact hj),a.len] at hb
      have:=az.ok D m (n + is.length) (cD D n hD).2 (cI m n hm).2 _ b hb
      rwa [show n + is.length + (j - is.length) = n + j by omega] at this
  · rcases Nat.lt_or_ge j is.length with hj|hj
    · rw [List.getElem?_append_left (by rw [a.len];exact hj)] at hb
      rw [List.getElem?_append_left hj] at hi
      exact a.lt n j b i hb hi hd
    · rw [List.getElem?_append_right (by rw [a.len];exact hj),a.len] at hb
      rw [List.getElem?_append_right hj] at hi
      exact az.lt _ _ b i hb hi hd
section
variable {W : World} {vs' : List Value} {ps : List TV} {bs : Nat → List Blk} {is : List Info} {av : Nat → List Value}
/-- the names of the variables of packages come first -/
def gnm (is : List Info) : NMap:=fun k=>if k < NG then gm k else is.getD (k - NG) ⟨0,0,0,0⟩
theorem gnm_at {is : List Info} {j : Nat} {i : Info} (h : is[j]? = some i) : gnm is (NG + j) = i:=by
  unfold gnm
  rw [if_neg (by omega),Nat.add_sub_cancel_left,List.getD_eq_getElem?_getD,h]
  rfl
theorem gh_len : GH.length = NG:=rfl
theorem NArgs.rel (a : NArgs W vs' ps bs is av) (hw : GW W) (hs : NG ≤ W.heap.size) : Rel W.heap.size (GH ++ bs NG).length (fun k=>k < (GH ++ bs NG).length) (gnm is) (GH ++ bs NG) W:=by
  have hl:=a.len NG
  have hn : (GH ++ bs NG).length = NG + is.length:=by rw [List.length_append,gh_len,hl]
  have old : ∀ k,k < NG → gnm is k = gm k:=fun k hk=>if_pos hk
  have parts : ∀ n b,n < (GH ++ bs NG).length → (GH ++ bs NG)[n]? = some b → (n < NG ∧ GH[n]? = some b) ∨ ∃ j,n = NG + j ∧ (bs NG)[j]? = some b:=by
    intro n b hn' hb
    rcases Nat.lt_or_ge n NG with h|h
    · rw [List.getElem?_append_left h] at hb;exact .inl ⟨h,hb⟩
    · rw [List.getElem?_append_right h,gh_len] at hb;exact .inr ⟨n - NG,by omega,hb⟩
  have st:=Rel.start W hw hs
  have lt : ∀ n b,n < (GH ++ bs NG).length → (GH ++ bs NG)[n]? = some b → b ≠ .dead → (gnm is n).block < W.heap.size:=by
    intro n b hn' hb hd
    rcases parts n b hn' hb with ⟨h1,h2⟩|⟨j,rfl,h2⟩
    · rw [old n h1];exact st.lt n b h1 h2 hd
    · have hj : j < is.length:=by omega
      rw [gnm_at (List.getElem?_eq_getElem hj)]
      exact a.lt NG j b _ h2 (List.getElem?_eq_getElem hj) hd
  refine ⟨Nat.le_refl _,fun _ h=>h,fun n b hn' hb=>?_,lt,fun n b hD hl=>absurd hD (by omega),fun n b hn' _ hb hd=>lt n b hn' hb hd,fun n b hD hl=>absurd hD (by omega),fun n n' b b' hD _ hl=>absurd hD (by omega),⟨fun g hg=>⟨?_,?_⟩,hs,hw⟩⟩
  · rcases parts n b hn' hb with ⟨h1,h2⟩|⟨j,rfl,h2⟩
    · exact (st.ok n b h1 h2).mono (fun k hk=>by have hk' : k < NG:=hk;show k < (GH ++ bs NG).length;omega) (fun k hk=>old k hk) (old n h1)
    · exact a.ok (fun k=>k < (GH ++ bs NG).length) (gnm is) NG (fun j hj=>by omega) (fun j i hi=>gnm_at hi) j b h2
  · show g < (GH ++ bs NG).length;omega
  · rw [old g hg];exact gm_at g
theorem NArgs.vls (a : NArgs W vs' ps bs is av) : VLs (fun k=>k < (GH ++ bs NG).length) (GH ++ bs NG) noL ps (av NG):=by
  have hn : (GH ++ bs NG).length = NG + is.length:=by rw [List.length_append,gh_len,a.len NG]
  exact a.vl _ _ NG (fun j hj=>by omega) (fun j b hb=>by rw [List.getElem?_append_right (by rw [gh_len];omega),gh_len,Nat.add_sub_cancel_left];exact hb)
theorem NArgs.vrs (a : NArgs W vs' ps bs is av) : VRs (fun k=>k < (GH ++ bs NG).length) (gnm is) (av NG) vs':=by
  have hn : (GH ++ bs NG).length = NG + is.length:=by rw [List.length_append,gh_len,a.len NG]
  exact a.vr _ _ NG (fun j hj=>by omega) (fun j i hi=>gnm_at hi)
theorem NArg.ofArgs (a : NArgs W vs' ps bs is av) : NArg W (.agg ⟨vs'⟩) (.agg ps) bs is (fun n=>.agg ⟨av n⟩) :=
  ⟨fun D m n hD hm=>.agg' (a.vr D m n hD hm),fun Fz h n hF hh=>.agg' (a.vl Fz h n hF hh),a.ok,a.lt,a.len⟩
end
section
variable {H : Type} {enc : TypeId × Value → H} {W : World} {base : Nat} {spare : Nat → Bool} {held : Bool}
end

theorem NArgs.append {W : World} {vs1 : List Value} {ps1 : List TV} {bs bs2 : Nat → List Blk} {is is2 : List Info} {av avs : Nat → List Value} {vs' : List Value} {ps : List TV}
    (a : NArgs W vs1 ps1 bs is av) (az : NArgs W vs' ps bs2 is2 avs) : NArgs W (vs1 ++ vs') (ps1 ++ ps) (fun n=>bs n ++ bs2 (n + is.length)) (is ++ is2) (fun n=>av n ++ avs (n + is.length)):=by
  have cD : ∀ (D : Nat → Prop) n,(∀ j,j < (is ++ is2).length → D (n + j)) → (∀ j,j < is.length → D (n + j)) ∧ (∀ j,j < is2.length → D (n + is.length + j)):=by
    intro D n h
    refine ⟨fun j hj=>h j (by simp;omega),fun j hj=>?_⟩
    have:=h (is.length + j) (by simp;omega)
    rwa [← Nat.add_assoc] at this
  have cI : ∀ (m : NMap) n,(∀ (j : Nat) i,(is ++ is2)[j]? = some i → m (n + j) = i) → (∀ (j : Nat) i,is[j]? = some i → m (n + j) = i) ∧ (∀ (j : Nat) i,is2[j]? = some i → m (n + is.length + j) = i):=by
    intro m n h
    refine ⟨fun j i hj=>h j i (by rw [List.getElem?_append_left (List.getElem?_eq_some_iff.1 hj).1];exact hj),fun j i hj=>?_⟩
    have:=h (is.length + j) i (by rw [List.getElem?_append_right (by omega),Nat.add_sub_cancel_left];exact hj)
    rwa [← Nat.add_assoc] at this
  refine ⟨fun D m n hD hm=>?_,fun Fz h n hF hh=>?_,fun D m n hD hm j b hb=>?_,fun n j b i hb hi hd=>?_,fun n=>by simp [a.len,az.len]⟩
  · exact (a.vr D m n (cD D n hD).1 (cI m n hm).1).append (az.vr D m (n + is.length) (cD D n hD).2 (cI m n hm).2)
  · refine (a.vl Fz h n (cD Fz n hF).1 fun j b hb=>hh j b (by rw [List.getElem?_append_left (List.getElem?_eq_some_iff.1 hb).1];exact hb)).append (az.vl Fz h (n + is.length) (cD Fz n hF).2 fun j b hb=>?_)
    have:=hh (is.length + j) b (by rw [List.getElem?_append_right (by rw [a.len];omega),a.len,Nat.add_sub_cancel_left];exact hb)
    rwa [← Nat.add_assoc] at this
  · rcases Nat.lt_or_ge j is.length with hj|hj
    · rw [List.getElem?_append_left (by rw [a.len];exact hj)] at hb
      exact a.ok D m n (cD D n hD).1 (cI m n hm).1 j b hb
    · rw [List.getElem?_append_right (by rw [a.len];exact hj),a.len] at hb
      have:=az.ok D m (n + is.length) (cD D n hD).2 (cI m n hm).2 _ b hb
      rwa [show n + is.length + (j - is.length) = n + j by omega] at this
  · rcases Nat.lt_or_ge j is.length with hj|hj
    · rw [List.getElem?_append_left (by rw [a.len];exact hj)] at hb
      rw [List.getElem?_append_left hj] at hi
      exact a.lt n j b i hb hi hd
    · rw [List.getElem?_append_right (by rw [a.len];exact hj),a.len] at hb
      rw [List.getElem?_append_right hj] at hi
      exact az.lt _ _ b i hb hi hd
section
variable {H : Type} {enc : TypeId × Value → H} {W : World} {base : Nat} {spare : Nat → Bool} {held : Bool}
end
end Go.Rex
