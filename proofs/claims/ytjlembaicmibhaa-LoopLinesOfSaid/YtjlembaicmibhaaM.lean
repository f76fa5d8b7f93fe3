/- What these functions return: facts on lists and numbers. -/
import Derived.Test.YtjlembaicmibhaaRexG8
import Derived.Test.YtjlembaicmibhaaS
import Derived.Test.YtjlembaicmibhaaRexG7
import Derived.ProofKit
import Derived.OpenShut
import Derived.ShutString
import Derived.ChangeOld
import Derived.Below
import Derived.Lib.SmallJoins
import Derived.ChangeShapes
import Derived.ChangeArms
import Derived.WideShapes
set_option linter.unusedSimpArgs false
set_option linter.unusedVariables false
set_option linter.defProp false
namespace Go.Rex
/-! ### loops that are run, by fuel -/
def runF {σ ε : Type} (step : σ → Option (σ ⊕ ε)) : Nat → σ → Option ε
  | 0, _ => none
  | k + 1, s => match step s with
    | some (.inl s') => runF step k s'
    | some (.inr e) => some e
    | none => none
/-- what the first one yields the second one yields -/
def Le {α : Type} (a b : Option α) : Prop := ∀ r, a = some r → b = some r
theorem Le.refl {α : Type} (a : Option α) : Le a a := fun _ h => h
theorem Le.bind {α β : Type} {a a' : Option α} {f f' : α → Option β} (h : Le a a') (hf : ∀ x, Le (f x) (f' x)) : Le (a.bind f) (a'.bind f') := by
  intro r hr
  obtain ⟨x, h1, h2⟩ := Option.bind_eq_some_iff.1 hr
  exact Option.bind_eq_some_iff.2 ⟨x, h x h1, hf x r h2⟩
theorem Le.ite {α : Type} {c : Prop} [Decidable c] {a a' b b' : Option α} (h1 : Le a a') (h2 : Le b b') : Le (if c then a else b) (if c then a' else b') := by
  split
  · exact h1
  · exact h2
theorem Le.run {σ ε : Type} {stepF step : σ → Option (σ ⊕ ε)} {k : Nat} {s : σ} (h : ∀ s, Le (stepF s) (step s)) : Le (runF stepF k s) (run step s) := by
  intro r hr
  induction k generalizing s with
  | zero => cases hr
  | succ k ih =>
    unfold runF at hr
    cases hs : stepF s with
    | none => rw [hs] at hr; cases hr
    | some x =>
      rw [hs] at hr
      cases x with
      | inl s' => rw [run_iff]; exact .next (h s _ hs) (run_iff.1 (ih hr))
      | inr e => obtain rfl := Option.some.inj hr; rw [run_iff]; exact .stop (h s _ hs)
end Go.Rex

open Go Go.Rex
namespace Go.Rex
set_option maxRecDepth 100000
def math_bits_Len64F (v1 : Int) : Option (Int) :=
  if (decide (v1 ≥ 4294967296)) = true then
    ((shI .shr .u64 v1 32).bind fun v3 =>
    if (decide (v3 ≥ 65536)) = true then
      ((shI .shr .u64 v3 16).bind fun v4 =>
      if (decide (v4 ≥ 256)) = true then
        ((shI .shr .u64 v4 8).bind fun v5 =>
        (strI txt_c95356 (IntKind.u8.wrap v5)).bind fun v6 =>
        some ((IntKind.i64.wrap (56 + (IntKind.i64.wrap v6)))))
      else
        ((strI txt_c95356 (IntKind.u8.wrap v4)).bind fun v7 =>
        some ((IntKind.i64.wrap (48 + (IntKind.i64.wrap v7))))))
    else
      (if (decide (v3 ≥ 256)) = true then
        ((shI .shr .u64 v3 8).bind fun v8 =>
        (strI txt_c95356 (IntKind.u8.wrap v8)).bind fun v9 =>
        some ((IntKind.i64.wrap (40 + (IntKind.i64.wrap v9)))))
      else
        ((strI txt_c95356 (IntKind.u8.wrap v3)).bind fun v10 =>
        some ((IntKind.i64.wrap (32 + (IntKind.i64.wrap v10)))))))
  else
    (if (decide (v1 ≥ 65536)) = true then
      ((shI .shr .u64 v1 16).bind fun v11 =>
      if (decide (v11 ≥ 256)) = true then
        ((shI .shr .u64 v11 8).bind fun v12 =>
        (strI txt_c95356 (IntKind.u8.wrap v12)).bind fun v13 =>
        some ((IntKind.i64.wrap (24 + (IntKind.i64.wrap v13)))))
      else
        ((strI txt_c95356 (IntKind.u8.wrap v11)).bind fun v14 =>
        some ((IntKind.i64.wrap (16 + (IntKind.i64.wrap v14))))))
    else
      (if (decide (v1 ≥ 256)) = true then
        ((shI .shr .u64 v1 8).bind fun v15 =>
        (strI txt_c95356 (IntKind.u8.wrap v15)).bind fun v16 =>
        some ((IntKind.i64.wrap (8 + (IntKind.i64.wrap v16)))))
      else
        ((strI txt_c95356 (IntKind.u8.wrap v1)).bind fun v17 =>
        some ((IntKind.i64.wrap (0 + (IntKind.i64.wrap v17)))))))
theorem math_bits_Len64_le (v1 : Int) : Le (math_bits_Len64F v1) (math_bits_Len64 v1) := by
  unfold math_bits_Len64F math_bits_Len64
  refine Le.ite ?_ ?_
  refine Le.bind ?_ ?_
  exact Le.refl _
  intro v3
  try dsimp only
  refine Le.ite ?_ ?_
  refine Le.bind ?_ ?_
  exact Le.refl _
  intro v4
  try dsimp only
  refine Le.ite ?_ ?_
  refine Le.bind ?_ ?_
  exact Le.refl _
  intro v5
  try dsimp only
  refine Le.bind ?_ ?_
  exact Le.refl _
  intro v6
  try dsimp only
  exact Le.refl _
  refine Le.bind ?_ ?_
  exact Le.refl _
  intro v7
  try dsimp only
  exact Le.refl _
  refine Le.ite ?_ ?_
  refine Le.bind ?_ ?_
  exact Le.refl _
  intro v8
  try dsimp only
  refine Le.bind ?_ ?_
  exact Le.refl _
  intro v9
  try dsimp only
  exact Le.refl _
  refine Le.bind ?_ ?_
  exact Le.refl _
  intro v10
  try dsimp only
  exact Le.refl _
  refine Le.ite ?_ ?_
  refine Le.bind ?_ ?_
  exact Le.refl _
  intro v11
  try dsimp only
  refine Le.ite ?_ ?_
  refine Le.bind ?_ ?_
  exact Le.refl _
  intro v12
  try dsimp only
  refine Le.bind ?_ ?_
  exact Le.refl _
  intro v13
  try dsimp only
  exact Le.refl _
  refine Le.bind ?_ ?_
  exact Le.refl _
  intro v14
  try dsimp only
  exact Le.refl _
  refine Le.ite ?_ ?_
  refine Le.bind ?_ ?_
  exact Le.refl _
  intro v15
  try dsimp only
  refine Le.bind ?_ ?_
  exact Le.refl _
  intro v16
  try dsimp only
  exact Le.refl _
  refine Le.bind ?_ ?_
  exact Le.refl _
  intro v17
  try dsimp only
  exact Le.refl _
def math_bits_LenF (v1 : Int) : Option (Int) :=
  (math_bits_Len64F v1).bind fun v3 =>
  some (v3)
theorem math_bits_Len_le (v1 : Int) : Le (math_bits_LenF v1) (math_bits_Len v1) := by
  unfold math_bits_LenF math_bits_Len
  refine Le.bind ?_ ?_
  (first | (apply math_bits_Len64_le) | exact Le.refl _)
  intro v3
  try dsimp only
  exact Le.refl _
def loop_root_l1F (v1 : Int) : (Int) → Option ((Int) ⊕ ((Int))) := fun v5 =>
  if v5 = 0 then none else
  (if (decide ((IntKind.i64.wrap ((IntKind.i64.wrap (v5 + (IntKind.i64.wrap (v1.tdiv v5)))).tdiv 2)) ≥ v5)) = true then
    (some (.inr v5))
  else
    (some (.inl (IntKind.i64.wrap ((IntKind.i64.wrap (v5 + (IntKind.i64.wrap (v1.tdiv v5)))).tdiv 2)))))
theorem loop_root_l1_le (v1 : Int) : ∀ s, Le (loop_root_l1F v1 s) (loop_root_l1 v1 s) := by
  intro s
  revert s; intro v5
  unfold loop_root_l1F loop_root_l1
  try dsimp only
  refine Le.ite (Le.refl _) ?_
  refine Le.ite ?_ ?_
  exact Le.refl _
  exact Le.refl _
def loop_rootF (v1 : Int) : Option (Int) :=
  (math_bits_LenF (IntKind.u64.wrap v1)).bind fun v3 =>
  (shI .shl .i64 1 (IntKind.i64.wrap ((IntKind.i64.wrap (v3 + 1)).tdiv 2))).bind fun v4 =>
  (runF (loop_root_l1F v1) 30 v4).bind fun v7 =>
  some (v7)
theorem loop_root_le (v1 : Int) : Le (loop_rootF v1) (loop_root v1) := by
  unfold loop_rootF loop_root
  refine Le.bind ?_ ?_
  (first | (apply math_bits_Len_le) | exact Le.refl _)
  intro v3
  try dsimp only
  refine Le.bind ?_ ?_
  exact Le.refl _
  intro v4
  try dsimp only
  refine Le.bind ?_ ?_
  (first | (refine Le.run ?_; intro s; apply loop_root_l1_le) | exact Le.refl _)
  intro v7
  try dsimp only
  exact Le.refl _
def loop_moduloF (v1 : Int) (v2 : Int) : Option (Int) :=
  if v2 = 0 then none else
  (some (((IntKind.i64.wrap ((v1.tmod v2) + v2)).tmod v2)))
theorem loop_modulo_le (v1 : Int) (v2 : Int) : Le (loop_moduloF v1 v2) (loop_modulo v1 v2) := by
  unfold loop_moduloF loop_modulo
  refine Le.ite (Le.refl _) ?_
  exact Le.refl _
def loop_floorF (v1 : Int) (v2 : Int) : Option (Int) :=
  (loop_moduloF v1 v2).bind fun v4 =>
  if v2 = 0 then none else
  (some ((IntKind.i64.wrap ((IntKind.i64.wrap (v1 - v4)).tdiv v2))))
theorem loop_floor_le (v1 : Int) (v2 : Int) : Le (loop_floorF v1 v2) (loop_floor v1 v2) := by
  unfold loop_floorF loop_floor
  refine Le.bind ?_ ?_
  (first | (apply loop_modulo_le) | exact Le.refl _)
  intro v4
  try dsimp only
  refine Le.ite (Le.refl _) ?_
  exact Le.refl _
def loop_nearestF (v1 : Int) (v2 : Int) : Option (Int) :=
  (loop_floorF (IntKind.i64.wrap (v1 + (IntKind.i64.wrap (v2.tdiv 2)))) v2).bind fun v4 =>
  some (v4)
theorem loop_nearest_le (v1 : Int) (v2 : Int) : Le (loop_nearestF v1 v2) (loop_nearest v1 v2) := by
  unfold loop_nearestF loop_nearest
  refine Le.bind ?_ ?_
  (first | (apply loop_floor_le) | exact Le.refl _)
  intro v4
  try dsimp only
  exact Le.refl _
def loop_middleF (v1 : Int) (v2 : Int) (v3 : Int) (v4 : Int) : Option (Int × Int) :=
  (loop_rootF (IntKind.i64.wrap ((IntKind.i64.wrap ((IntKind.i64.wrap (v1 + v3)) * (IntKind.i64.wrap (v1 + v3)))) + (IntKind.i64.wrap ((IntKind.i64.wrap (v2 + v4)) * (IntKind.i64.wrap (v2 + v4))))))).bind fun v7 =>
  (loop_nearestF (IntKind.i64.wrap ((IntKind.i64.wrap (v1 + v3)) * 67108864)) v7).bind fun v8 =>
  (loop_nearestF (IntKind.i64.wrap ((IntKind.i64.wrap (v2 + v4)) * 67108864)) v7).bind fun v9 =>
  some (v8, v9)
theorem loop_middle_le (v1 : Int) (v2 : Int) (v3 : Int) (v4 : Int) : Le (loop_middleF v1 v2 v3 v4) (loop_middle v1 v2 v3 v4) := by
  unfold loop_middleF loop_middle
  refine Le.bind ?_ ?_
  (first | (apply loop_root_le) | exact Le.refl _)
  intro v7
  try dsimp only
  refine Le.bind ?_ ?_
  (first | (apply loop_nearest_le) | exact Le.refl _)
  intro v8
  try dsimp only
  refine Le.bind ?_ ?_
  (first | (apply loop_nearest_le) | exact Le.refl _)
  intro v9
  try dsimp only
  exact Le.refl _
end Go.Rex

namespace Go.Rex
/-! ### plain facts for shallow functions -/
theorem w64 {x : Int} (h : -9223372036854775808 ≤ x ∧ x ≤ 9223372036854775807) : IntKind.i64.wrap x = x := IntWalk.i64_in x (by omega)
theorem appI_one {α : Type} {b : Nat} {xs : List α} {y : α} (h : xs.length < 2 ^ 40) (hb : b ≤ 128) : appI b xs [y] = some (xs ++ [y]) := by
  unfold appI
  rw [if_pos]
  refine ⟨by simp; omega, ?_⟩
  have h1 : (xs.length + [y].length) * b ≤ 2 ^ 40 * 128 := Nat.mul_le_mul (by simp; omega) hb
  omega
end Go.Rex

open Go Go.Rex
namespace Go.Rex
/-! ### a table that is filled from far to near -/
abbrev Pt := Int × Int
noncomputable def stepG (mid : Pt → Pt → Option Pt) (a : Int) : (List Pt × Int) → Option ((List Pt × Int) ⊕ List Pt) := fun (v, m) =>
  if decide (m < 1024) = true then
    (getI v (IntKind.i64.wrap (m - a))).bind fun p => (getI v (IntKind.i64.wrap (m + a))).bind fun q => (mid p q).bind fun r => (getI v m).bind fun _ => some (.inl (v.set m.toNat r, IntKind.i64.wrap (m + IntKind.i64.wrap (2 * a))))
  else some (.inr v)
theorem getI_cast {α : Type} {xs : List α} {i : Nat} {e : Int} (h : e = (i : Int)) : getI xs e = xs[i]? := by
  subst h; unfold getI; rw [if_pos (by omega)]; rfl
theorem level {mid : Pt → Pt → Option Pt} {a n : Nat} (ha : 0 < a) (hn : 2 * a * n = 1024) {L M : List Pt} (hM : ∀ i, i < n → ∃ p q r, L[i]? = some p ∧ L[i + 1]? = some q ∧ mid p q = some r ∧ M[i]? = some r) :
    ∀ (k j : Nat) (v : List Pt), n - j = k → j ≤ n → v.length = 1025 → (∀ i, i ≤ n → v[i * (2 * a)]? = L[i]?) → (∀ i, i < j → v[(2 * i + 1) * a]? = M[i]?) →
      ∃ v', run (stepG mid a) (v, (((2 * j + 1) * a : Nat) : Int)) = some v' ∧ v'.length = 1025 ∧ (∀ i, i ≤ n → v'[i * (2 * a)]? = L[i]?) ∧ (∀ i, i < n → v'[(2 * i + 1) * a]? = M[i]?) := by
  intro k
  induction k with
  | zero =>
    intro j v hk hj hv hL hM'
    obtain rfl : j = n := by omega
    refine ⟨v, run_stop ?_, hv, hL, hM'⟩
    have h1 : (2 * j + 1) * a = 1024 + a := by rw [Nat.add_mul, Nat.one_mul, ← hn, Nat.mul_right_comm]
    simp only [stepG]
    rw [if_neg]
    simp only [decide_eq_true_eq]
    omega
  | succ k ih =>
    intro j v hk hj hv hL hM'
    obtain ⟨p, q, r, hp, hq, hr, hMr⟩ := hM j (by omega)
    have hmul : 2 * a * (j + 1) ≤ 1024 := by rw [← hn]; exact Nat.mul_le_mul_left _ (by omega)
    have e1 : (2 * j + 1) * a = 2 * a * j + a := by rw [Nat.add_mul, Nat.one_mul, Nat.mul_right_comm]
    have e2 : 2 * a * (j + 1) = 2 * a * j + 2 * a := by rw [Nat.mul_add, Nat.mul_one]
    have hlt : (2 * j + 1) * a < 1024 := by omega
    have w1 : IntKind.i64.wrap ((((2 * j + 1) * a : Nat) : Int) - (a : Int)) = ((j * (2 * a) : Nat) : Int) := by
      rw [w64 (by omega), show j * (2 * a) = 2 * a * j from Nat.mul_comm _ _]; omega
    have w2 : IntKind.i64.wrap ((((2 * j + 1) * a : Nat) : Int) + (a : Int)) = (((j + 1) * (2 * a) : Nat) : Int) := by
      rw [w64 (by omega), show (j + 1) * (2 * a) = 2 * a * (j + 1) from Nat.mul_comm _ _]; omega
    have w3 : IntKind.i64.wrap ((((2 * j + 1) * a : Nat) : Int) + IntKind.i64.wrap (2 * (a : Int))) = (((2 * (j + 1) + 1) * a : Nat) : Int) := by
      have e3 : (2 * (j + 1) + 1) * a = (2 * j + 1) * a + 2 * a := by rw [← Nat.add_mul]; congr 1
      rw [w64 (x := 2 * (a : Int)) (by omega), w64 (by omega), e3]; omega
    obtain ⟨x, hx⟩ : ∃ x, v[(2 * j + 1) * a]? = some x := ⟨_, List.getElem?_eq_getElem (by omega)⟩
    have hstep : stepG mid a (v, (((2 * j + 1) * a : Nat) : Int)) = some (.inl (v.set ((2 * j + 1) * a) r, (((2 * (j + 1) + 1) * a : Nat) : Int))) := by
      simp only [stepG]
      rw [if_pos (by simp only [decide_eq_true_eq]; omega), getI_cast w1, hL j (by omega), hp, Option.bind_some, getI_cast w2, hL (j + 1) (by omega), hq, Option.bind_some, hr, Option.bind_some, getI_cast rfl, hx, Option.bind_some, w3]
      rfl
    rw [run_next hstep]
    refine ih (j + 1) _ (by omega) (by omega) (by simpa using hv) (fun i hi => ?_) (fun i hi => ?_)
    · rw [List.getElem?_set_ne, hL i hi]
      intro he
      have : (2 * j + 1) * a = (2 * i) * a := by rw [he, ← Nat.mul_assoc, Nat.mul_comm i 2]
      have := Nat.eq_of_mul_eq_mul_right ha this
      omega
    · by_cases e : i = j
      · subst e
        rw [List.getElem?_set_self (by omega), hMr]
      · rw [List.getElem?_set_ne, hM' i (by omega)]
        intro he
        have := Nat.eq_of_mul_eq_mul_right ha he
        omega
def mids (mid : Pt → Pt → Option Pt) : List Pt → Option (List Pt)
  | [] => some []
  | p :: t => match t with
    | [] => some []
    | q :: t' => (mid p q).bind fun r => (mids mid (q :: t')).bind fun s => some (r :: s)
def weave : List Pt → List Pt → List Pt
  | [], _ => []
  | p :: t, s => match s with
    | [] => [p]
    | r :: s' => p :: r :: weave t s'
theorem mids_at {mid : Pt → Pt → Option Pt} : ∀ {L M : List Pt}, mids mid L = some M → M.length + 1 = max L.length 1 ∧ ∀ i, i + 1 < L.length → ∃ p q r, L[i]? = some p ∧ L[i + 1]? = some q ∧ mid p q = some r ∧ M[i]? = some r
  | [], M, h => by simp [mids] at h; subst h; exact ⟨rfl, fun i hi => by simp at hi⟩
  | [p], M, h => by simp [mids] at h; subst h; exact ⟨rfl, fun i hi => by simp at hi⟩
  | p :: q :: t, M, h => by
    simp only [mids] at h
    obtain ⟨r, hr, h⟩ := Option.bind_eq_some_iff.1 h
    obtain ⟨s, hs, h⟩ := Option.bind_eq_some_iff.1 h
    obtain rfl := Option.some.inj h
    obtain ⟨h1, h2⟩ := mids_at hs
    refine ⟨by simp at h1 ⊢; omega, fun i hi => ?_⟩
    cases i with
    | zero => exact ⟨p, q, r, rfl, rfl, hr, rfl⟩
    | succ i => simpa using h2 i (by simpa using hi)
theorem weave_at : ∀ {L M : List Pt}, M.length + 1 = L.length → (weave L M).length = L.length + M.length ∧ (∀ i, i < L.length → (weave L M)[2 * i]? = L[i]?) ∧ (∀ i, i < M.length → (weave L M)[2 * i + 1]? = M[i]?)
  | [], M, h => by simp at h
  | [p], [], h => by simp [weave]
  | [p], _ :: _, h => by simp at h
  | p :: q :: t, [], h => by simp at h
  | p :: q :: t, r :: s, h => by
    obtain ⟨h1, h2, h3⟩ := weave_at (L := q :: t) (M := s) (by simpa using h)
    refine ⟨by simp [weave] at h1 ⊢; omega, fun i hi => ?_, fun i hi => ?_⟩
    · cases i with
      | zero => rfl
      | succ i =>
        have := h2 i (by simpa using hi)
        show (p :: r :: weave (q :: t) s)[2 * i + 2]? = _
        simpa using this
    · cases i with
      | zero => rfl
      | succ i =>
        have := h3 i (by simpa using hi)
        show (p :: r :: weave (q :: t) s)[2 * i + 3]? = _
        simpa using this
/-- so many times twice as near -/
def upN (mid : Pt → Pt → Option Pt) : Nat → List Pt → Option (List Pt)
  | 0, L => some L
  | k + 1, L => (mids mid L).bind fun M => upN mid k (weave L M)
theorem mids_le {mid mid' : Pt → Pt → Option Pt} (h : ∀ p q, Le (mid p q) (mid' p q)) : ∀ L, Le (mids mid L) (mids mid' L)
  | [] => Le.refl _
  | [p] => Le.refl _
  | p :: q :: t => by
    simp only [mids]
    exact Le.bind (h p q) fun r => Le.bind (mids_le h (q :: t)) fun s => Le.refl _
theorem upN_le {mid mid' : Pt → Pt → Option Pt} (h : ∀ p q, Le (mid p q) (mid' p q)) : ∀ k L, Le (upN mid k L) (upN mid' k L)
  | 0, L => Le.refl _
  | k + 1, L => Le.bind (mids_le h L) fun M => upN_le h k _
noncomputable def step1 (mid : Pt → Pt → Option Pt) : (List Pt × Int) → Option ((List Pt × Int) ⊕ List Pt) := fun (v, a) =>
  if decide (a > 0) = true then (run (stepG mid a) (v, a)).bind fun v' => some (.inl (v', IntKind.i64.wrap (a.tdiv 2)))
  else some (.inr v)
theorem levels {mid : Pt → Pt → Option Pt} {T : List Pt} : ∀ (k n : Nat) (v L : List Pt), k ≤ 9 → 2 * 2 ^ k * n = 1024 → v.length = 1025 → L.length = n + 1 → (∀ i, i ≤ n → v[i * (2 * 2 ^ k)]? = L[i]?) → upN mid (k + 1) L = some T → run (step1 mid) (v, ((2 ^ k : Nat) : Int)) = some T := by
  intro k
  induction k with
  | zero =>
    intro n v L hk hn hv hLl hL hT
    simp only [upN] at hT
    obtain ⟨M, hM, hT⟩ := Option.bind_eq_some_iff.1 hT
    obtain rfl := Option.some.inj hT
    obtain ⟨m1, m2⟩ := mids_at hM
    obtain ⟨v', r1, r2, r3, r4⟩ := level (a := 2 ^ 0) (mid := mid) (n := n) (by omega) hn (fun i hi => m2 i (by omega)) n 0 v (by omega) (by omega) hv hL (fun i hi => by omega)
    have hs : step1 mid (v, ((2 ^ 0 : Nat) : Int)) = some (.inl (v', 0)) := by
      simp only [step1]
      rw [if_pos (by simp)]
      rw [show (((2 ^ 0 : Nat) : Int)) = (((2 * 0 + 1) * 2 ^ 0 : Nat) : Int) from rfl]
      rw [show stepG mid (((2 * 0 + 1) * 2 ^ 0 : Nat) : Int) = stepG mid ((2 ^ 0 : Nat) : Int) from rfl, r1]
      rfl
    have he : v' = weave L M := by
      obtain ⟨w1, w2, w3⟩ := weave_at (L := L) (M := M) (by omega)
      apply List.ext_getElem?
      intro i
      by_cases hi : i < 1025
      · rcases Nat.mod_two_eq_zero_or_one i with h | h
        · have e : i = 2 * (i / 2) := by omega
          have h1 := w2 (i / 2) (by omega)
          have h2 := r3 (i / 2) (by omega)
          rw [← e] at h1
          rw [h1, ← h2]
          congr 1
          omega
        · have e : i = 2 * (i / 2) + 1 := by omega
          have h1 := w3 (i / 2) (by omega)
          have h2 := r4 (i / 2) (by omega)
          rw [← e] at h1
          rw [h1, ← h2]
          congr 1
          omega
      · rw [List.getElem?_eq_none (by omega), List.getElem?_eq_none (by omega)]
    rw [run_next hs]
    refine run_stop ?_
    simp only [step1]
    rw [if_neg (by simp), he]
  | succ k ih =>
    intro n v L hk hn hv hLl hL hT
    unfold upN at hT
    obtain ⟨M, hM, hT⟩ := Option.bind_eq_some_iff.1 hT
    obtain ⟨m1, m2⟩ := mids_at hM
    have hpos : 0 < 2 ^ (k + 1) := Nat.two_pow_pos _
    have hp : 2 ^ (k + 1) = 2 * 2 ^ k := by rw [Nat.pow_succ, Nat.mul_comm]
    have hbig : 2 ^ (k + 1) ≤ 2 ^ 9 := Nat.pow_le_pow_right (by omega) hk
    obtain ⟨v', r1, r2, r3, r4⟩ := level (a := 2 ^ (k + 1)) (mid := mid) (n := n) hpos hn (fun i hi => m2 i (by omega)) n 0 v (by omega) (by omega) hv hL (fun i hi => by omega)
    have hs : step1 mid (v, ((2 ^ (k + 1) : Nat) : Int)) = some (.inl (v', ((2 ^ k : Nat) : Int))) := by
      simp only [step1]
      rw [if_pos (by simp only [decide_eq_true_eq]; omega)]
      rw [show (2 * 0 + 1) * 2 ^ (k + 1) = 2 ^ (k + 1) by omega] at r1
      rw [r1, Option.bind_some]
      have : (((2 ^ (k + 1) : Nat) : Int)).tdiv 2 = ((2 ^ k : Nat) : Int) := by
        rw [hp, Int.natCast_mul]
        exact Int.mul_tdiv_cancel_left _ (by decide)
      rw [this, w64 (by omega)]
    rw [run_next hs]
    obtain ⟨w1, w2, w3⟩ := weave_at (L := L) (M := M) (by omega)
    have hML : M.length = n := by omega
    refine ih (2 * n) v' (weave L M) (by omega) (by rw [hp] at hn; rw [← hn, Nat.mul_left_comm, ← Nat.mul_assoc]) r2 (by omega) (fun i hi => ?_) hT
    rw [← hp]
    rcases Nat.mod_two_eq_zero_or_one i with h | h
    · have e : i = 2 * (i / 2) := by omega
      have h1 := w2 (i / 2) (by omega)
      have h2 := r3 (i / 2) (by omega)
      rw [← e] at h1
      rw [h1, ← h2]
      congr 1
      rw [← Nat.mul_assoc, Nat.mul_comm (i / 2) 2, ← e]
    · have e : i = 2 * (i / 2) + 1 := by omega
      have h1 := w3 (i / 2) (by omega)
      have h2 := r4 (i / 2) (by omega)
      rw [← e] at h1 h2
      rw [h1, ← h2]
def circ0 : List Pt := [(67108864, 0), (47453132, 47453132), (0, 67108864)]
theorem circ_start {mid : Pt → Pt → Option Pt} {T Z : List Pt} (hZ : Z.length = 1025) (h : upN mid 9 circ0 = some T) : run (step1 mid) ((((Z.set 0 (67108864, 0)).set 512 (47453132, 47453132)).set 1024 (0, 67108864)), 256) = some T := by
  refine levels 8 2 _ circ0 (by omega) (by rfl) (by simp only [List.length_set]; exact hZ) rfl (fun i hi => ?_) h
  have : i = 0 ∨ i = 1 ∨ i = 2 := by omega
  rcases this with rfl | rfl | rfl
  · rw [List.getElem?_set_ne (by decide), List.getElem?_set_ne (by decide), show 0 * (2 * 2 ^ 8) = 0 from rfl, List.getElem?_set_self (by omega)]; rfl
  · rw [List.getElem?_set_ne (by decide), show 1 * (2 * 2 ^ 8) = 512 from rfl, List.getElem?_set_self (by rw [List.length_set]; omega)]; rfl
  · rw [show 2 * (2 * 2 ^ 8) = 1024 from rfl, List.getElem?_set_self (by rw [List.length_set, List.length_set]; omega)]; rfl
theorem zeros : ∃ Z : List Pt, mkI 16 1025 ((0, 0) : Pt) = some Z ∧ Z.length = 1025 := by
  refine ⟨List.replicate (1025 : Int).toNat (0, 0), ?_, by rw [List.length_replicate]; rfl⟩
  unfold mkI; rw [if_pos (by decide)]
theorem some_at {Z : List Pt} {i : Nat} (h : i < Z.length) : ∃ p q, Z[i]? = some (p, q) := ⟨Z[i].1, Z[i].2, List.getElem?_eq_getElem h⟩
noncomputable def midL (p q : Pt) : Option Pt := loop_middle p.1 p.2 q.1 q.2
theorem newCircle_l1 : loop_newCircle_l1 = step1 midL := rfl
theorem newCircle_eq {T : List Pt} (h : upN midL 9 circ0 = some T) : loop_newCircle = some T := by
  unfold loop_newCircle
  obtain ⟨Z, h0, hZ⟩ := zeros
  rw [h0, Option.bind_some]
  obtain ⟨p1, q1, e1⟩ := some_at (Z := Z) (i := 0) (by omega)
  have g1 : getI Z 0 = some (p1, q1) := (getI_cast (i := 0) rfl).trans e1
  obtain ⟨p2, q2, e2⟩ := some_at (Z := Z.set 0 (67108864, 0)) (i := 512) (by rw [List.length_set]; omega)
  have g2 : getI (Z.set (0 : Int).toNat (67108864, 0)) 512 = some (p2, q2) := (getI_cast (i := 512) rfl).trans e2
  have g3 : getI ((Z.set (0 : Int).toNat (67108864, 0)).set (512 : Int).toNat (47453132, 47453132)) 0 = some (67108864, 0) := by
    refine (getI_cast (i := 0) rfl).trans ?_
    show ((Z.set 0 (67108864, 0)).set 512 (47453132, 47453132))[0]? = _
    rw [List.getElem?_set_ne (by decide), List.getElem?_set_self (by omega)]
  obtain ⟨p4, q4, e4⟩ := some_at (Z := (Z.set 0 (67108864, 0)).set 512 (47453132, 47453132)) (i := 1024) (by rw [List.length_set, List.length_set]; omega)
  have g4 : getI ((Z.set (0 : Int).toNat (67108864, 0)).set (512 : Int).toNat (47453132, 47453132)) 1024 = some (p4, q4) := (getI_cast (i := 1024) rfl).trans e4
  have g5 : loop_direction_turned 67108864 0 = some (0, 67108864) := by
    unfold loop_direction_turned
    rw [w64 (by omega)]
    rfl
  have := circ_start hZ h
  simp only [g1, g2, g3, g5, Option.bind_some, g4, newCircle_l1]
  show (run (step1 midL) ((((Z.set 0 (67108864, 0)).set 512 (47453132, 47453132)).set 1024 (0, 67108864)), 256)).bind _ = _
  rw [this]
  rfl
end Go.Rex

open Go Go.Rex
namespace Go.Rex
set_option maxRecDepth 100000
def midF (p q : Pt) : Option Pt := loop_middleF p.1 p.2 q.1 q.2
theorem midF_le (p q : Pt) : Le (midF p q) (midL p q) := loop_middle_le _ _ _ _
def circT : List Pt := (upN midF 9 circ0).getD []
theorem circ_isSome : (upN midF 9 circ0).isSome = true := by decide +kernel
theorem circ_some : upN midF 9 circ0 = some circT := by
  obtain ⟨T, hT⟩ := Option.isSome_iff_exists.1 circ_isSome
  unfold circT
  rw [hT]
  rfl
theorem circ_len : circT.length = 1025 := by decide +kernel
theorem newCircle_T : loop_newCircle = some circT := newCircle_eq (upN_le midF_le 9 circ0 _ circ_some)
end Go.Rex
namespace Go.Rex
end Go.Rex

namespace Go.Rex
/-! ### loops that look for the first one of a list -/
def firstOr {α ε : Type} (P : α → Bool) (ex : Nat → α → ε) (en : ε) : Nat → List α → ε
  | _, [] => en
  | k, x :: t => if P x = true then ex k x else firstOr P ex en (k + 1) t
theorem run_first_from {α σ ε : Type} {step : σ → Option (σ ⊕ ε)} (st : Nat → σ) (P : α → Bool) (ex : Nat → α → ε) (en : ε) :
    ∀ (xs ys : List α), (∀ (k : Nat) x, (ys ++ xs)[k]? = some x → step (st k) = some (if P x = true then .inr (ex k x) else .inl (st (k + 1)))) → step (st (ys ++ xs).length) = some (.inr en) → run step (st ys.length) = some (firstOr P ex en ys.length xs)
  | [], ys, _, he => by rw [List.append_nil] at he; exact run_stop he
  | x :: t, ys, hs, he => by
    have h1 := hs ys.length x (by simp)
    by_cases hp : P x = true
    · rw [if_pos hp] at h1
      rw [run_stop h1, firstOr, if_pos hp]
    · rw [if_neg hp] at h1
      rw [run_next h1, firstOr, if_neg hp]
      have := run_first_from st P ex en t (ys ++ [x]) (fun k y hk => hs k y (by simpa using hk)) (by simpa using he)
      simpa using this
theorem run_first {α σ ε : Type} {step : σ → Option (σ ⊕ ε)} (st : Nat → σ) (P : α → Bool) (ex : Nat → α → ε) (en : ε) (xs : List α) (hs : ∀ (k : Nat) x, xs[k]? = some x → step (st k) = some (if P x = true then .inr (ex k x) else .inl (st (k + 1)))) (he : step (st xs.length) = some (.inr en)) {s : σ} (h0 : s = st 0) : run step s = some (firstOr P ex en 0 xs) := by
  subst h0
  exact run_first_from st P ex en xs [] hs he
theorem firstOr_map {α β γ : Type} (f : β → γ) (P : α → Bool) (ex : Nat → α → β) (en : β) : ∀ (xs : List α) k, f (firstOr P ex en k xs) = firstOr P (fun k x => f (ex k x)) (f en) k xs
  | [], _ => rfl
  | x :: t, k => by
    unfold firstOr
    split
    · rfl
    · exact firstOr_map f P ex en t (k + 1)
theorem firstOr_all {α β : Type} (P : α → Bool) (c en : β) : ∀ (xs : List α) k, firstOr P (fun _ _ => c) en k xs = if (xs.all fun x => !P x) = true then en else c
  | [], _ => rfl
  | x :: t, k => by
    unfold firstOr
    rw [firstOr_all P c en t (k + 1)]
    cases h : P x <;> simp [h]
theorem bind_first {α σ ε β : Type} {step : σ → Option (σ ⊕ ε)} {s : σ} {F : ε → Option β} (st : Nat → σ) (P : α → Bool) (ex : Nat → α → ε) (en : ε) (xs : List α) (K : ε → β) (h0 : s = st 0) (hF : ∀ e, F e = some (K e)) (hs : ∀ (k : Nat) x, xs[k]? = some x → step (st k) = some (if P x = true then .inr (ex k x) else .inl (st (k + 1)))) (he : step (st xs.length) = some (.inr en)) :
    (run step s).bind F = some (firstOr P (fun k x => K (ex k x)) (K en) 0 xs) := by
  rw [run_first st P ex en xs hs he h0, Option.bind_some, hF, firstOr_map K]
/-! ### numbers -/
theorem wsucc {k : Nat} {n : Nat} (h : k ≤ n) (hn : n ≤ 2 ^ 62) : IntKind.i64.wrap ((k : Int) + 1) = ((k + 1 : Nat) : Int) := by rw [w64 (by omega)]; omega
theorem tmod_emod {x y : Int} (hy : 0 < y) : x.tmod y = if x.tmod y < 0 then x % y - y else x % y := by
  have h1 := Int.tmod_lt_of_pos x hy
  have h2 : -y < x.tmod y := by
    have h3 := Int.natAbs_tmod x y
    have h4 : (x.tmod y).natAbs < y.natAbs := by rw [h3]; exact Nat.mod_lt _ (by omega)
    omega
  have hdm := Int.tmod_add_mul_tdiv x y
  split
  · have : x % y = x.tmod y + y := by
      have e : x = (x.tmod y + y) + y * (x.tdiv y - 1) := by rw [Int.mul_sub, Int.mul_one]; omega
      rw [e, Int.add_mul_emod_self_left, Int.emod_eq_of_lt (by omega) (by omega)]
      rw [← e]
    omega
  · have : x % y = x.tmod y := by
      conv => lhs; rw [← hdm]
      rw [Int.add_mul_emod_self_left, Int.emod_eq_of_lt (by omega) (by omega)]
    omega
theorem ediv_le {x y b : Int} (hy : 0 < y) (hb : 0 ≤ b) (h : -b ≤ x ∧ x ≤ b) : -b ≤ x / y ∧ x / y ≤ b := by
  have h1 := Int.emod_add_mul_ediv x y
  have h2 := Int.emod_nonneg x (show y ≠ 0 by omega)
  have h3 := Int.emod_lt_of_pos x hy
  constructor
  · refine Int.le_ediv_of_mul_le hy ?_
    have : -b * y ≤ -b * 1 := Int.mul_le_mul_of_nonpos_left (by omega) (by omega)
    omega
  · refine Int.ediv_le_of_le_mul hy ?_
    have : b * 1 ≤ b * y := Int.mul_le_mul_of_nonneg_left (by omega) hb
    omega
theorem tdiv_ediv {x y : Int} (hy : 0 < y) : x.tdiv y = if x.tmod y < 0 then x / y + 1 else x / y := by
  have hdm := Int.tmod_add_mul_tdiv x y
  have h1 := Int.emod_add_mul_ediv x y
  have h2 := tmod_emod (x := x) hy
  refine Int.eq_of_mul_eq_mul_left (show y ≠ 0 by omega) ?_
  split
  · rename_i h
    rw [if_pos h] at h2
    rw [Int.mul_add, Int.mul_one]
    omega
  · rename_i h
    rw [if_neg h] at h2
    omega
end Go.Rex

namespace Go.Rex
/-! ### a loop that walks a list, gathers, and may end early -/
def walk {α β ε : Type} (f : β → α → β ⊕ ε) (fin : β → ε) : β → List α → ε
  | b, [] => fin b
  | b, x :: t => match f b x with
    | .inl b' => walk f fin b' t
    | .inr e => e
theorem run_walk {α β σ ε : Type} {step : σ → Option (σ ⊕ ε)} (st : Nat → β → σ) (f : β → α → β ⊕ ε) (fin : β → ε) (Inv : Nat → β → Prop) (l : List α)
    (hs : ∀ (k : Nat) (x : α) (b : β), l[k]? = some x → Inv k b → step (st k b) = some (match f b x with | .inl b' => .inl (st (k + 1) b') | .inr e => .inr e) ∧ ∀ b', f b x = .inl b' → Inv (k + 1) b')
    (he : ∀ b, Inv l.length b → step (st l.length b) = some (.inr (fin b))) {b0 : β} (h0 : Inv 0 b0) : run step (st 0 b0) = some (walk f fin b0 l) := by
  suffices H : ∀ (t : List α) (k : Nat) (b : β), l.drop k = t → k ≤ l.length → Inv k b → run step (st k b) = some (walk f fin b t) from H l 0 b0 rfl (Nat.zero_le _) h0
  intro t
  induction t with
  | nil =>
    intro k b hk hkl hI
    have : k = l.length := by
      have := congrArg List.length hk
      simp at this
      omega
    subst this
    exact run_stop (he b hI)
  | cons x t ih =>
    intro k b hk hkl hI
    have hx : l[k]? = some x := by
      have := congrArg (fun l => l[0]?) hk
      simpa using this
    have hlt := (List.getElem?_eq_some_iff.1 hx).1
    obtain ⟨h1, h2⟩ := hs k x b hx hI
    have ht : l.drop (k + 1) = t := by
      have := congrArg List.tail hk
      simpa using this
    cases hf : f b x with
    | inl b' =>
      rw [hf] at h1
      rw [run_next h1, ih (k + 1) b' ht (by omega) (h2 b' hf)]
      simp only [walk, hf]
    | inr e =>
      rw [hf] at h1
      rw [run_stop h1]
      simp only [walk, hf]
end Go.Rex

open Go Go.Rex
namespace Go.Rex
set_option maxRecDepth 100000
theorem lmod_eq {x y : Int} (hy : 0 < y) (hy2 : y ≤ 4611686018427387904) : loop_modulo x y = some (x % y) := by
  unfold loop_modulo
  rw [if_neg (by omega)]
  have hm := tmod_emod (x := x) hy
  have h2 := Int.emod_nonneg x (show y ≠ 0 by omega)
  have h3 := Int.emod_lt_of_pos x hy
  have e : (IntKind.i64.wrap (x.tmod y + y)).tmod y = x % y := by
    rw [w64 (by split at hm <;> omega)]
    rw [Int.tmod_eq_emod_of_nonneg (by split at hm <;> omega)]
    split at hm
    · rw [hm, Int.sub_add_cancel, Int.emod_emod_of_dvd _ (Int.dvd_refl y)]
    · rw [hm, Int.add_emod_right, Int.emod_emod_of_dvd _ (Int.dvd_refl y)]
  rw [e]
theorem lfloor_eq {x y : Int} (hy : 0 < y) (hy2 : y ≤ 4611686018427387904) (hx : -4611686018427387904 ≤ x ∧ x ≤ 9223372036854775807) : loop_floor x y = some (x / y) := by
  unfold loop_floor
  rw [lmod_eq hy hy2, Option.bind_some, if_neg (by omega)]
  have h2 := Int.emod_nonneg x (show y ≠ 0 by omega)
  have h3 := Int.emod_lt_of_pos x hy
  have h4 := Int.emod_add_mul_ediv x y
  rw [w64 (x := x - x % y) (by omega), show x - x % y = y * (x / y) by omega, Int.mul_tdiv_cancel_left _ (by omega)]
  have := ediv_le (x := x) (b := 9223372036854775807) hy (by omega) (by omega)
  rw [w64 (by omega)]
theorem bfloor_eq {x y : Int} (hy : 0 < y) (hx : -9223372036854775807 ≤ x ∧ x ≤ 9223372036854775807) : base_Floor x y = some (x / y) := by
  unfold base_Floor
  rw [if_neg (by omega)]
  have hb := ediv_le (x := x) (b := 9223372036854775807) hy (by omega) (by omega)
  have ht := tdiv_ediv (x := x) hy
  by_cases h : x.tmod y < 0
  · rw [if_pos h] at ht
    have hb2 : x < 0 := by
      rcases Int.lt_or_le x 0 with hx | hx
      · exact hx
      · have := Int.tmod_nonneg y hx; omega
    have hb3 : x / y < 0 := Int.ediv_neg_of_neg_of_pos hb2 hy
    rw [if_pos (by simpa using h), ht, w64 (x := x / y + 1) (by omega), w64 (by omega)]
    congr 1
    omega
  · rw [if_neg h] at ht
    rw [if_neg (by simpa using h), ht, w64 (by omega)]
theorem lceil_eq {x y : Int} (hy : 0 < y) (hy2 : y ≤ 1152921504606846976) (hx : -2305843009213693952 ≤ x ∧ x ≤ 2305843009213693952) : loop_ceiling x y = some (-((-x) / y)) := by
  unfold loop_ceiling
  have := ediv_le (x := -x) (b := 2305843009213693952) hy (by omega) (by omega)
  rw [w64 (x := 0 - x) (by omega), Int.zero_sub, lfloor_eq hy (by omega) (by omega), Option.bind_some, w64 (by omega), Int.zero_sub]
theorem bceil_eq {x y : Int} (hy : 0 < y) (hy2 : y ≤ 1152921504606846976) (hx : -2305843009213693952 ≤ x ∧ x ≤ 2305843009213693952) : base_Ceil x y = some (-((-x) / y)) := by
  unfold base_Ceil
  have := ediv_le (x := -x) (b := 2305843009213693952) hy (by omega) (by omega)
  rw [w64 (x := 0 - x) (by omega), Int.zero_sub, bfloor_eq hy (by omega), Option.bind_some, w64 (by omega), Int.zero_sub]
def absI (x : Int) : Int := if -x > x then -x else x
theorem lsize_eq {x : Int} (hx : -9223372036854775807 ≤ x ∧ x ≤ 9223372036854775807) : loop_size x = some (absI x) := by
  unfold loop_size absI
  rw [w64 (x := 0 - x) (by omega), Int.zero_sub]
theorem bsize_eq {x : Int} (hx : -9223372036854775807 ≤ x ∧ x ≤ 9223372036854775807) : base_Size x = some (absI x) := by
  unfold base_Size absI
  rw [w64 (x := 0 - x) (by omega), Int.zero_sub]
theorem within_eq (a b c : Int) : base_Within a b c = some (decide (b ≤ a ∧ a ≤ c)) := by
  unfold base_Within
  by_cases h1 : b ≤ a <;> by_cases h2 : a ≤ c <;> simp [h1, h2]
theorem copyI {l : List Int} (h : l.length ≤ 1048576) : base_CopyInts l = some l := by
  unfold base_CopyInts appI
  rw [if_pos (by simp; omega)]
  simp
theorem copyL {l : List Int} (g : Int) (h : l.length ≤ 1048576) : ref08_Copy l g = some (l, g) := by
  unfold ref08_Copy; rw [copyI h]; rfl
theorem refuseR (b : Bool) (e : Int) : loop_refuse_c1_11f9 b e = some (if b = true then e else 0) := by
  unfold loop_refuse_c1_11f9; cases b <;> rfl
theorem withinR (n a b : Int) : loop_within n a b = some (decide (n < a ∨ n > b), 2) := by
  unfold loop_within loop_refuse
  by_cases h : n < a
  · simp [h]
  · simp [h]
theorem countedR (n m : Int) : loop_counted_c1_b585 n m = some (if n = 0 then 10 else if n > m then 8 else 0) := by
  unfold loop_counted_c1_b585 loop_refuse loop_firstError_60c4
  simp only [Option.bind_some, refuseR]
  by_cases h1 : n = 0
  · simp [h1]
  · by_cases h2 : n > m <;> simp [h1, h2]
def badTap (a b : Int) (x : Int) : Bool := decide (x < a ∨ x > b)
theorem eachR {l : List Int} (a b : Int) (h : l.length ≤ 1048576) : loop_each_c1_2344 (l.length : Int) l a b = some (if (l.all fun x => !badTap a b x) = true then 0 else 2) := by
  unfold loop_each_c1_2344
  have hb : ∀ (k : Nat) x, l[k]? = some x → loop_each_c1_2344_l1 (l.length : Int) l a b (k : Int) = some (if badTap a b x = true then .inr (.inl 2) else .inl ((k + 1 : Nat) : Int)) := by
    intro k x hx
    have hk := (List.getElem?_eq_some_iff.1 hx).1
    unfold loop_each_c1_2344_l1 loop_allWithin_c1_ea58
    have hg : getI l (k : Int) = some x := by unfold getI; rw [if_pos (by omega)]; exact hx
    rw [if_pos (by simp only [decide_eq_true_eq]; omega)]
    simp only [hg, withinR, refuseR, Option.bind_some]
    by_cases hbad : x < a ∨ x > b
    · simp [hbad, badTap]
    · simp [hbad, badTap]
      exact wsucc (n := l.length) (by omega) (by omega)
  refine (bind_first (s := (0 : Int)) (fun k => (k : Int)) (badTap a b) (fun _ _ => .inl 2) (.inr ()) l (fun e => match e with | .inl v => v | .inr _ => 0) rfl (fun e => by cases e <;> rfl) hb (by
    unfold loop_each_c1_2344_l1
    rw [if_neg (by simp)])).trans ?_
  exact congrArg some (firstOr_all (badTap a b) (2 : Int) 0 l 0)
def chkL (l : List Int) (g : Int) : Int :=
  if l.length = 0 then 10 else if l.length > 32 then 8 else if l.head? ≠ some 0 then 11 else if (l.all fun x => !badTap (-16384) 16384 x) = true then (if 0 ≤ g ∧ g ≤ 10000 then 0 else 2) else 2
theorem checkR {l : List Int} (g : Int) (h : l.length ≤ 1048576) : loop_feedback_check l g = some (chkL l g) := by
  unfold loop_feedback_check loop_counted loop_allWithin loop_each_2037 loop_firstError_2d9c
  simp only [Option.bind_some, withinR, countedR, refuseR, eachR _ _ h]
  unfold chkL
  cases l with
  | nil => rfl
  | cons x t =>
    have e0 : ¬ (x :: t).length = 0 := by simp
    have hc : loop_feedback_check_c1_431b (x :: t) g = some (if x ≠ 0 then 11 else 0) := by
      unfold loop_feedback_check_c1_431b loop_refuse
      have : getI (x :: t) 0 = some x := rfl
      simp only [this, Option.bind_some, refuseR]
      by_cases hx : x = 0 <;> simp [hx]
    generalize hn : (x :: t).length = n at *
    rw [if_neg e0]
    have e1 : ¬ ((n : Nat) : Int) = 0 := by omega
    by_cases h2 : n > 32
    · have e2 : ((n : Nat) : Int) > 32 := by omega
      simp only [e1, e2, h2, if_true, if_false]
      rfl
    · have e2 : ¬ ((n : Nat) : Int) > 32 := by omega
      simp only [e1, e2, h2, if_false, hc, Option.bind_some, List.head?_cons]
      by_cases hx : x = 0
      · subst hx
        by_cases ha : ((0 :: t).all fun x => !badTap (-16384) 16384 x) = true
        · simp only [ha, if_true]
          by_cases hg : 0 ≤ g ∧ g ≤ 10000
          · have : ¬ (g < 0 ∨ g > 10000) := by omega
            simp [hg, this]
          · have : g < 0 ∨ g > 10000 := by omega
            simp [hg, this]
        · simp [ha]
      · simp [hx]
theorem refCheckR {l : List Int} (g : Int) (h : l.length ≤ 1048576) : ref08_CheckLoop l g = some (chkL l g) := by
  unfold ref08_CheckLoop chkL
  by_cases h0 : l.length = 0
  · rw [if_pos (by simp [h0]), if_pos h0]
  · rw [if_neg (by simp only [decide_eq_true_eq]; omega), if_neg h0]
    by_cases h2 : l.length > 32
    · rw [if_pos (by simp only [decide_eq_true_eq]; omega), if_pos h2]
    · rw [if_neg (by simp only [decide_eq_true_eq]; omega), if_neg h2]
      cases l with
      | nil => simp at h0
      | cons x t =>
        have hg0 : getI (x :: t) 0 = some x := rfl
        rw [hg0, Option.bind_some, List.head?_cons]
        by_cases hx : x = 0
        · subst hx
          rw [if_neg (by simp), if_neg (by simp)]
          have hb : ∀ (k : Nat) y, (0 :: t)[k]? = some y → ref08_CheckLoop_l1 (0 :: t) (k : Int) = some (if badTap (-16384) 16384 y = true then .inr (.inl ()) else .inl ((k + 1 : Nat) : Int)) := by
            intro k y hy
            have hk := (List.getElem?_eq_some_iff.1 hy).1
            unfold ref08_CheckLoop_l1
            have hg : getI (0 :: t) (k : Int) = some y := by unfold getI; rw [if_pos (by omega)]; exact hy
            rw [if_pos (by simp only [decide_eq_true_eq]; omega)]
            simp only [hg, within_eq, Option.bind_some]
            by_cases hbad : y < -16384 ∨ y > 16384
            · have : ¬ (-16384 ≤ y ∧ y ≤ 16384) := by omega
              simp [hbad, badTap, this]
            · have : -16384 ≤ y ∧ y ≤ 16384 := by omega
              simp [hbad, badTap, this]
              exact wsucc (n := (0 :: t).length) (by omega) (by omega)
          refine (bind_first (s := (0 : Int)) (fun k => (k : Int)) (badTap (-16384) 16384) (fun _ _ => .inl ()) (.inr ()) (0 :: t) (fun e => match e with | .inl _ => 2 | .inr _ => if 0 ≤ g ∧ g ≤ 10000 then 0 else 2) rfl (fun e => by
            cases e with
            | inl _ => rfl
            | inr _ =>
              simp only [within_eq, Option.bind_some, decide_eq_true_eq]
              by_cases hg : 0 ≤ g ∧ g ≤ 10000 <;> simp [hg]) hb (by
            unfold ref08_CheckLoop_l1
            rw [if_neg (by simp)])).trans ?_
          exact congrArg some (firstOr_all (badTap (-16384) 16384) (2 : Int) (if 0 ≤ g ∧ g ≤ 10000 then 0 else 2) (0 :: t) 0)
        · rw [if_pos (by simpa using hx), if_pos (by simpa using hx)]
/-- a loop over a list that gathers -/
theorem run_fold {α β σ ε : Type} {step : σ → Option (σ ⊕ ε)} (st : Nat → β → σ) (ex : β → ε) (f : β → α → β) (Inv : Nat → β → Prop) (l : List α)
    (hs : ∀ (k : Nat) (x : α) (b : β), l[k]? = some x → Inv k b → step (st k b) = some (.inl (st (k + 1) (f b x))) ∧ Inv (k + 1) (f b x)) (he : ∀ b, Inv l.length b → step (st l.length b) = some (.inr (ex b))) {b0 : β} (h0 : Inv 0 b0) :
    run step (st 0 b0) = some (ex (l.foldl f b0)) ∧ Inv l.length (l.foldl f b0) := by
  suffices H : ∀ (t : List α) (k : Nat) (b : β), l.drop k = t → k ≤ l.length → Inv k b → run step (st k b) = some (ex (t.foldl f b)) ∧ Inv l.length (t.foldl f b) from H l 0 b0 rfl (Nat.zero_le _) h0
  intro t
  induction t with
  | nil =>
    intro k b hk hkl hI
    have : k = l.length := by
      have := congrArg List.length hk
      simp at this
      omega
    subst this
    exact ⟨run_stop (he b hI), hI⟩
  | cons x t ih =>
    intro k b hk hkl hI
    have hx : l[k]? = some x := by
      have := congrArg (fun l => l[0]?) hk
      simpa using this
    have hlt := (List.getElem?_eq_some_iff.1 hx).1
    obtain ⟨h1, h2⟩ := hs k x b hx hI
    have ht : l.drop (k + 1) = t := by
      have := congrArg List.tail hk
      simpa using this
    obtain ⟨h3, h4⟩ := ih (k + 1) (f b x) ht (by omega) h2
    exact ⟨by rw [run_next h1, h3]; rfl, h4⟩
theorem size_l1 (l : List Int) : loop_feedback_size_l1 l = ref08_SizeOf_l1 l := rfl
theorem chk_parts {l : List Int} {g : Int} (h : chkL l g = 0) : 1 ≤ l.length ∧ l.length ≤ 32 ∧ (∀ x ∈ l, -16384 ≤ x ∧ x ≤ 16384) ∧ 0 ≤ g ∧ g ≤ 10000 ∧ l.head? = some 0 := by
  unfold chkL at h
  split at h
  · cases h
  · split at h
    · cases h
    · split at h
      · cases h
      · split at h
        · split at h
          · rename_i h1 h2 h3 h4 h5
            refine ⟨by omega, by omega, fun x hx => ?_, h5.1, h5.2, by simpa using h3⟩
            have := List.all_eq_true.1 h4 x hx
            simp only [badTap, Bool.not_eq_true', decide_eq_false_iff_not] at this
            omega
          · cases h
        · cases h
def sumA (l : List Int) : Int := l.foldl (fun s x => s + absI x) 0
theorem absI_le {x b : Int} (h : -b ≤ x ∧ x ≤ b) : 0 ≤ absI x ∧ absI x ≤ b := by unfold absI; split <;> omega
theorem sum_run {l : List Int} (hl : l.length ≤ 1048576) (hx : ∀ x ∈ l, -16384 ≤ x ∧ x ≤ 16384) : run (ref08_SizeOf_l1 l) (0, 0) = some (sumA l) ∧ 0 ≤ sumA l ∧ sumA l ≤ l.length * 16384 := by
  have := run_fold (step := ref08_SizeOf_l1 l) (fun k s => (s, (k : Int))) (fun s => s) (fun s x => s + absI x) (fun k s => 0 ≤ s ∧ s ≤ k * 16384) l (fun k x b hk hI => by
    obtain ⟨h1, h2⟩ := hx x (List.mem_of_getElem? hk)
    obtain ⟨a1, a2⟩ := absI_le (x := x) (b := 16384) ⟨h1, h2⟩
    have hlt := (List.getElem?_eq_some_iff.1 hk).1
    refine ⟨?_, by omega, by omega⟩
    unfold ref08_SizeOf_l1
    have hg : getI l (k : Int) = some x := by unfold getI; rw [if_pos (by omega)]; exact hk
    simp only
    rw [if_pos (by simp only [decide_eq_true_eq]; omega), hg, Option.bind_some, bsize_eq (by omega), Option.bind_some, w64 (x := b + absI x) (by omega), wsucc (n := l.length) (by omega) (by omega)]) (fun b hI => by
    unfold ref08_SizeOf_l1
    simp only
    rw [if_neg (by simp)]) (b0 := 0) ⟨Int.le_refl _, by simp⟩
  exact ⟨this.1, this.2.1, this.2.2⟩
theorem ints_refl {l : List Int} (h : l.length ≤ 1048576) : base_Ints l l = some true := by
  unfold base_Ints
  rw [if_neg (by simp)]
  have := run_fold (step := base_Ints_l1 l l) (fun k (_ : Unit) => (k : Int)) (fun _ => (.inr () : Unit ⊕ Unit)) (fun s _ => s) (fun _ _ => True) l (fun k x b hk _ => by
    have hlt := (List.getElem?_eq_some_iff.1 hk).1
    refine ⟨?_, trivial⟩
    unfold base_Ints_l1
    have hg : getI l (k : Int) = some x := by unfold getI; rw [if_pos (by omega)]; exact hk
    rw [if_pos (by simp only [decide_eq_true_eq]; omega), hg, Option.bind_some, Option.bind_some, if_neg (by simp), wsucc (n := l.length) (by omega) (by omega)]) (fun b _ => by
    unfold base_Ints_l1
    rw [if_neg (by simp)]) (b0 := ()) trivial
  show ((run (base_Ints_l1 l l) (((0 : Nat) : Int))).bind _) = _
  rw [this.1]
  rfl
theorem mul_le_nn {a b A B : Int} (ha : 0 ≤ a ∧ a ≤ A) (hb : 0 ≤ b ∧ b ≤ B) : 0 ≤ a * b ∧ a * b ≤ A * B := ⟨Int.mul_nonneg ha.1 hb.1, Int.mul_le_mul ha.2 hb.2 hb.1 (by omega)⟩
theorem sizeR {l : List Int} {g : Int} (h : chkL l g = 0) : ∃ n, loop_feedback_size l g = some n ∧ ref08_SizeOf l g = some n := by
  obtain ⟨h1, h2, h3, h4, h5, _⟩ := chk_parts h
  obtain ⟨r1, r2, r3⟩ := sum_run (by omega) h3
  have hm := mul_le_nn (a := sumA l) (b := g) (A := 524288) (B := 10000) ⟨r2, by omega⟩ ⟨h4, h5⟩
  refine ⟨-((-(sumA l * g)) / 16384), ?_, ?_⟩
  · unfold loop_feedback_size
    rw [size_l1, r1, Option.bind_some, w64 (x := sumA l * g) (by omega), lceil_eq (by decide) (by decide) (by omega)]
    rfl
  · unfold ref08_SizeOf
    rw [r1, Option.bind_some, w64 (x := sumA l * g) (by omega), bceil_eq (by decide) (by decide) (by omega)]
    rfl
end Go.Rex

open Go Go.Rex
namespace Go.Rex
set_option maxRecDepth 100000

/-! ### rows of loops -/
abbrev Lp := List Int × Int
noncomputable def sizeV (x : Lp) : Int := (loop_feedback_size x.1 x.2).getD 0
theorem sizeV_eq {x : Lp} (h : chkL x.1 x.2 = 0) : loop_feedback_size x.1 x.2 = some (sizeV x) ∧ ref08_SizeOf x.1 x.2 = some (sizeV x) := by
  obtain ⟨n, h1, h2⟩ := sizeR h
  unfold sizeV
  rw [h1]
  exact ⟨rfl, h2⟩
noncomputable def rowF (b : List Int) (x : Lp) : List Int ⊕ (Int ⊕ List Int) := if chkL x.1 x.2 ≠ 0 then .inr (.inl (chkL x.1 x.2)) else if sizeV x > 2000 then .inr (.inl 2) else .inl (b ++ [sizeV x])
noncomputable def rowE (row : List Lp) : Int ⊕ List Int := walk rowF .inr [] row
def Few (row : List Lp) : Prop := row.length ≤ 6 ∧ ∀ x ∈ row, x.1.length ≤ 34
theorem rowF_len {k : Nat} {b b' : List Int} {x : Lp} (hb : b.length = k) (h : rowF b x = .inl b') : b'.length = k + 1 := by
  unfold rowF at h
  split at h
  · cases h
  · split at h
    · cases h
    · cases h; simp [hb]
theorem prog_row {row : List Lp} (h : Few row) : run (loop_sizesOf_l1 row) (([] : List Int), 0) = some (rowE row) := by
  refine run_walk (step := loop_sizesOf_l1 row) (fun k (b : List Int) => (b, (k : Int))) rowF .inr (fun k b => b.length = k ∧ k ≤ 6) row (fun k x b hk hI => ?_) (fun b hI => ?_) ⟨rfl, by omega⟩
  · have hlt := (List.getElem?_eq_some_iff.1 hk).1
    have hl : x.1.length ≤ 1048576 := by have := h.2 x (List.mem_of_getElem? hk); omega
    have h6 := h.1
    refine ⟨?_, fun b' hb' => ⟨rowF_len hI.1 hb', by omega⟩⟩
    have hg : getI row (k : Int) = some (x.1, x.2) := by unfold getI; rw [if_pos (by omega)]; exact hk
    unfold loop_sizesOf_l1 loop_SizeOf rowF
    simp only
    rw [if_pos (by simp only [decide_eq_true_eq]; omega), hg, Option.bind_some]
    simp only [checkR x.2 hl, Option.bind_some]
    by_cases h0 : chkL x.1 x.2 = 0
    · obtain ⟨s1, _⟩ := sizeV_eq h0
      rw [wsucc (n := row.length) (by omega) (by omega)]
      have ha : ∀ v : Int, appI 8 b [v] = some (b ++ [v]) := fun v => appI_one (by omega) (by omega)
      by_cases h2 : sizeV x > 2000
      · simp [h0, s1, h2]
      · simp [h0, s1, h2, ha]
    · simp [h0]
  · unfold loop_sizesOf_l1
    simp only
    rw [if_neg (by simp)]
theorem ref_row {row : List Lp} (h : Few row) : run (ref08_LinesOf_l2 row) (([] : List Int), 0) = some (rowE row) := by
  refine run_walk (step := ref08_LinesOf_l2 row) (fun k (b : List Int) => (b, (k : Int))) rowF .inr (fun k b => b.length = k ∧ k ≤ 6) row (fun k x b hk hI => ?_) (fun b hI => ?_) ⟨rfl, by omega⟩
  · have hlt := (List.getElem?_eq_some_iff.1 hk).1
    have hl : x.1.length ≤ 1048576 := by have := h.2 x (List.mem_of_getElem? hk); omega
    have h6 := h.1
    refine ⟨?_, fun b' hb' => ⟨rowF_len hI.1 hb', by omega⟩⟩
    have hg : getI row (k : Int) = some (x.1, x.2) := by unfold getI; rw [if_pos (by omega)]; exact hk
    unfold ref08_LinesOf_l2 rowF
    simp only
    rw [if_pos (by simp only [decide_eq_true_eq]; omega), hg, Option.bind_some]
    simp only [refCheckR x.2 hl, Option.bind_some]
    by_cases h0 : chkL x.1 x.2 = 0
    · obtain ⟨_, s1⟩ := sizeV_eq h0
      rw [wsucc (n := row.length) (by omega) (by omega)]
      by_cases h2 : sizeV x > 2000
      · simp [h0, s1, h2]
      · have ha : ∀ v : Int, appI 8 b [v] = some (b ++ [v]) := fun v => appI_one (by omega) (by omega)
        simp [h0, h2, s1, ha]
    · simp [h0]
  · unfold ref08_LinesOf_l2
    simp only
    rw [if_neg (by simp)]
theorem rowE_ne {row : List Lp} {e : Int} (h : rowE row = .inl e) : e ≠ 0 := by
  unfold rowE at h
  generalize ([] : List Int) = b at h
  induction row generalizing b with
  | nil => cases h
  | cons x t ih =>
    simp only [walk] at h
    cases hf : rowF b x with
    | inl b' => rw [hf] at h; exact ih b' h
    | inr e' =>
      rw [hf] at h
      subst h
      unfold rowF at hf
      split at hf
      · rename_i h0; cases hf; exact h0
      · split at hf
        · cases hf; decide
        · cases hf
/-! ### lines -/
noncomputable def linF (n : Nat) (b : List (List Int)) (row : List Lp) : List (List Int) ⊕ (Int ⊕ List (List Int)) := if row.length ≠ n then .inr (.inl 10) else match rowE row with
  | .inl e => .inr (.inl e)
  | .inr r => .inl (b ++ [r])
noncomputable def linE (rows : List (List Lp)) : Int ⊕ List (List Int) := walk (linF rows.length) .inr [] rows
theorem linF_len {n k : Nat} {b b' : List (List Int)} {x : List Lp} (hb : b.length = k) (h : linF n b x = .inl b') : b'.length = k + 1 := by
  unfold linF at h
  split at h
  · cases h
  · split at h
    · cases h
    · cases h; simp [hb]
theorem prog_lin {rows : List (List Lp)} (hn : rows.length ≤ 6) (h : ∀ r ∈ rows, Few r) : run (loop_LinesOf_l1 rows) (([] : List (List Int)), 0) = some (linE rows) := by
  refine run_walk (step := loop_LinesOf_l1 rows) (fun k (b : List (List Int)) => (b, (k : Int))) (linF rows.length) .inr (fun k b => b.length = k ∧ k ≤ 6) rows (fun k x b hk hI => ?_) (fun b hI => ?_) ⟨rfl, by omega⟩
  · have hlt := (List.getElem?_eq_some_iff.1 hk).1
    have hF := h x (List.mem_of_getElem? hk)
    refine ⟨?_, fun b' hb' => ⟨linF_len hI.1 hb', by omega⟩⟩
    have hg : getI rows (k : Int) = some x := by unfold getI; rw [if_pos (by omega)]; exact hk
    unfold loop_LinesOf_l1 loop_sizesOf linF
    simp only
    rw [if_pos (by simp only [decide_eq_true_eq]; omega), hg, Option.bind_some, prog_row hF, wsucc (n := rows.length) (by omega) (by omega)]
    by_cases h0 : x.length = rows.length
    · have e0 : ¬ ((x.length : Int) ≠ (rows.length : Int)) := by omega
      cases hr : rowE x with
      | inl e => simp [e0, h0, rowE_ne hr]
      | inr r =>
        have ha : ∀ v : List Int, appI 24 b [v] = some (b ++ [v]) := fun v => appI_one (by omega) (by omega)
        simp [e0, h0, ha]
    · have e0 : ((x.length : Int) ≠ (rows.length : Int)) := by omega
      simp [e0, h0]
  · unfold loop_LinesOf_l1
    simp only
    rw [if_neg (by simp)]
theorem ref_lin {rows : List (List Lp)} (hn : rows.length ≤ 6) (h : ∀ r ∈ rows, Few r) : run (ref08_LinesOf_l1 rows) (([] : List (List Int)), 0) = some (linE rows) := by
  refine run_walk (step := ref08_LinesOf_l1 rows) (fun k (b : List (List Int)) => (b, (k : Int))) (linF rows.length) .inr (fun k b => b.length = k ∧ k ≤ 6) rows (fun k x b hk hI => ?_) (fun b hI => ?_) ⟨rfl, by omega⟩
  · have hlt := (List.getElem?_eq_some_iff.1 hk).1
    have hF := h x (List.mem_of_getElem? hk)
    refine ⟨?_, fun b' hb' => ⟨linF_len hI.1 hb', by omega⟩⟩
    have hg : getI rows (k : Int) = some x := by unfold getI; rw [if_pos (by omega)]; exact hk
    unfold ref08_LinesOf_l1 linF
    simp only
    rw [if_pos (by simp only [decide_eq_true_eq]; omega), hg, Option.bind_some, ref_row hF, wsucc (n := rows.length) (by omega) (by omega)]
    by_cases h0 : x.length = rows.length
    · have e0 : ¬ ((x.length : Int) ≠ (rows.length : Int)) := by omega
      cases hr : rowE x with
      | inl e => simp [e0, h0]
      | inr r =>
        have ha : ∀ v : List Int, appI 24 b [v] = some (b ++ [v]) := fun v => appI_one (by omega) (by omega)
        simp [e0, h0, ha]
    · have e0 : ((x.length : Int) ≠ (rows.length : Int)) := by omega
      simp [e0, h0]
  · unfold ref08_LinesOf_l1
    simp only
    rw [if_neg (by simp)]
end Go.Rex

open Go Go.Rex
namespace Go.Rex
set_option maxRecDepth 100000
theorem copyAll {row : List Lp} (h : Few row) : ref08_CopyAll row = some row := by
  have := run_walk (step := ref08_CopyAll_l1 row) (fun k (b : List Lp) => (b, (k : Int))) (fun b x => (.inl (b ++ [x]) : List Lp ⊕ List Lp)) id (fun k b => b.length = k ∧ k ≤ 6) row (fun k x b hk hI => by
    have hlt := (List.getElem?_eq_some_iff.1 hk).1
    have hl : x.1.length ≤ 1048576 := by have := h.2 x (List.mem_of_getElem? hk); omega
    have h6 := h.1
    refine ⟨?_, fun b' hb' => by cases hb'; simp [hI.1]; omega⟩
    have hg : getI row (k : Int) = some (x.1, x.2) := by unfold getI; rw [if_pos (by omega)]; exact hk
    unfold ref08_CopyAll_l1
    simp only
    have ha : ∀ v : Lp, appI 32 b [v] = some (b ++ [v]) := fun v => appI_one (by omega) (by omega)
    rw [if_pos (by simp only [decide_eq_true_eq]; omega), hg, Option.bind_some]
    simp only [copyL x.2 hl, Option.bind_some, ha]
    rw [wsucc (n := row.length) (by omega) (by omega)]) (fun b hI => by
    unfold ref08_CopyAll_l1
    simp only
    rw [if_neg (by simp)]
    rfl) (b0 := []) ⟨rfl, by omega⟩
  have e : ∀ (t b : List Lp), walk (fun b x => (.inl (b ++ [x]) : List Lp ⊕ List Lp)) id b t = b ++ t := by
    intro t
    induction t with
    | nil => intro b; simp [walk]
    | cons x t ih => intro b; simp [walk, ih]
  rw [e, List.nil_append] at this
  unfold ref08_CopyAll
  show (run (ref08_CopyAll_l1 row) (([] : List Lp), 0)).bind _ = _
  have h0 : run (ref08_CopyAll_l1 row) (([] : List Lp), 0) = some row := this
  rw [h0]
  rfl
def fewB (row : List Lp) : Bool := row.all fun x => decide (x.1.length ≤ 34)
theorem few_run {row : List Lp} (h : row.length ≤ 6) : run (law08_LoopLinesOf_l2 row) 0 = some (if fewB row = true then .inr () else .inl ()) := by
  have := run_walk (step := law08_LoopLinesOf_l2 row) (fun k (_ : Unit) => (k : Int)) (fun _ x => (if x.1.length ≤ 34 then .inl () else .inr (.inl ()) : Unit ⊕ (Unit ⊕ Unit))) (fun _ => .inr ()) (fun k _ => k ≤ 6) row (fun k x b hk hI => by
    have hlt := (List.getElem?_eq_some_iff.1 hk).1
    refine ⟨?_, fun b' _ => by omega⟩
    have hg : getI row (k : Int) = some (x.1, x.2) := by unfold getI; rw [if_pos (by omega)]; exact hk
    unfold law08_LoopLinesOf_l2 law08_few
    rw [if_pos (by simp only [decide_eq_true_eq]; omega), hg, Option.bind_some]
    rw [wsucc (n := row.length) (by omega) (by omega)]
    by_cases hx : x.1.length ≤ 34
    · have hx' : (x.1.length : Int) ≤ 34 := by omega
      simp [hx, hx']
    · have hx' : ¬ (x.1.length : Int) ≤ 34 := by omega
      simp [hx, hx']) (fun b hI => by
    unfold law08_LoopLinesOf_l2
    rw [if_neg (by simp)]) (b0 := ()) (by omega)
  have e : ∀ (t : List Lp), walk (fun (_ : Unit) (x : Lp) => (if x.1.length ≤ 34 then .inl () else .inr (.inl ()) : Unit ⊕ (Unit ⊕ Unit))) (fun _ => .inr ()) () t = if fewB t = true then .inr () else .inl () := by
    intro t
    induction t with
    | nil => rfl
    | cons x t ih =>
      unfold walk fewB
      by_cases hx : x.1.length ≤ 34
      · rw [if_pos hx]
        simp only
        rw [ih]
        unfold fewB
        rw [List.all_cons, decide_eq_true hx, Bool.true_and]
      · rw [if_neg hx]
        simp [hx]
  rw [e] at this
  exact this
theorem fewB_few {row : List Lp} (h : row.length ≤ 6) (hb : fewB row = true) : Few row := ⟨h, fun x hx => by simpa using List.all_eq_true.1 hb x hx⟩
def lawF (b : List (List Lp)) (row : List Lp) : List (List Lp) ⊕ (Unit ⊕ List (List Lp)) := if row.length > 6 then .inr (.inl ()) else if fewB row = true then .inl (b ++ [row]) else .inr (.inl ())
theorem law_run {rows : List (List Lp)} (h : rows.length ≤ 6) : run (law08_LoopLinesOf_l1 rows) (([] : List (List Lp)), 0) = some (walk lawF .inr [] rows) := by
  refine run_walk (step := law08_LoopLinesOf_l1 rows) (fun k (b : List (List Lp)) => (b, (k : Int))) lawF .inr (fun k b => b.length = k ∧ k ≤ 6) rows (fun k x b hk hI => ?_) (fun b hI => ?_) ⟨rfl, by omega⟩
  · have hlt := (List.getElem?_eq_some_iff.1 hk).1
    refine ⟨?_, fun b' hb' => ?_⟩
    · have hg : getI rows (k : Int) = some x := by unfold getI; rw [if_pos (by omega)]; exact hk
      unfold law08_LoopLinesOf_l1 lawF
      simp only
      rw [if_pos (by simp only [decide_eq_true_eq]; omega), hg, Option.bind_some, wsucc (n := rows.length) (by omega) (by omega)]
      by_cases h6 : x.length > 6
      · have h6' : (x.length : Int) > 6 := by omega
        simp [h6, h6']
      · have h6' : ¬ (x.length : Int) > 6 := by omega
        rw [few_run (by omega)]
        by_cases hf : fewB x = true
        · have ha : ∀ v : List Lp, appI 24 b [v] = some (b ++ [v]) := fun v => appI_one (by omega) (by omega)
          simp [h6, h6', hf, copyAll (fewB_few (by omega) hf), ha]
        · simp [h6, h6', hf]
    · unfold lawF at hb'
      split at hb'
      · cases hb'
      · split at hb'
        · cases hb'; simp [hI.1]; omega
        · cases hb'
  · unfold law08_LoopLinesOf_l1
    simp only
    rw [if_neg (by simp)]
theorem lawF_all {rows b v : List (List Lp)} (h : walk lawF .inr b rows = .inr v) : v = b ++ rows ∧ ∀ r ∈ rows, Few r := by
  induction rows generalizing b with
  | nil => cases h; simp
  | cons x t ih =>
    simp only [walk] at h
    unfold lawF at h
    split at h
    · rename_i b' hb
      split at hb
      · cases hb
      · rename_i h6
        split at hb
        · rename_i hf
          cases hb
          obtain ⟨i1, i2⟩ := ih (b := b ++ [x]) h
          refine ⟨by rw [i1]; simp, fun r hr => ?_⟩
          rcases List.mem_cons.1 hr with rfl | hr
          · exact fewB_few (by omega) hf
          · exact i2 r hr
        · cases hb
    · rename_i e hb
      subst h
      split at hb
      · cases hb
      · split at hb <;> cases hb
theorem lists_refl {l : List (List Int)} (h : l.length ≤ 1048576) (hr : ∀ r ∈ l, r.length ≤ 1048576) : base_Lists l l = some true := by
  unfold base_Lists
  rw [if_neg (by simp)]
  have := run_walk (step := base_Lists_l1 l l) (fun k (_ : Unit) => (k : Int)) (fun _ _ => (.inl () : Unit ⊕ (Unit ⊕ Unit))) (fun _ => .inr ()) (fun _ _ => True) l (fun k x b hk _ => by
    have hlt := (List.getElem?_eq_some_iff.1 hk).1
    refine ⟨?_, fun _ _ => trivial⟩
    unfold base_Lists_l1
    have hg : getI l (k : Int) = some x := by unfold getI; rw [if_pos (by omega)]; exact hk
    rw [if_pos (by simp only [decide_eq_true_eq]; omega), hg, Option.bind_some, Option.bind_some, ints_refl (hr x (List.mem_of_getElem? hk)), Option.bind_some, wsucc (n := l.length) (by omega) (by omega)]
    rfl) (fun b _ => by
    unfold base_Lists_l1
    rw [if_neg (by simp)]) (b0 := ()) trivial
  have e : ∀ (t : List (List Int)), walk (fun (_ : Unit) (_ : List Int) => (.inl () : Unit ⊕ (Unit ⊕ Unit))) (fun _ => .inr ()) () t = .inr () := by
    intro t
    induction t with
    | nil => rfl
    | cons x t ih => simpa [walk] using ih
  rw [e] at this
  have h0 : run (base_Lists_l1 l l) 0 = some (.inr ()) := this
  rw [h0]
  rfl
theorem row_len {row : List Lp} {b r : List Int} (h : walk rowF .inr b row = (.inr r : Int ⊕ List Int)) : r.length = b.length + row.length := by
  induction row generalizing b with
  | nil => cases h; simp
  | cons x t ih =>
    simp only [walk] at h
    cases hf : rowF b x with
    | inl b' =>
      rw [hf] at h
      have := rowF_len rfl hf
      rw [ih h, this]; simp; omega
    | inr e =>
      rw [hf] at h
      subst h
      unfold rowF at hf
      split at hf
      · cases hf
      · split at hf <;> cases hf
theorem lin_len {n : Nat} {rows : List (List Lp)} {b v : List (List Int)} (hF : ∀ r ∈ rows, Few r) (hb : ∀ r ∈ b, r.length ≤ 6) (h : walk (linF n) .inr b rows = (.inr v : Int ⊕ List (List Int))) : v.length = b.length + rows.length ∧ ∀ r ∈ v, r.length ≤ 6 := by
  induction rows generalizing b with
  | nil => cases h; simpa using hb
  | cons x t ih =>
    simp only [walk] at h
    cases hf : linF n b x with
    | inl b' =>
      rw [hf] at h
      have h1 := linF_len rfl hf
      have h2 : ∀ r ∈ b', r.length ≤ 6 := by
        unfold linF at hf
        split at hf
        · cases hf
        · split at hf
          · cases hf
          · rename_i r hr
            cases hf
            intro q hq
            rcases List.mem_append.1 hq with hq | hq
            · exact hb q hq
            · simp at hq
              subst hq
              have := row_len hr
              have := (hF x (by simp)).1
              simp at *
              omega
      obtain ⟨i1, i2⟩ := ih (fun r hr => hF r (by simp [hr])) h2 h
      exact ⟨by rw [i1, h1]; simp; omega, i2⟩
    | inr e =>
      rw [hf] at h
      subst h
      unfold linF at hf
      split at hf
      · cases hf
      · split at hf <;> cases hf
theorem linesOf_true (l : List (List Lp)) : law08_LoopLinesOf l = some true := by
  unfold law08_LoopLinesOf
  by_cases h6 : l.length ≤ 6
  · rw [if_neg (by simp only [decide_eq_true_eq]; omega)]
    show (run (law08_LoopLinesOf_l1 l) (([] : List (List Lp)), 0)).bind _ = _
    rw [law_run h6, Option.bind_some]
    cases hw : walk lawF .inr [] l with
    | inl _ => rfl
    | inr v =>
      obtain ⟨hv, hF⟩ := lawF_all hw
      rw [List.nil_append] at hv
      subst hv
      simp only
      have e1 : loop_LinesOf v = ref08_LinesOf v := by
        unfold loop_LinesOf ref08_LinesOf loop_counted
        have hc : loop_counted_c1_b585 (v.length : Int) 4 = some (if (v.length : Int) = 0 then 10 else if (v.length : Int) > 4 then 8 else 0) := countedR _ _
        simp only [Option.bind_some, hc, prog_lin h6 hF, ref_lin h6 hF]
        generalize (v.length : Int) = n
        by_cases a : n = 0
        · simp [a]
        · by_cases b : n > 4
          · simp [a, b]
          · simp only [a, b, if_false, decide_false, Bool.false_eq_true, ne_eq, not_true_eq_false] <;> rfl
      have e2 : ∃ x e, ref08_LinesOf v = some (x, e) ∧ x.length ≤ 6 ∧ ∀ r ∈ x, r.length ≤ 6 := by
        unfold ref08_LinesOf
        split
        · exact ⟨_, _, rfl, by simp, by simp⟩
        · split
          · exact ⟨_, _, rfl, by simp, by simp⟩
          · rw [ref_lin h6 hF, Option.bind_some]
            cases hl : linE v with
            | inl e => exact ⟨_, _, rfl, by simp, by simp⟩
            | inr x =>
              obtain ⟨k1, k2⟩ := lin_len hF (by simp) hl
              simp at k1
              exact ⟨_, _, rfl, by omega, k2⟩
      obtain ⟨x, e, e3, k1, k2⟩ := e2
      rw [e1, e3]
      simp only [Option.bind_some, decide_true, if_true]
      rw [lists_refl (by omega) (fun r hr => by have := k2 r hr; omega)]
      rfl
  · rw [if_pos (by simp only [decide_eq_true_eq]; omega)]
end Go.Rex

namespace Go.Rex
open Go Go.ChangeShapes Go.WideShapes Go.ChangeAt Go.RowKit Go.Joins Go.Proofs
/-! ### arguments: what they are as trees, and the names of their blocks -/
structure Arg (W : World) (v' : Value) (p : TV) (bs : List Blk) (is : List Info) (av : Nat → Value) : Prop where
  vr : ∀ (D : Nat → Prop) (m : NMap) n, (∀ j, j < bs.length → D (n + j)) → (∀ (j : Nat) i, is[j]? = some i → m (n + j) = i) → VR D m (av n) v'
  vl : ∀ (Fz : Nat → Prop) (h : List Blk) n, (∀ j, j < bs.length → Fz (n + j)) → (∀ (j : Nat) b, bs[j]? = some b → h[n + j]? = some b) → VL Fz h noL p (av n)
  ok : ∀ (D : Nat → Prop) (m : NMap) n, (∀ j, j < bs.length → D (n + j)) → (∀ (j : Nat) i, is[j]? = some i → m (n + j) = i) → ∀ (j : Nat) b, bs[j]? = some b → BlkOk D m W (n + j) b
  lt : ∀ (j : Nat) b i, bs[j]? = some b → is[j]? = some i → b ≠ .dead → i.block < W.heap.size
  len : is.length = bs.length
structure Args (W : World) (vs' : List Value) (ps : List TV) (bs : List Blk) (is : List Info) (av : Nat → List Value) : Prop where
  vr : ∀ (D : Nat → Prop) (m : NMap) n, (∀ j, j < bs.length → D (n + j)) → (∀ (j : Nat) i, is[j]? = some i → m (n + j) = i) → VRs D m (av n) vs'
  vl : ∀ (Fz : Nat → Prop) (h : List Blk) n, (∀ j, j < bs.length → Fz (n + j)) → (∀ (j : Nat) b, bs[j]? = some b → h[n + j]? = some b) → VLs Fz h noL ps (av n)
  ok : ∀ (D : Nat → Prop) (m : NMap) n, (∀ j, j < bs.length → D (n + j)) → (∀ (j : Nat) i, is[j]? = some i → m (n + j) = i) → ∀ (j : Nat) b, bs[j]? = some b → BlkOk D m W (n + j) b
  lt : ∀ (j : Nat) b i, bs[j]? = some b → is[j]? = some i → b ≠ .dead → i.block < W.heap.size
  len : is.length = bs.length
theorem Args.nil (W : World) : Args W [] [] [] [] (fun _ => []) :=
  ⟨fun _ _ _ _ _ => ⟨rfl, fun i a a' h => by simp at h⟩, fun _ _ _ _ _ => .nil, fun _ _ _ _ _ j b h => by simp at h, fun j b i h => by simp at h, rfl⟩
theorem Args.cons {W : World} {v' : Value} {p : TV} {bs bs2 : List Blk} {is is2 : List Info} {av : Nat → Value} {vs' : List Value} {ps : List TV} {avs : Nat → List Value}
    (a : Arg W v' p bs is av) (as : Args W vs' ps bs2 is2 avs) : Args W (v' :: vs') (p :: ps) (bs ++ bs2) (is ++ is2) (fun n => av n :: avs (n + bs.length)) := by
  have cD : ∀ (D : Nat → Prop) n, (∀ j, j < (bs ++ bs2).length → D (n + j)) → (∀ j, j < bs.length → D (n + j)) ∧ (∀ j, j < bs2.length → D (n + bs.length + j)) := by
    intro D n h
    refine ⟨fun j hj => h j (by simp; omega), fun j hj => ?_⟩
    have := h (bs.length + j) (by simp; omega)
    rwa [← Nat.add_assoc] at this
  have cI : ∀ (m : NMap) n, (∀ (j : Nat) i, (is ++ is2)[j]? = some i → m (n + j) = i) → (∀ (j : Nat) i, is[j]? = some i → m (n + j) = i) ∧ (∀ (j : Nat) i, is2[j]? = some i → m (n + bs.length + j) = i) := by
    intro m n h
    refine ⟨fun j i hj => h j i (by rw [List.getElem?_append_left (List.getElem?_eq_some_iff.1 hj).1]; exact hj), fun j i hj => ?_⟩
    have := h (bs.length + j) i (by rw [List.getElem?_append_right (by rw [a.len]; omega), a.len, Nat.add_sub_cancel_left]; exact hj)
    rwa [← Nat.add_assoc] at this
  refine ⟨fun D m n hD hm => ?_, fun Fz h n hF hh => ?_, fun D m n hD hm j b hb => ?_, fun j b i hb hi hd => ?_, by simp [a.len, as.len]⟩
  · have h1 := a.vr D m n (cD D n hD).1 (cI m n hm).1
    have h2 := as.vr D m (n + bs.length) (cD D n hD).2 (cI m n hm).2
    refine ⟨by simp [h2.len], fun i x x' hx hx' => ?_⟩
    cases i with
    | zero => simp at hx hx'; subst hx hx'; exact h1
    | succ i => simp at hx hx'; exact h2.at' i x x' hx hx'
  · refine .cons (a.vl Fz h n (cD Fz n hF).1 fun j b hb => hh j b (by rw [List.getElem?_append_left (List.getElem?_eq_some_iff.1 hb).1]; exact hb)) (as.vl Fz h (n + bs.length) (cD Fz n hF).2 fun j b hb => ?_)
    have := hh (bs.length + j) b (by rw [List.getElem?_append_right (by omega), Nat.add_sub_cancel_left]; exact hb)
    rwa [← Nat.add_assoc] at this
  · rcases Nat.lt_or_ge j bs.length with hj | hj
    · rw [List.getElem?_append_left hj] at hb
      exact a.ok D m n (cD D n hD).1 (cI m n hm).1 j b hb
    · rw [List.getElem?_append_right hj] at hb
      have := as.ok D m (n + bs.length) (cD D n hD).2 (cI m n hm).2 _ b hb
      rwa [show n + bs.length + (j - bs.length) = n + j by omega] at this
  · rcases Nat.lt_or_ge j bs.length with hj | hj
    · rw [List.getElem?_append_left hj] at hb
      rw [List.getElem?_append_left (by rw [a.len]; exact hj)] at hi
      exact a.lt j b i hb hi hd
    · rw [List.getElem?_append_right hj] at hb
      rw [List.getElem?_append_right (by rw [a.len]; exact hj), a.len] at hi
      exact as.lt _ b i hb hi hd
/-- the names of the arguments -/
def nm (is : List Info) : NMap := fun n => is.getD n ⟨0, 0, 0, 0⟩
theorem nm_at {is : List Info} {j : Nat} {i : Info} (h : is[j]? = some i) : nm is (0 + j) = i := by
  unfold nm
  rw [Nat.zero_add, List.getD_eq_getElem?_getD, h]
  rfl
section
variable {W : World} {vs' : List Value} {ps : List TV} {bs : List Blk} {is : List Info} {av : Nat → List Value}
theorem Args.rel (a : Args W vs' ps bs is av) : Rel W.heap.size bs.length (fun k => k < bs.length) (nm is) bs W := by
  refine ⟨Nat.le_refl _, fun _ h => h, fun n b hn hb => ?_, fun n b hn hb hd => ?_, fun n b hD hl => absurd hD (by omega), fun n b hn _ hb hd => ?_, fun n b hD hl => absurd hD (by omega), fun n n' b b' hD _ hl => absurd hD (by omega)⟩
  · have := a.ok (fun k => k < bs.length) (nm is) 0 (fun j hj => by omega) (fun j i hi => nm_at hi) n b hb
    rwa [Nat.zero_add] at this
  all_goals
    have hi : n < is.length := by rw [a.len]; exact hn
    have e := nm_at (List.getElem?_eq_getElem hi)
    rw [Nat.zero_add] at e
    rw [e]
    exact a.lt n b _ hb (List.getElem?_eq_getElem hi) hd
theorem Args.vls (a : Args W vs' ps bs is av) : VLs (fun k => k < bs.length) bs noL ps (av 0) := a.vl _ _ 0 (fun j hj => by omega) (fun j b hb => by rw [Nat.zero_add]; exact hb)
theorem Args.vrs (a : Args W vs' ps bs is av) : VRs (fun k => k < bs.length) (nm is) (av 0) vs' := a.vr _ _ 0 (fun j hj => by omega) (fun j i hi => nm_at hi)
end
theorem len1 {α : Type} {l : List α} (h : l.length = 1) : ∃ x0, l = [x0] := by
  match l, h with
  | [x0], _ => exact ⟨_, rfl⟩
theorem len2 {α : Type} {l : List α} (h : l.length = 2) : ∃ x0 x1, l = [x0, x1] := by
  match l, h with
  | [x0, x1], _ => exact ⟨_, _, rfl⟩
/-! ### arguments without names -/
def AtomV (c : Value) : Prop := isAtom c = true ∧ ∀ D m, VR D m c c
theorem atomV_int (k : IntKind) (n : Int) : AtomV (.int k n) := ⟨rfl, fun _ _ => .int _ _⟩
theorem Arg.atom {W : World} {v : Value} (h : AtomV v) : Arg W v (.v v) [] [] (fun _ => v) :=
  ⟨fun _ _ _ _ _ => h.2 _ _, fun _ _ _ _ _ => .v _ _ h.1, fun _ _ _ _ _ j b h => by simp at h, fun j b i h => by simp at h, rfl⟩
theorem Arg.agg {W : World} {l : List Value} (h : ∀ c ∈ l, AtomV c) : Arg W (.agg ⟨l⟩) (.agg (l.map .v)) [] [] (fun _ => .agg ⟨l⟩) := by
  refine ⟨fun _ _ _ _ _ => .agg _ _ rfl fun i v v' hv hv' => ?_, fun _ _ _ _ _ => .agg _ _ _ (by simp) fun i p x hp hx => ?_, fun _ _ _ _ _ j b h => by simp at h, fun j b i h => by simp at h, rfl⟩
  · obtain rfl : v = v' := Option.some.inj (hv.symm.trans hv')
    exact (h v (List.mem_of_getElem? hv)).2 _ _
  · rw [List.getElem?_map, hx] at hp
    obtain rfl := Option.some.inj hp
    exact .v _ _ (h x (List.mem_of_getElem? hx)).1
/-! ### a slice of rows -/
theorem choose_list {α : Type} {Q : Nat → α → Prop} : ∀ n, (∀ i, i < n → ∃ x, Q i x) → ∃ xs : List α, xs.length = n ∧ ∀ (i : Nat) x, xs[i]? = some x → Q i x
  | 0, _ => ⟨[], rfl, fun i x h => by simp at h⟩
  | n + 1, h => by
    obtain ⟨xs, hl, hq⟩ := choose_list n (fun i hi => h i (by omega))
    obtain ⟨x, hx⟩ := h n (by omega)
    refine ⟨xs ++ [x], by simp [hl], fun i y hy => ?_⟩
    rcases Nat.lt_or_ge i n with hi | hi
    · rw [List.getElem?_append_left (by omega)] at hy
      exact hq i y hy
    · rw [List.getElem?_append_right (by omega), hl] at hy
      have : i = n := by
        rcases Nat.lt_or_ge 0 (i - n) with g | g
        · rw [List.getElem?_eq_none (by simp; omega)] at hy; cases hy
        · omega
      subst this
      simp at hy
      subst hy
      exact hx
section
variable {H : Type} {enc : TypeId × Value → H} {W : World} {base : Nat} {spare : Nat → Bool} {held : Bool}
/-! ### aggregates of ints -/
def AI (cs : List Value) : Prop := ∀ c ∈ cs, ∃ n : Int, c = .int .i64 n
theorem AI.list {cs : List Value} (h : AI cs) : ∃ l : List Int, cs = l.map (.int .i64) := by
  induction cs with
  | nil => exact ⟨[], rfl⟩
  | cons c t ih =>
    obtain ⟨n, rfl⟩ := h c (by simp)
    obtain ⟨l, rfl⟩ := ih fun c hc => h c (by simp [hc])
    exact ⟨n :: l, rfl⟩
variable {P : Program}
theorem Arg.ofArgs {cs : List Value} {ps : List TV} {bs : List Blk} {is : List Info} {av : Nat → List Value} (a : Args W cs ps bs is av) : Arg W (.agg ⟨cs⟩) (.agg ps) bs is (fun n => .agg ⟨av n⟩) :=
  ⟨fun D m n hD hm => .agg' (a.vr D m n hD hm), fun Fz h n hF hh => .agg' (a.vl Fz h n hF hh), a.ok, a.lt, a.len⟩
theorem st_field {t : TypeId} {fs : Array Field} {i : Nat} {f : Field} (ht : P.underlying t = some (.struct fs)) (hf : fs[i]? = some f) {fuel : Nat} {cs : List Value} {x : DataW H × List MemPlace} (h : DataW.trod enc P W base spare held fuel t cs = some x) :
    ∃ n y, DataW.trod enc P W base spare held n f.type ((cs.drop f.offset).take (P.cellsOf f.type)) = some y := by
  obtain ⟨xs, n, _, _, hl, hx, hi⟩ := DataW.trod_struct ht h
  have := hi i f hf
  have hil : i < fs.size := (Array.getElem?_eq_some_iff.1 hf).1
  rw [List.getElem?_eq_getElem (by omega)] at this
  exact ⟨n, _, this⟩
end
end Go.Rex

namespace Go.Rex
open Go Go.ChangeShapes Go.WideShapes Go.ChangeAt Go.RowKit Go.Joins Go.Proofs
/-! ### arguments whose blocks name one another: lists of lists -/
structure NArg (W : World) (v' : Value) (p : TV) (bs : Nat → List Blk) (is : List Info) (av : Nat → Value) : Prop where
  vr : ∀ (D : Nat → Prop) (m : NMap) n, (∀ j, j < is.length → D (n + j)) → (∀ (j : Nat) i, is[j]? = some i → m (n + j) = i) → VR D m (av n) v'
  vl : ∀ (Fz : Nat → Prop) (h : List Blk) n, (∀ j, j < is.length → Fz (n + j)) → (∀ (j : Nat) b, (bs n)[j]? = some b → h[n + j]? = some b) → VL Fz h noL p (av n)
  ok : ∀ (D : Nat → Prop) (m : NMap) n, (∀ j, j < is.length → D (n + j)) → (∀ (j : Nat) i, is[j]? = some i → m (n + j) = i) → ∀ (j : Nat) b, (bs n)[j]? = some b → BlkOk D m W (n + j) b
  lt : ∀ n (j : Nat) b i, (bs n)[j]? = some b → is[j]? = some i → b ≠ .dead → i.block < W.heap.size
  len : ∀ n, (bs n).length = is.length
structure NArgs (W : World) (vs' : List Value) (ps : List TV) (bs : Nat → List Blk) (is : List Info) (av : Nat → List Value) : Prop where
  vr : ∀ (D : Nat → Prop) (m : NMap) n, (∀ j, j < is.length → D (n + j)) → (∀ (j : Nat) i, is[j]? = some i → m (n + j) = i) → VRs D m (av n) vs'
  vl : ∀ (Fz : Nat → Prop) (h : List Blk) n, (∀ j, j < is.length → Fz (n + j)) → (∀ (j : Nat) b, (bs n)[j]? = some b → h[n + j]? = some b) → VLs Fz h noL ps (av n)
  ok : ∀ (D : Nat → Prop) (m : NMap) n, (∀ j, j < is.length → D (n + j)) → (∀ (j : Nat) i, is[j]? = some i → m (n + j) = i) → ∀ (j : Nat) b, (bs n)[j]? = some b → BlkOk D m W (n + j) b
  lt : ∀ n (j : Nat) b i, (bs n)[j]? = some b → is[j]? = some i → b ≠ .dead → i.block < W.heap.size
  len : ∀ n, (bs n).length = is.length
theorem Arg.n {W : World} {v' : Value} {p : TV} {bs : List Blk} {is : List Info} {av : Nat → Value} (a : Arg W v' p bs is av) : NArg W v' p (fun _ => bs) is av :=
  ⟨fun D m n hD hm => a.vr D m n (by rw [← a.len]; exact hD) hm, fun Fz h n hF hh => a.vl Fz h n (by rw [← a.len]; exact hF) hh, fun D m n hD hm => a.ok D m n (by rw [← a.len]; exact hD) hm, fun _ => a.lt, fun _ => a.len.symm⟩
theorem NArgs.nil (W : World) : NArgs W [] [] (fun _ => []) [] (fun _ => []) :=
  ⟨fun _ _ _ _ _ => ⟨rfl, fun i a a' h => by simp at h⟩, fun _ _ _ _ _ => .nil, fun _ _ _ _ _ j b h => by simp at h, fun _ j b i h => by simp at h, fun _ => rfl⟩
theorem NArgs.cons {W : World} {v' : Value} {p : TV} {bs bs2 : Nat → List Blk} {is is2 : List Info} {av : Nat → Value} {vs' : List Value} {ps : List TV} {avs : Nat → List Value}
    (a : NArg W v' p bs is av) (as : NArgs W vs' ps bs2 is2 avs) : NArgs W (v' :: vs') (p :: ps) (fun n => bs n ++ bs2 (n + is.length)) (is ++ is2) (fun n => av n :: avs (n + is.length)) := by
  have cD : ∀ (D : Nat → Prop) n, (∀ j, j < (is ++ is2).length → D (n + j)) → (∀ j, j < is.length → D (n + j)) ∧ (∀ j, j < is2.length → D (n + is.length + j)) := by
    intro D n h
    refine ⟨fun j hj => h j (by simp; omega), fun j hj => ?_⟩
    have := h (is.length + j) (by simp; omega)
    rwa [← Nat.add_assoc] at this
  have cI : ∀ (m : NMap) n, (∀ (j : Nat) i, (is ++ is2)[j]? = some i → m (n + j) = i) → (∀ (j : Nat) i, is[j]? = some i → m (n + j) = i) ∧ (∀ (j : Nat) i, is2[j]? = some i → m (n + is.length + j) = i) := by
    intro m n h
    refine ⟨fun j i hj => h j i (by rw [List.getElem?_append_left (List.getElem?_eq_some_iff.1 hj).1]; exact hj), fun j i hj => ?_⟩
    have := h (is.length + j) i (by rw [List.getElem?_append_right (by omega), Nat.add_sub_cancel_left]; exact hj)
    rwa [← Nat.add_assoc] at this
  refine ⟨fun D m n hD hm => ?_, fun Fz h n hF hh => ?_, fun D m n hD hm j b hb => ?_, fun n j b i hb hi hd => ?_, fun n => by simp [a.len, as.len]⟩
  · have h1 := a.vr D m n (cD D n hD).1 (cI m n hm).1
    have h2 := as.vr D m (n + is.length) (cD D n hD).2 (cI m n hm).2
    refine ⟨by simp [h2.len], fun i x x' hx hx' => ?_⟩
    cases i with
    | zero => simp at hx hx'; subst hx hx'; exact h1
    | succ i => simp at hx hx'; exact h2.at' i x x' hx hx'
  · refine .cons (a.vl Fz h n (cD Fz n hF).1 fun j b hb => hh j b (by rw [List.getElem?_append_left (List.getElem?_eq_some_iff.1 hb).1]; exact hb)) (as.vl Fz h (n + is.length) (cD Fz n hF).2 fun j b hb => ?_)
    have := hh (is.length + j) b (by rw [List.getElem?_append_right (by rw [a.len]; omega), a.len, Nat.add_sub_cancel_left]; exact hb)
    rwa [← Nat.add_assoc] at this
  · rcases Nat.lt_or_ge j is.length with hj | hj
    · rw [List.getElem?_append_left (by rw [a.len]; exact hj)] at hb
      exact a.ok D m n (cD D n hD).1 (cI m n hm).1 j b hb
    · rw [List.getElem?_append_right (by rw [a.len]; exact hj), a.len] at hb
      have := as.ok D m (n + is.length) (cD D n hD).2 (cI m n hm).2 _ b hb
      rwa [show n + is.length + (j - is.length) = n + j by omega] at this
  · rcases Nat.lt_or_ge j is.length with hj | hj
    · rw [List.getElem?_append_left (by rw [a.len]; exact hj)] at hb
      rw [List.getElem?_append_left hj] at hi
      exact a.lt n j b i hb hi hd
    · rw [List.getElem?_append_right (by rw [a.len]; exact hj), a.len] at hb
      rw [List.getElem?_append_right hj] at hi
      exact as.lt _ _ b i hb hi hd
section
variable {W : World} {vs' : List Value} {ps : List TV} {bs : Nat → List Blk} {is : List Info} {av : Nat → List Value}
theorem NArgs.rel (a : NArgs W vs' ps bs is av) : Rel W.heap.size (bs 0).length (fun k => k < (bs 0).length) (nm is) (bs 0) W := by
  have hl := a.len 0
  refine ⟨Nat.le_refl _, fun _ h => h, fun n b hn hb => ?_, fun n b hn hb hd => ?_, fun n b hD hl => absurd hD (by omega), fun n b hn _ hb hd => ?_, fun n b hD hl => absurd hD (by omega), fun n n' b b' hD _ hl => absurd hD (by omega)⟩
  · have := a.ok (fun k => k < (bs 0).length) (nm is) 0 (fun j hj => by omega) (fun j i hi => nm_at hi) n b hb
    rwa [Nat.zero_add] at this
  all_goals
    have hi : n < is.length := by omega
    have e := nm_at (List.getElem?_eq_getElem hi)
    rw [Nat.zero_add] at e
    rw [e]
    exact a.lt 0 n b _ hb (List.getElem?_eq_getElem hi) hd
theorem NArgs.vls (a : NArgs W vs' ps bs is av) : VLs (fun k => k < (bs 0).length) (bs 0) noL ps (av 0) := a.vl _ _ 0 (fun j hj => by have := a.len 0; omega) (fun j b hb => by rw [Nat.zero_add]; exact hb)
theorem NArgs.vrs (a : NArgs W vs' ps bs is av) : VRs (fun k => k < (bs 0).length) (nm is) (av 0) vs' := a.vr _ _ 0 (fun j hj => by have := a.len 0; omega) (fun j i hi => nm_at hi)
theorem NArg.ofArgs (a : NArgs W vs' ps bs is av) : NArg W (.agg ⟨vs'⟩) (.agg ps) bs is (fun n => .agg ⟨av n⟩) :=
  ⟨fun D m n hD hm => .agg' (a.vr D m n hD hm), fun Fz h n hF hh => .agg' (a.vl Fz h n hF hh), a.ok, a.lt, a.len⟩
/-- many arguments of a kind -/
theorem nargs_list {α : Type} {F : α → TV} : ∀ (vs' : List Value), (∀ c ∈ vs', ∃ (x : α) (bs : Nat → List Blk) (is : List Info) (av : Nat → Value), NArg W c (F x) bs is av) →
    ∃ (xs : List α) (bs : Nat → List Blk) (is : List Info) (av : Nat → List Value), xs.length = vs'.length ∧ NArgs W vs' (xs.map F) bs is av
  | [], _ => ⟨[], _, _, _, rfl, NArgs.nil W⟩
  | c :: t, h => by
    obtain ⟨xs, _, _, _, hl, a⟩ := nargs_list t (fun c hc => h c (by simp [hc]))
    obtain ⟨x, _, _, _, b⟩ := h c (by simp)
    exact ⟨x :: xs, _, _, _, by simp [hl], NArgs.cons b a⟩
end
section
variable {H : Type} {enc : TypeId × Value → H} {W : World} {base : Nat} {spare : Nat → Bool} {held : Bool}
theorem cells_spot {gb : Nat} {o : Nat} {s : Option Nat} {k : Nat} {v : Value} (h : W.cell? ⟨gb, o + k, s⟩ = some v) : s = none ∧ gb < W.heap.size := by
  unfold World.cell? at h
  split at h
  · rename_i hb
    refine ⟨?_, ?_⟩
    · cases s with
      | none => rfl
      | some s => simp at h
    · rcases Nat.lt_or_ge gb W.heap.size with hg | hg
      · exact hg
      · rw [Array.getElem?_eq_none hg] at hb
        cases hb
  · cases h
/-- a slice that can be read: a row of values that can be read -/
theorem open_any {P : Program} {t te : TypeId} (ht : P.underlying t = some (.slice te)) {es : Nat} (he : 0 < es) (hC : P.cellsOf te = es) {v' : Value} {fuel : Nat} {x : DataW H × List MemPlace} (h : DataW.trod enc P W base spare held fuel t [v'] = some x) :
    v' = .slice none 0 0 ∨ (∃ a c, v' = .slice (some a) 0 c) ∨ ∃ gb o len cap n, v' = .slice (some ⟨gb, o, none⟩) len cap ∧ 0 < len ∧ len ≤ cap ∧ gb < W.heap.size ∧
      ∀ i, i < len → ∃ cs y, cs.length = es ∧ DataW.trod enc P W base spare held n te cs = some y ∧ ∀ j, j < es → W.cell? ⟨gb, o + i * es + j, none⟩ = cs[j]? := by
  rcases DataW.trod_slice ht h with ⟨hv, _⟩ | ⟨a, len, cap, elems, rest, n, _, hv, _, hb, hlc, hcm, hel, hel2, _, _⟩
  · exact .inl (by simpa using hv)
  · obtain rfl : v' = .slice (some a) len cap := by simpa using hv
    rcases Nat.eq_zero_or_pos len with h0 | h0
    · subst h0
      exact .inr (.inl ⟨a, cap, rfl⟩)
    · obtain ⟨gb, o, s⟩ := a
      have first : s = none ∧ gb < W.heap.size := by
        have h1 := hel2 0 h0
        rw [List.getElem?_eq_getElem (by omega), Option.bind_eq_some_iff] at h1
        obtain ⟨cs, hcs, htr⟩ := h1
        rw [hC] at hcs
        unfold World.cells? at hcs
        split at hcs
        · have hlen := mapM_some_length hcs
          simp at hlen
          have h2 := mapM_some_get hcs 0 0 (by simp [he])
          have e : ((⟨gb, o, s⟩ : Addr).add (0 * es)).add 0 = ⟨gb, o + 0, s⟩ := by simp [Addr.add]
          rw [e] at h2
          exact cells_spot (h2.trans (List.getElem?_eq_getElem (by omega)))
        · cases hcs
      obtain ⟨rfl, hgb⟩ := first
      refine .inr (.inr ⟨gb, o, len, cap, n, rfl, h0, hlc, hgb, fun i hi => ?_⟩)
      have h1 := hel2 i hi
      rw [List.getElem?_eq_getElem (by omega), Option.bind_eq_some_iff] at h1
      obtain ⟨cs, hcs, htr⟩ := h1
      rw [hC] at hcs
      unfold World.cells? at hcs
      split at hcs
      · have hlen := mapM_some_length hcs
        simp at hlen
        refine ⟨cs, _, hlen, htr, fun j hj => ?_⟩
        have := mapM_some_get hcs j j (by simp [hj])
        have e : ((⟨gb, o, none⟩ : Addr).add (i * es)).add j = ⟨gb, o + i * es + j, none⟩ := by
          unfold Addr.add
          split <;> split <;> simp_all
        rw [← e]
        exact this
      · cases hcs
/-- a slice of what can be read as trees -/
theorem open_lists {α : Type} {F : α → TV} {P : Program} {t te : TypeId} (ht : P.underlying t = some (.slice te)) (hC : P.cellsOf te = 1)
    (elem : ∀ n c y, DataW.trod enc P W base spare held n te [c] = some y → ∃ (x : α) (bs : Nat → List Blk) (is : List Info) (av : Nat → Value), NArg W c (F x) bs is av)
    {v' : Value} {fuel : Nat} {x : DataW H × List MemPlace} (h : DataW.trod enc P W base spare held fuel t [v'] = some x) : ∃ (xs : List α) (bs : Nat → List Blk) (is : List Info) (av : Nat → Value), NArg W v' (.list 1 (xs.map fun x => [F x])) bs is av := by
  rcases open_any ht (by decide) hC h with rfl | ⟨a, c, rfl⟩ | ⟨gb, o, len, cap, n, rfl, h0, hlc, hgb, key⟩
  · exact ⟨[], fun _ => [], [], fun _ => .slice none 0 0, fun _ _ _ _ _ => .nilSlice 0 0, fun _ _ _ _ _ => .nillist _ _, fun _ _ _ _ _ j b h => by simp at h, fun _ j b i h => by simp at h, fun _ => rfl⟩
  · exact ⟨[], fun _ => [], [], fun _ => vag, fun _ _ _ _ _ => .vague a c, fun _ _ _ _ _ => .vague _ _, fun _ _ _ _ _ j b h => by simp at h, fun _ j b i h => by simp at h, fun _ => rfl⟩
  · have key2 : ∀ i, i < len → ∃ c : Value, W.cell? ⟨gb, o + i, none⟩ = some c ∧ ∃ y, DataW.trod enc P W base spare held n te [c] = some y := fun i hi => by
      obtain ⟨cs, y, hl, htr, hcell⟩ := key i hi
      obtain ⟨c, rfl⟩ := len1 hl
      refine ⟨c, ?_, y, htr⟩
      have := hcell 0 (by decide)
      simpa using this
    obtain ⟨cs, hcl, hq⟩ := choose_list len key2
    obtain ⟨xs, bs, is, avs, hxl, as⟩ := nargs_list (W := W) (F := F) cs (fun c hc => by
      obtain ⟨i, hi, rfl⟩ := List.mem_iff_getElem.1 hc
      obtain ⟨_, y, hy⟩ := hq i _ (List.getElem?_eq_getElem hi)
      exact elem n _ y hy)
    subst hcl
    have sD : ∀ (D : Nat → Prop) n, (∀ j, j < is.length + 1 → D (n + j)) → D n ∧ ∀ j, j < is.length → D (n + 1 + j) := by
      intro D n hD
      refine ⟨by simpa using hD 0 (by omega), fun j hj => ?_⟩
      have := hD (j + 1) (by omega)
      rwa [show n + 1 + j = n + (j + 1) by omega]
    have sI : ∀ (m : NMap) n, (∀ (j : Nat) i, ((⟨gb, o, cap * 1, 1⟩ : Info) :: is)[j]? = some i → m (n + j) = i) → m n = ⟨gb, o, cap * 1, 1⟩ ∧ ∀ (j : Nat) i, is[j]? = some i → m (n + 1 + j) = i := by
      intro m n hm
      refine ⟨by simpa using hm 0 _ rfl, fun j i hi => ?_⟩
      have := hm (j + 1) i (by simpa using hi)
      rwa [show n + 1 + j = n + (j + 1) by omega]
    refine ⟨xs, fun n => .cells 1 (avs (n + 1)) :: bs (n + 1), ⟨gb, o, cap * 1, 1⟩ :: is, fun n => .slice (some ⟨n, 0, none⟩) xs.length xs.length, fun D m n hD hm => ?_, fun Fz h n hF hh => ?_, fun D m n hD hm j b hb => ?_, fun n j b i hb hi hd => ?_, fun n => by simp [as.len]⟩
    · have e := (sI m n hm).1
      have := VR.slice (D := D) (m := m) n 0 xs.length xs.length cap (sD D n (by simpa using hD)).1 (Nat.le_refl _) (by omega) (.inr (by rw [e]; simp))
      rw [e] at this
      rw [hxl] at this ⊢
      exact this
    · have hs := as.vl Fz h (n + 1) (sD Fz n (by simpa using hF)).2 (fun j b hb => by
        have := hh (j + 1) b (by simpa using hb)
        rwa [show n + 1 + j = n + (j + 1) by omega])
      have hlen := hs.len
      have hflat : (xs.map fun x => [F x]).flatten = xs.map F := by
        clear hlen hs as hxl
        induction xs with
        | nil => rfl
        | cons a t ih => simp [ih]
      have h0' := hh 0 (.cells 1 (avs (n + 1))) rfl
      have := VL.list (Fz := Fz) (h := h) noL 1 (xs.map fun x => [F x]) n 0 xs.length (avs (n + 1)) 1 (sD Fz n (by simpa using hF)).1 h0' (.inl rfl) (fun r hr => by obtain ⟨x, _, rfl⟩ := List.mem_map.1 hr; rfl) (by simp) (by simp only [List.length_map] at hlen ⊢; omega) (fun j p x hp hx => by
        rw [hflat] at hp
        rw [Nat.zero_add] at hx
        exact hs.at' j p x hp hx)
      rw [List.length_map] at this
      exact this
    · cases j with
      | zero =>
        obtain rfl := Option.some.inj hb
        have e := (sI m n hm).1
        have hv := as.vr D m (n + 1) (sD D n (by simpa using hD)).2 (sI m n hm).2
        rw [Nat.add_zero]
        refine ⟨by rw [e], fun i v hi => ?_⟩
        obtain ⟨v', h1, h2⟩ := hv.at hi
        refine ⟨v', ?_, h2⟩
        rw [e]
        exact (hq i v' h1).1
      | succ j =>
        have := as.ok D m (n + 1) (sD D n (by simpa using hD)).2 (sI m n hm).2 j b (by simpa using hb)
        rwa [show n + 1 + j = n + (j + 1) by omega] at this
    · cases j with
      | zero =>
        obtain rfl := Option.some.inj hi
        exact hgb
      | succ j => exact as.lt _ j b i (by simpa using hb) (by simpa using hi) hd
/-- a slice of ints that can be read -/
theorem open_ints {P : Program} {t te : TypeId} (ht : P.underlying t = some (.slice te)) (hte : P.underlying te = some (.int .i64)) (hC : P.cellsOf te = 1) {f : Int → List TV} (hf : ∀ x, f x = [.v (.int .i64 x)])
    {v' : Value} {fuel : Nat} {x : DataW H × List MemPlace} (h : DataW.trod enc P W base spare held fuel t [v'] = some x) : ∃ (xs : List Int) (bs : Nat → List Blk) (is : List Info) (av : Nat → Value), NArg W v' (.list 1 (xs.map f)) bs is av := by
  obtain rfl : f = fun x => [.v (.int .i64 x)] := funext hf
  exact open_lists (F := fun x : Int => .v (.int .i64 x)) ht hC (fun n c y hy => by
    obtain ⟨z, hz, _⟩ := DataW.trod_int hte hy
    obtain rfl : c = .int .i64 z := by simpa using hz
    exact ⟨z, _, _, _, (Arg.atom (atomV_int .i64 z)).n⟩) h
end

theorem NArgs.append {W : World} {vs1 : List Value} {ps1 : List TV} {bs bs2 : Nat → List Blk} {is is2 : List Info} {av avs : Nat → List Value} {vs' : List Value} {ps : List TV}
    (a : NArgs W vs1 ps1 bs is av) (as : NArgs W vs' ps bs2 is2 avs) : NArgs W (vs1 ++ vs') (ps1 ++ ps) (fun n => bs n ++ bs2 (n + is.length)) (is ++ is2) (fun n => av n ++ avs (n + is.length)) := by
  have cD : ∀ (D : Nat → Prop) n, (∀ j, j < (is ++ is2).length → D (n + j)) → (∀ j, j < is.length → D (n + j)) ∧ (∀ j, j < is2.length → D (n + is.length + j)) := by
    intro D n h
    refine ⟨fun j hj => h j (by simp; omega), fun j hj => ?_⟩
    have := h (is.length + j) (by simp; omega)
    rwa [← Nat.add_assoc] at this
  have cI : ∀ (m : NMap) n, (∀ (j : Nat) i, (is ++ is2)[j]? = some i → m (n + j) = i) → (∀ (j : Nat) i, is[j]? = some i → m (n + j) = i) ∧ (∀ (j : Nat) i, is2[j]? = some i → m (n + is.length + j) = i) := by
    intro m n h
    refine ⟨fun j i hj => h j i (by rw [List.getElem?_append_left (List.getElem?_eq_some_iff.1 hj).1]; exact hj), fun j i hj => ?_⟩
    have := h (is.length + j) i (by rw [List.getElem?_append_right (by omega), Nat.add_sub_cancel_left]; exact hj)
    rwa [← Nat.add_assoc] at this
  refine ⟨fun D m n hD hm => ?_, fun Fz h n hF hh => ?_, fun D m n hD hm j b hb => ?_, fun n j b i hb hi hd => ?_, fun n => by simp [a.len, as.len]⟩
  · exact (a.vr D m n (cD D n hD).1 (cI m n hm).1).append (as.vr D m (n + is.length) (cD D n hD).2 (cI m n hm).2)
  · refine (a.vl Fz h n (cD Fz n hF).1 fun j b hb => hh j b (by rw [List.getElem?_append_left (List.getElem?_eq_some_iff.1 hb).1]; exact hb)).append (as.vl Fz h (n + is.length) (cD Fz n hF).2 fun j b hb => ?_)
    have := hh (is.length + j) b (by rw [List.getElem?_append_right (by rw [a.len]; omega), a.len, Nat.add_sub_cancel_left]; exact hb)
    rwa [← Nat.add_assoc] at this
  · rcases Nat.lt_or_ge j is.length with hj | hj
    · rw [List.getElem?_append_left (by rw [a.len]; exact hj)] at hb
      exact a.ok D m n (cD D n hD).1 (cI m n hm).1 j b hb
    · rw [List.getElem?_append_right (by rw [a.len]; exact hj), a.len] at hb
      have := as.ok D m (n + is.length) (cD D n hD).2 (cI m n hm).2 _ b hb
      rwa [show n + is.length + (j - is.length) = n + j by omega] at this
  · rcases Nat.lt_or_ge j is.length with hj | hj
    · rw [List.getElem?_append_left (by rw [a.len]; exact hj)] at hb
      rw [List.getElem?_append_left hj] at hi
      exact a.lt n j b i hb hi hd
    · rw [List.getElem?_append_right (by rw [a.len]; exact hj), a.len] at hb
      rw [List.getElem?_append_right hj] at hi
      exact as.lt _ _ b i hb hi hd
/-- rows of values that can be read -/
theorem nargs_rows {W : World} {α : Type} {F : α → List TV} : ∀ (rows : List (List Value)), (∀ r ∈ rows, ∃ (x : α) (bs : Nat → List Blk) (is : List Info) (av : Nat → List Value), NArgs W r (F x) bs is av) →
    ∃ (xs : List α) (bs : Nat → List Blk) (is : List Info) (av : Nat → List Value), xs.length = rows.length ∧ NArgs W rows.flatten (xs.map F).flatten bs is av
  | [], _ => ⟨[], _, _, _, rfl, NArgs.nil W⟩
  | r :: t, h => by
    obtain ⟨xs, _, _, _, hl, a⟩ := nargs_rows t (fun c hc => h c (by simp [hc]))
    obtain ⟨x, _, _, _, b⟩ := h r (by simp)
    exact ⟨x :: xs, _, _, _, by simp [hl], NArgs.append b a⟩
theorem flatN_at {α : Type} {es : Nat} : ∀ (rows : List (List α)) (_ : ∀ r ∈ rows, r.length = es) (i j : Nat), j < es → rows.flatten[i * es + j]? = (rows[i]?).bind (·[j]?)
  | [], _, i, j, _ => by simp
  | r :: t, h, 0, j, hj => by
    have := h r (by simp)
    rw [Nat.zero_mul, Nat.zero_add, List.flatten_cons, List.getElem?_append_left (by omega)]
    rfl
  | r :: t, h, i + 1, j, hj => by
    have hr := h r (by simp)
    rw [List.flatten_cons, List.getElem?_append_right (by rw [Nat.add_mul]; omega), show (i + 1) * es + j - r.length = i * es + j by rw [Nat.add_mul]; omega]
    exact flatN_at t (fun r hr => h r (by simp [hr])) i j hj
section
variable {H : Type} {enc : TypeId × Value → H} {W : World} {base : Nat} {spare : Nat → Bool} {held : Bool}
/-- a slice of structures that can be read as trees -/
theorem open_rowsN {α : Type} {F : α → List TV} {es : Nat} (he : 0 < es) (hF : ∀ x, (F x).length = es) {P : Program} {t te : TypeId} (ht : P.underlying t = some (.slice te)) (hC : P.cellsOf te = es)
    (elem : ∀ n cs y, cs.length = es → DataW.trod enc P W base spare held n te cs = some y → ∃ (x : α) (bs : Nat → List Blk) (is : List Info) (av : Nat → List Value), NArgs W cs (F x) bs is av)
    {v' : Value} {fuel : Nat} {x : DataW H × List MemPlace} (h : DataW.trod enc P W base spare held fuel t [v'] = some x) : ∃ (xs : List α) (bs : Nat → List Blk) (is : List Info) (av : Nat → Value), NArg W v' (.list es (xs.map F)) bs is av := by
  rcases open_any ht he hC h with rfl | ⟨a, c, rfl⟩ | ⟨gb, o, len, cap, n, rfl, h0, hlc, hgb, key⟩
  · exact ⟨[], fun _ => [], [], fun _ => .slice none 0 0, fun _ _ _ _ _ => .nilSlice 0 0, fun _ _ _ _ _ => .nillist _ _, fun _ _ _ _ _ j b h => by simp at h, fun _ j b i h => by simp at h, fun _ => rfl⟩
  · exact ⟨[], fun _ => [], [], fun _ => vag, fun _ _ _ _ _ => .vague a c, fun _ _ _ _ _ => .vague _ _, fun _ _ _ _ _ j b h => by simp at h, fun _ j b i h => by simp at h, fun _ => rfl⟩
  · obtain ⟨rows, hrl, hq⟩ := choose_list len key
    have hw : ∀ r ∈ rows, r.length = es := fun r hr => by
      obtain ⟨i, hi, rfl⟩ := List.mem_iff_getElem.1 hr
      obtain ⟨y, h1, _⟩ := hq i _ (List.getElem?_eq_getElem hi)
      exact h1
    obtain ⟨xs, bs, is, avs, hxl, as⟩ := nargs_rows (W := W) (F := F) rows (fun c hc => by
      obtain ⟨i, hi, rfl⟩ := List.mem_iff_getElem.1 hc
      obtain ⟨y, h1, h2, _⟩ := hq i _ (List.getElem?_eq_getElem hi)
      exact elem n _ y h1 h2)
    have hcell : ∀ i v, rows.flatten[i]? = some v → W.cell? ⟨gb, o + i, none⟩ = some v := fun i v hv => by
      have e : i = i / es * es + i % es := by rw [Nat.mul_comm]; exact (Nat.div_add_mod i es).symm
      rw [e, flatN_at rows hw _ _ (Nat.mod_lt _ he)] at hv
      obtain ⟨r, hr, hv⟩ := Option.bind_eq_some_iff.1 hv
      obtain ⟨y, h1, h2, h3⟩ := hq _ _ hr
      have := h3 (i % es) (Nat.mod_lt _ he)
      rw [hv] at this
      rw [← this]
      congr 2
      omega
    subst hrl
    have sD : ∀ (D : Nat → Prop) n, (∀ j, j < is.length + 1 → D (n + j)) → D n ∧ ∀ j, j < is.length → D (n + 1 + j) := by
      intro D n hD
      refine ⟨by simpa using hD 0 (by omega), fun j hj => ?_⟩
      have := hD (j + 1) (by omega)
      rwa [show n + 1 + j = n + (j + 1) by omega]
    have sI : ∀ (m : NMap) n, (∀ (j : Nat) i, ((⟨gb, o, cap * es, es⟩ : Info) :: is)[j]? = some i → m (n + j) = i) → m n = ⟨gb, o, cap * es, es⟩ ∧ ∀ (j : Nat) i, is[j]? = some i → m (n + 1 + j) = i := by
      intro m n hm
      refine ⟨by simpa using hm 0 _ rfl, fun j i hi => ?_⟩
      have := hm (j + 1) i (by simpa using hi)
      rwa [show n + 1 + j = n + (j + 1) by omega]
    refine ⟨xs, fun n => .cells es (avs (n + 1)) :: bs (n + 1), ⟨gb, o, cap * es, es⟩ :: is, fun n => .slice (some ⟨n, 0, none⟩) xs.length xs.length, fun D m n hD hm => ?_, fun Fz h n hF' hh => ?_, fun D m n hD hm j b hb => ?_, fun n j b i hb hi hd => ?_, fun n => by simp [as.len]⟩
    · have e := (sI m n hm).1
      have := VR.slice (D := D) (m := m) n 0 xs.length xs.length cap (sD D n (by simpa using hD)).1 (Nat.le_refl _) (by omega) (.inr (by rw [e]; simp))
      rw [e] at this
      rw [hxl] at this ⊢
      exact this
    · have hs := as.vl Fz h (n + 1) (sD Fz n (by simpa using hF')).2 (fun j b hb => by
        have := hh (j + 1) b (by simpa using hb)
        rwa [show n + 1 + j = n + (j + 1) by omega])
      have hlen := hs.len
      have hfl : ((xs.map F).flatten).length = xs.length * es := by
        clear hlen hs as hxl
        induction xs with
        | nil => simp
        | cons a t ih => simp only [List.map_cons, List.flatten_cons, List.length_append, hF, ih, List.length_cons, Nat.add_mul]; omega
      have h0' := hh 0 (.cells es (avs (n + 1))) rfl
      have := VL.list (Fz := Fz) (h := h) noL es (xs.map F) n 0 xs.length (avs (n + 1)) es (sD Fz n (by simpa using hF')).1 h0' (.inl rfl) (fun r hr => by obtain ⟨x, _, rfl⟩ := List.mem_map.1 hr; exact hF x) (by simp) (by simp only [List.length_map] at hlen ⊢; omega) (fun j p x hp hx => by
        rw [Nat.zero_add] at hx
        exact hs.at' j p x hp hx)
      rw [List.length_map] at this
      exact this
    · cases j with
      | zero =>
        obtain rfl := Option.some.inj hb
        have e := (sI m n hm).1
        have hv := as.vr D m (n + 1) (sD D n (by simpa using hD)).2 (sI m n hm).2
        rw [Nat.add_zero]
        refine ⟨by rw [e], fun i v hi => ?_⟩
        obtain ⟨v', h1, h2⟩ := hv.at hi
        refine ⟨v', ?_, h2⟩
        rw [e]
        exact hcell i v' h1
      | succ j =>
        have := as.ok D m (n + 1) (sD D n (by simpa using hD)).2 (sI m n hm).2 j b (by simpa using hb)
        rwa [show n + 1 + j = n + (j + 1) by omega] at this
    · cases j with
      | zero =>
        obtain rfl := Option.some.inj hi
        exact hgb
      | succ j => exact as.lt _ j b i (by simpa using hb) (by simpa using hi) hd
end
end Go.Rex
