/- What these functions return: facts on lists and numbers. -/
import Derived.Test.YtnnmnciaopaciaaTexR
import Derived.Test.YtnnmnciaopaciaaS
set_option linter.unusedSimpArgs false
set_option linter.unusedVariables false
namespace Go.Rex
/-! ### plain facts for shallow functions -/
theorem w64 {x : Int} (h : -9223372036854775808 ≤ x ∧ x ≤ 9223372036854775807) : IntKind.i64.wrap x = x := IntWalk.i64_in x (by omega)
/-- a loop that counts -/
theorem run_count {σ ε : Type} {step : σ → Option (σ ⊕ ε)} (f : Nat → σ) {n : Nat} {e : ε} (h : ∀ k, k < n → step (f k) = some (.inl (f (k + 1)))) (hn : step (f n) = some (.inr e)) : run step (f 0) = some e := by
  suffices H : ∀ j k, n - k = j → k ≤ n → run step (f k) = some e from H n 0 (by omega) (Nat.zero_le _)
  intro j
  induction j with
  | zero => intro k hj hk; obtain rfl : k = n := by omega
            exact run_stop hn
  | succ j ih => intro k hj hk; rw [run_next (h k (by omega))]; exact ih (k + 1) (by omega) (by omega)
/-- a loop that ends early -/
theorem run_until {σ ε : Type} {step : σ → Option (σ ⊕ ε)} (f : Nat → σ) {m : Nat} {e : ε} (h : ∀ k, k < m → step (f k) = some (.inl (f (k + 1)))) (hm : step (f m) = some (.inr e)) : run step (f 0) = some e := run_count f h hm
theorem getI_nat {α : Type} {xs : List α} {k : Nat} : getI xs (k : Int) = xs[k]? := by
  unfold getI
  rw [if_pos (by omega), Int.toNat_natCast]
theorem getI_of {α : Type} {xs : List α} {i : Int} {k : Nat} (h : i = (k : Int)) : getI xs i = xs[k]? := by subst h; exact getI_nat
theorem appI_one {α : Type} {b : Nat} {xs : List α} {y : α} (h : xs.length < 2 ^ 40) (hb : b ≤ 128) : appI b xs [y] = some (xs ++ [y]) := by
  unfold appI
  rw [if_pos]
  refine ⟨by simp; omega, ?_⟩
  have h1 : (xs.length + [y].length) * b ≤ 2 ^ 40 * 128 := Nat.mul_le_mul (by simp; omega) hb
  omega
end Go.Rex

namespace Go.Rex
open Go Go.Rex
theorem sameSamples_refl (xs : List (Nat × Nat)) (hl : xs.length < 2 ^ 40) (h : ∀ p ∈ xs, (f2f .f32 p.1 .f64).isSome = true ∧ (f2f .f32 p.2 .f64).isSome = true) : base_SameSamples xs xs = some true := by
  unfold base_SameSamples
  rw [if_neg (by simp)]
  have : run (base_SameSamples_l1 xs xs) 0 = some (.inr ()) := by
    refine run_count (fun k => (k : Int)) (n := xs.length) (fun k hk => ?_) ?_
    · obtain ⟨h1, h2⟩ := h xs[k] (List.getElem_mem hk)
      obtain ⟨a, ha⟩ := Option.isSome_iff_exists.1 h1
      obtain ⟨b, hb⟩ := Option.isSome_iff_exists.1 h2
      simp only [base_SameSamples_l1]
      rw [if_pos (by simpa using hk), getI_nat, List.getElem?_eq_getElem hk]
      simp only [Option.bind_some, ha, hb, base_SameBits, decide_true, if_true]
      rw [w64 (by omega)]
      simp
    · simp only [base_SameSamples_l1]
      rw [if_neg (by simp)]
  rw [this]
  rfl

end Go.Rex

namespace Go.Rex
open Go Go.Rex
theorem within_pulse (v a b : Int) : pulse_within v a b = some (decide (v < a ∨ v > b), 2) := by
  unfold pulse_within pulse_refuse
  by_cases h : v < a <;> simp [h]
theorem within_base (v a b : Int) : base_Within v a b = some (decide (a ≤ v ∧ v ≤ b)) := by
  unfold base_Within
  by_cases h : a ≤ v <;> simp [h]
/-- how many quarter turns at a time -/
def turnsAt (s : Nat) : Nat → Nat
  | 0 => 0
  | t + 1 => turnsAt s t + t / s
theorem turns_le (s : Nat) : ∀ t, t ≤ 1024 → turnsAt s t ≤ t * 1024
  | 0, _ => by simp [turnsAt]
  | t + 1, h => by
    have h1 := turns_le s t (by omega)
    have h2 := Nat.div_le_self t s
    simp only [turnsAt, Nat.succ_mul]
    omega
def quarterF (q : Nat) : Nat × Nat := [(1065353216, 0), (0, 1065353216), (3212836864, 0), (0, 3212836864)][q % 4]?.getD (0, 0)
def quarterI (q : Nat) : Int × Int := [(1, 0), (0, 1), (-1, 0), (0, -1)][q % 4]?.getD (0, 0)
def chirpF (s n : Nat) : List (Nat × Nat) := (List.range n).map fun t => quarterF (turnsAt s (t + 1))
def chirpI (s n : Nat) : List (Int × Int) := (List.range n).map fun t => quarterI (turnsAt s (t + 1))
theorem mod4_cases (q : Nat) : q % 4 = 0 ∨ q % 4 = 1 ∨ q % 4 = 2 ∨ q % 4 = 3 := by omega
theorem near0 : FloatKind.f32.nearest 0 = 0 := by kernel_rfl
theorem near1 : FloatKind.f32.nearest 1 = 1065353216 := by kernel_rfl
theorem nearm : FloatKind.f32.nearest (-1) = 3212836864 := by kernel_rfl
theorem quarter_told (q : Nat) : (FloatKind.f32.nearest (quarterI q).1, FloatKind.f32.nearest (quarterI q).2) = quarterF q := by
  unfold quarterI quarterF
  rcases mod4_cases q with h | h | h | h <;> simp [h, near0, near1, nearm]
theorem step_turns {s t : Nat} (ht : t < 1024) : IntKind.i64.wrap ((turnsAt s t : Int) + IntKind.i64.wrap ((t : Int).tdiv s)) = (turnsAt s (t + 1) : Int) := by
  have h1 : (t : Int).tdiv s = ((t / s : Nat) : Int) := by simp
  have h2 := Nat.div_le_self t s
  have h3 := turns_le s t (by omega)
  rw [h1]
  simp only [turnsAt]
  generalize t / s = q at *
  rw [w64 (x := (q : Int)) (by omega), w64 (by omega)]
  omega
theorem chirp_len (s n : Nat) : (chirpF s n).length = n := by simp [chirpF]
theorem chirp_succ (s n : Nat) : chirpF s (n + 1) = chirpF s n ++ [quarterF (turnsAt s (n + 1))] := by simp [chirpF, List.range_succ]
theorem chirpI_len (s n : Nat) : (chirpI s n).length = n := by simp [chirpI]
theorem chirpI_succ (s n : Nat) : chirpI s (n + 1) = chirpI s n ++ [quarterI (turnsAt s (n + 1))] := by simp [chirpI, List.range_succ]
theorem chirpP (c s : Int) : pulse_Chirp c s = if 1 ≤ c ∧ c ≤ 1024 ∧ 1 ≤ s ∧ s ≤ 1000 then some (chirpF s.toNat c.toNat, 0) else some ([], 2) := by
  unfold pulse_Chirp
  simp only [within_pulse, Option.bind_some, pulse_firstError_5168, pulse_refuse_c1_677d]
  by_cases h1 : c < 1 ∨ c > 1024
  · have hn : ¬ (1 ≤ c ∧ c ≤ 1024 ∧ 1 ≤ s ∧ s ≤ 1000) := by omega
    rw [if_neg hn]
    by_cases h2 : s < 1 ∨ s > 1000 <;> simp [h1, h2]
  · by_cases h2 : s < 1 ∨ s > 1000
    · have hn : ¬ (1 ≤ c ∧ c ≤ 1024 ∧ 1 ≤ s ∧ s ≤ 1000) := by omega
      rw [if_neg hn]
      simp [h1, h2]
    · have hp : 1 ≤ c ∧ c ≤ 1024 ∧ 1 ≤ s ∧ s ≤ 1000 := by omega
      rw [if_pos hp]
      obtain ⟨n, rfl⟩ : ∃ n : Nat, c = n := ⟨c.toNat, by omega⟩
      obtain ⟨k, rfl⟩ : ∃ k : Nat, s = k := ⟨s.toNat, by omega⟩
      have : run (pulse_Chirp_l1 n k) ([], 0, 0) = some (chirpF k n) := by
        refine run_count (fun t => (chirpF k t, (turnsAt k t : Int), (t : Int))) (n := n) (fun t ht => ?_) ?_
        · simp only [pulse_Chirp_l1]
          rw [if_pos (by simpa using ht), if_neg (by omega), step_turns (by omega)]
          rw [getI_of (k := turnsAt k (t + 1) % 4) (by rw [Int.tmod_eq_emod_of_nonneg (by omega)]; omega)]
          have hq : ∃ p, [((1065353216 : Nat), (0 : Nat)), (0, 1065353216), (3212836864, 0), (0, 3212836864)][turnsAt k (t + 1) % 4]? = some p := by
            rcases mod4_cases (turnsAt k (t + 1)) with h | h | h | h <;> rw [h] <;> exact ⟨_, rfl⟩
          obtain ⟨⟨a, b⟩, hp⟩ := hq
          have hq2 : quarterF (turnsAt k (t + 1)) = (a, b) := by unfold quarterF; rw [hp]; rfl
          rw [hp]
          simp only [Option.bind_some]
          rw [appI_one (by rw [chirp_len]; omega) (by omega)]
          simp only [Option.bind_some]
          rw [w64 (by omega), chirp_succ, hq2]
          simp
        · simp only [pulse_Chirp_l1]
          rw [if_neg (by simp)]
      simp [h1, h2, this]
theorem quarterR {q : Int} (k : Nat) (h : q = (k : Int)) : ref04_quarter q = some (quarterI k) := by
  unfold ref04_quarter
  subst h
  rw [getI_of (k := k % 4) (by rw [Int.tmod_eq_emod_of_nonneg (by omega)]; omega)]
  unfold quarterI
  rcases mod4_cases k with h | h | h | h <;> simp [h]
theorem size_small {x : Int} (h : -1 ≤ x ∧ x ≤ 1) : ∃ y, base_Size x = some y ∧ y ≤ 1 := by
  unfold base_Size
  rw [w64 (by omega)]
  refine ⟨_, rfl, ?_⟩
  by_cases h1 : 0 - x > x <;> simp only [h1, if_true, if_false] <;> omega
theorem quarterI_le (q : Nat) : (-1 ≤ (quarterI q).1 ∧ (quarterI q).1 ≤ 1) ∧ (-1 ≤ (quarterI q).2 ∧ (quarterI q).2 ≤ 1) := by
  unfold quarterI
  rcases mod4_cases q with h | h | h | h <;> simp [h]
/-- the numbers, told -/
theorem numbersR (k n : Nat) (hn : n ≤ 1024) : ref04_numbers (chirpI k n) = some (chirpF k n, true) := by
  unfold ref04_numbers
  have : run (ref04_numbers_l1 (chirpI k n)) ([], 0) = some (.inr (chirpF k n)) := by
    refine run_count (fun t => (chirpF k t, (t : Int))) (n := n) (fun t ht => ?_) ?_
    · simp only [ref04_numbers_l1]
      rw [if_pos (by simpa [chirpI_len] using ht), getI_nat]
      have hg : (chirpI k n)[t]? = some (quarterI (turnsAt k (t + 1))) := by simp [chirpI, ht]
      rw [hg]
      obtain ⟨⟨a1, a2⟩, b1, b2⟩ := quarterI_le (turnsAt k (t + 1))
      obtain ⟨y, hy, hy1⟩ := size_small ⟨a1, a2⟩
      obtain ⟨z, hz, hz1⟩ := size_small ⟨b1, b2⟩
      simp only [Option.bind_some, hy, hz]
      rw [if_neg (by simp; omega), if_neg (by simp; omega), appI_one (by rw [chirp_len]; omega) (by omega), quarter_told]
      simp only [Option.bind_some]
      rw [w64 (by omega), chirp_succ]
      simp
    · simp only [ref04_numbers_l1]
      rw [if_neg (by simp [chirpI_len])]
  rw [this]
  rfl
theorem chirpR (c s : Int) : ref04_Chirp c s = if 1 ≤ c ∧ c ≤ 1024 ∧ 1 ≤ s ∧ s ≤ 1000 then some (chirpF s.toNat c.toNat, 0) else some ([], 2) := by
  unfold ref04_Chirp
  simp only [within_base, Option.bind_some]
  by_cases h1 : 1 ≤ c ∧ c ≤ 1024
  · by_cases h2 : 1 ≤ s ∧ s ≤ 1000
    · have hp : 1 ≤ c ∧ c ≤ 1024 ∧ 1 ≤ s ∧ s ≤ 1000 := by omega
      rw [if_pos hp]
      obtain ⟨n, rfl⟩ : ∃ n : Nat, c = n := ⟨c.toNat, by omega⟩
      obtain ⟨k, rfl⟩ : ∃ k : Nat, s = k := ⟨s.toNat, by omega⟩
      have : run (ref04_Chirp_l1 n k) ([], 0, 0) = some (chirpI k n) := by
        refine run_count (fun t => (chirpI k t, (turnsAt k t : Int), (t : Int))) (n := n) (fun t ht => ?_) ?_
        · simp only [ref04_Chirp_l1]
          rw [if_pos (by simpa using ht), if_neg (by omega), step_turns (by omega), quarterR _ rfl]
          simp only [Option.bind_some]
          rw [appI_one (by rw [chirpI_len]; omega) (by omega)]
          simp only [Option.bind_some]
          rw [w64 (by omega), chirpI_succ]
          simp
        · simp only [ref04_Chirp_l1]
          rw [if_neg (by simp)]
      simp [h1, h2, this, ref04_told, numbersR k n (by omega)]
    · have hn : ¬ (1 ≤ c ∧ c ≤ 1024 ∧ 1 ≤ s ∧ s ≤ 1000) := by omega
      rw [if_neg hn]
      simp [h1, h2]
  · have hn : ¬ (1 ≤ c ∧ c ≤ 1024 ∧ 1 ≤ s ∧ s ≤ 1000) := by omega
    rw [if_neg hn]
    simp [h1]
theorem fwide0 : (f2f .f32 0 .f64).isSome = true := by kernel_rfl
theorem fwide1 : (f2f .f32 1065353216 .f64).isSome = true := by kernel_rfl
theorem fwidem : (f2f .f32 3212836864 .f64).isSome = true := by kernel_rfl
theorem quarterF_wide (q : Nat) : (f2f .f32 (quarterF q).1 .f64).isSome = true ∧ (f2f .f32 (quarterF q).2 .f64).isSome = true := by
  unfold quarterF
  rcases mod4_cases q with h | h | h | h <;> simp [h, fwide0, fwide1, fwidem]
theorem chirp_same (k n : Nat) (hn : n ≤ 1024) : base_SameSamples (chirpF k n) (chirpF k n) = some true := by
  refine sameSamples_refl _ (by rw [chirp_len]; omega) fun p hp => ?_
  obtain ⟨t, _, rfl⟩ := List.mem_map.1 hp
  exact quarterF_wide _
theorem empty_same : base_SameSamples [] [] = some true := sameSamples_refl _ (by simp) fun p hp => by simp at hp
theorem chirps_true (c s : Int) : law04_PulseChirps c s = some true := by
  unfold law04_PulseChirps
  have key : ((pulse_Chirp c s).bind fun (v9, v10) =>
    (ref04_Chirp c s).bind fun (v11, v12) =>
    if (decide (v10 = v12)) = true then
      ((base_SameSamples v9 v11).bind fun v13 =>
      some (v13))
    else
      (some (false))) = some true := by
    rw [chirpP, chirpR]
    by_cases h : 1 ≤ c ∧ c ≤ 1024 ∧ 1 ≤ s ∧ s ≤ 1000
    · rw [if_pos h]
      simp [chirp_same _ _ (show c.toNat ≤ 1024 by omega)]
    · rw [if_neg h]
      simp [empty_same]
  by_cases h1 : c > 100
  · by_cases h2 : c ≤ 1024
    · simp [h1, h2]
    · simp only [h1, h2, decide_true, decide_false, if_true, Bool.false_eq_true, if_false]
      exact key
  · simp only [h1, decide_false, Bool.false_eq_true, if_false]
    exact key

end Go.Rex
