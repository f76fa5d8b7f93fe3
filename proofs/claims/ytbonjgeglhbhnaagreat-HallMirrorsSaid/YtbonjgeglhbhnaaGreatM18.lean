/- Contracts of sheets. -/
import Derived.Test.YtbonjgeglhbhnaaGreatM10
import Derived.Test.YtbonjgeglhbhnaaGreatM02
import Derived.Test.YtbonjgeglhbhnaaGreatM03
set_option linter.unusedVariables false
set_option linter.unusedSimpArgs false
namespace Go.Proofs.YtbonjgeglhbhnaaGreat
open Go.RowKit

theorem mul_szS {p a A B : Int} (hp : -A ≤ p ∧ p ≤ A) (ha : -B ≤ a ∧ a ≤ B) (hA : 0 ≤ A) (hB : 0 ≤ B) : -(A * B) ≤ p * a ∧ p * a ≤ A * B := by
  rcases Int.le_total 0 a with h | h
  · exact mul_bd hp ⟨h, ha.2⟩ hA
  · have := mul_bd (n := -a) hp ⟨by omega, by omega⟩ hA (N := B)
    rw [Int.mul_neg] at this
    omega

/-- a canopy as a value -/
def canV (n m : ByteArray) (a b c d : Int) (v : Value) : Value := .agg #[.string n, .string m, .int .i64 a, .int .i64 b, .int .i64 c, .int .i64 d, v]

set_option maxRecDepth 100000 in set_option maxHeartbeats 1000000 in
theorem sheetOf_any (n m : ByteArray) (a b c d : Int) (v : Value) (hv : ∃ A l k, v = .slice A l k) (w : World) :
    Calls Tryz.prog 120 #[canV n m a b c d v] w (RetX w (.agg #[.int .i64 (min a c), .int .i64 (min b d), .int .i64 (max a c), .int .i64 (max b d)])) := by
  obtain ⟨A, l, k, rfl⟩ := hv
  unfold canV
  rcases Int.lt_trichotomy a c with h1 | rfl | h1 <;> rcases Int.lt_trichotomy b d with h2 | rfl | h2
  all_goals
    go_enter Tryz.func120, Tryz.ntmps120
    go_wp2
    refine bodyPost_ret (v := .agg #[.int .i64 (min a _), .int .i64 (min b _), .int .i64 (max a _), .int .i64 (max b _)]) (by simp [results, Tryz.results120, go_sem, Int.min_def, Int.max_def]; all_goals omega) rfl (retX rfl ?_)
    (repeat' (first | (with_reducible exact Below.refl _ _) | (with_reducible assumption) | (with_reducible refine Below.drew ?_) | (with_reducible refine Below.drewNStep ?_ _) | (with_reducible refine Below.alloc ?_ ?_ _) | (with_reducible refine Below.setCell ?_ ?_ _) | (with_reducible refine Below.extStep ?_ ?_ _) | (simp; done) | (simp; omega)))

set_option maxRecDepth 100000 in set_option maxHeartbeats 1000000 in
theorem area_any (a b c d : Int) (h1 : -5000 ≤ a ∧ a ≤ 5000) (h2 : -5000 ≤ b ∧ b ≤ 5000) (h3 : -5000 ≤ c ∧ c ≤ 5000) (h4 : -5000 ≤ d ∧ d ≤ 5000) (w : World) :
    Calls Tryz.prog 148 #[.agg #[.int .i64 a, .int .i64 b, .int .i64 c, .int .i64 d]] w (RetX w (.int .i64 ((c - a) * (d - b)))) := by
  have m := mul_szS (p := c - a) (a := d - b) (A := 10000) (B := 10000) (by omega) (by omega) (by omega) (by omega)
  have e1 : IntKind.i64.wrap (c - a) = c - a := IntWalk.i64_in _ (by omega)
  have e2 : IntKind.i64.wrap (d - b) = d - b := IntWalk.i64_in _ (by omega)
  go_enter Tryz.func148, Tryz.ntmps148
  go_wp2
  go_ret
  refine retX_int rfl ?_
  (repeat' (first | (with_reducible exact Below.refl _ _) | (with_reducible assumption) | (with_reducible refine Below.drew ?_) | (with_reducible refine Below.drewNStep ?_ _) | (with_reducible refine Below.alloc ?_ ?_ _) | (with_reducible refine Below.setCell ?_ ?_ _) | (with_reducible refine Below.extStep ?_ ?_ _) | (simp; done) | (simp; omega)))

def sheetB (a b c d x y n : Int) : Bool := decide (a * n ≤ x) && decide (x ≤ c * n) && (decide (b * n ≤ y) && decide (y ≤ d * n))
def sheetWellB (a b c d x y n : Int) : Bool := decide (a * n < x) && decide (x < c * n) && (decide (b * n < y) && decide (y < d * n))
set_option maxRecDepth 100000 in set_option maxHeartbeats 1000000 in
theorem sheet_holds_any (a b c d x y z n : Int) (w : World) (h1 : -5000 ≤ a ∧ a ≤ 5000) (h2 : -5000 ≤ b ∧ b ≤ 5000) (h3 : -5000 ≤ c ∧ c ≤ 5000) (h4 : -5000 ≤ d ∧ d ≤ 5000) (h5 : 0 ≤ n ∧ n ≤ 1000000000000000) :
    Calls Tryz.prog 154 #[.agg #[.int .i64 a, .int .i64 b, .int .i64 c, .int .i64 d], .agg #[.int .i64 x, .int .i64 y, .int .i64 z, .int .i64 n]] w (RetX w (.bool (sheetB a b c d x y n))) := by
  obtain ⟨_, _⟩ := mul_bd h1 h5 (by omega); obtain ⟨_, _⟩ := mul_bd h2 h5 (by omega); obtain ⟨_, _⟩ := mul_bd h3 h5 (by omega); obtain ⟨_, _⟩ := mul_bd h4 h5 (by omega)
  clear h1 h2 h3 h4 h5
  go_enter Tryz.func154, Tryz.ntmps154
  go_wp2
  all_goals (go_ret; refine retX_bool (by rw [Bool.eq_iff_iff]; simp [sheetB]; omega) ?_; (repeat' (first | (with_reducible exact Below.refl _ _) | (with_reducible assumption) | (with_reducible refine Below.drew ?_) | (with_reducible refine Below.drewNStep ?_ _) | (with_reducible refine Below.alloc ?_ ?_ _) | (with_reducible refine Below.setCell ?_ ?_ _) | (with_reducible refine Below.extStep ?_ ?_ _) | (simp; done) | (simp; omega))))
set_option maxRecDepth 100000 in set_option maxHeartbeats 1000000 in
theorem sheet_holdsWell_any (a b c d x y z n : Int) (w : World) (h1 : -5000 ≤ a ∧ a ≤ 5000) (h2 : -5000 ≤ b ∧ b ≤ 5000) (h3 : -5000 ≤ c ∧ c ≤ 5000) (h4 : -5000 ≤ d ∧ d ≤ 5000) (h5 : 0 ≤ n ∧ n ≤ 1000000000000000) :
    Calls Tryz.prog 149 #[.agg #[.int .i64 a, .int .i64 b, .int .i64 c, .int .i64 d], .agg #[.int .i64 x, .int .i64 y, .int .i64 z, .int .i64 n]] w (RetX w (.bool (sheetWellB a b c d x y n))) := by
  obtain ⟨_, _⟩ := mul_bd h1 h5 (by omega); obtain ⟨_, _⟩ := mul_bd h2 h5 (by omega); obtain ⟨_, _⟩ := mul_bd h3 h5 (by omega); obtain ⟨_, _⟩ := mul_bd h4 h5 (by omega)
  clear h1 h2 h3 h4 h5
  go_enter Tryz.func149, Tryz.ntmps149
  go_wp2
  all_goals (go_ret; refine retX_bool (by rw [Bool.eq_iff_iff]; simp [sheetWellB]; omega) ?_; (repeat' (first | (with_reducible exact Below.refl _ _) | (with_reducible assumption) | (with_reducible refine Below.drew ?_) | (with_reducible refine Below.drewNStep ?_ _) | (with_reducible refine Below.alloc ?_ ?_ _) | (with_reducible refine Below.setCell ?_ ?_ _) | (with_reducible refine Below.extStep ?_ ?_ _) | (simp; done) | (simp; omega))))
end Go.Proofs.YtbonjgeglhbhnaaGreat
