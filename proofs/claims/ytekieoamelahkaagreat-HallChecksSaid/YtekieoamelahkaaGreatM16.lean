/- Contracts of sheets. -/
import Derived.Test.YtekieoamelahkaaGreatM10
import Derived.Test.YtekieoamelahkaaGreatM02
import Derived.Test.YtekieoamelahkaaGreatM03
set_option maxRecDepth 100000
set_option maxHeartbeats 1000000
set_option linter.unusedVariables false
set_option linter.unusedSimpArgs false
namespace Go.Proofs.YtekieoamelahkaaGreat
open Go.RowKit

theorem mul_szS {p a A B : Int} (hp : -A ≤ p ∧ p ≤ A) (ha : -B ≤ a ∧ a ≤ B) (hA : 0 ≤ A) (hB : 0 ≤ B) : -(A * B) ≤ p * a ∧ p * a ≤ A * B := by
 rcases Int.le_total 0 a with h | h
 · exact mul_bd hp ⟨h, ha.2⟩ hA
 · have := mul_bd (n := -a) hp ⟨by omega, by omega⟩ hA (N := B)
   rw [Int.mul_neg] at this
   omega

def canV (n m : ByteArray) (a b c d : Int) (v : Value) : Value := .agg #[.string n, .string m, .int .i64 a, .int .i64 b, .int .i64 c, .int .i64 d, v]

theorem sheetOf_any (n m : ByteArray) (a b c d : Int) (v : Value) (hv : ∃ A l k, v = .slice A l k) (w : World) :
 Calls Tryz.prog 156 #[canV n m a b c d v] w (RetX w (.agg #[.int .i64 (min a c), .int .i64 (min b d), .int .i64 (max a c), .int .i64 (max b d)])) := by
 obtain ⟨A, l, k, rfl⟩ := hv
 unfold canV
 rcases Int.lt_trichotomy a c with h1 | rfl | h1 <;> rcases Int.lt_trichotomy b d with h2 | rfl | h2
 all_goals
  go_enter Tryz.func156, Tryz.ntmps156
  go_wp2
  refine bodyPost_ret (v := .agg #[.int .i64 (min a _), .int .i64 (min b _), .int .i64 (max a _), .int .i64 (max b _)]) (by simp [results, Tryz.results156, go_sem, Int.min_def, Int.max_def]; all_goals omega) rfl (retX rfl ?_)
  (repeat' first | with_reducible (first | apply bz0 | assumption | apply bz1 | apply bz2 | apply bz3 | apply bz4 | apply bz5) | (simp <;> omega))

theorem area_any (a b c d : Int) (h1 : -5000 ≤ a ∧ a ≤ 5000) (h2 : -5000 ≤ b ∧ b ≤ 5000) (h3 : -5000 ≤ c ∧ c ≤ 5000) (h4 : -5000 ≤ d ∧ d ≤ 5000) (w : World) :
 Calls Tryz.prog 179 #[.agg #[.int .i64 a, .int .i64 b, .int .i64 c, .int .i64 d]] w (RetX w (.int .i64 ((c - a) * (d - b)))) := by
 have m := mul_szS (p := c - a) (a := d - b) (A := 10000) (B := 10000) (by omega) (by omega) (by omega) (by omega)
 have e1 : IntKind.i64.wrap (c - a) = c - a := IntWalk.i64_in _ (by omega)
 have e2 : IntKind.i64.wrap (d - b) = d - b := IntWalk.i64_in _ (by omega)
 go_enter Tryz.func179, Tryz.ntmps179
 go_wp2
 go_ret
 refine retX_int rfl ?_
 (repeat' first | with_reducible (first | apply bz0 | assumption | apply bz1 | apply bz2 | apply bz3 | apply bz4 | apply bz5) | (simp <;> omega))

def sheetB (a b c d x y n : Int) : Bool := decide (a * n ≤ x) && decide (x ≤ c * n) && (decide (b * n ≤ y) && decide (y ≤ d * n))
def sheetWellB (a b c d x y n : Int) : Bool := decide (a * n < x) && decide (x < c * n) && (decide (b * n < y) && decide (y < d * n))
theorem sheet_holds_any (a b c d x y z n : Int) (w : World) (h1 : -5000 ≤ a ∧ a ≤ 5000) (h2 : -5000 ≤ b ∧ b ≤ 5000) (h3 : -5000 ≤ c ∧ c ≤ 5000) (h4 : -5000 ≤ d ∧ d ≤ 5000) (h5 : 0 ≤ n ∧ n ≤ 1000000000000000) :
 Calls Tryz.prog 184 #[.agg #[.int .i64 a, .int .i64 b, .int .i64 c, .int .i64 d], .agg #[.int .i64 x, .int .i64 y, .int .i64 z, .int .i64 n]] w (RetX w (.bool (sheetB a b c d x y n))) := by
 obtain ⟨_, _⟩ := mul_bd h1 h5 (by omega); obtain ⟨_, _⟩ := mul_bd h2 h5 (by omega); obtain ⟨_, _⟩ := mul_bd h3 h5 (by omega); obtain ⟨_, _⟩ := mul_bd h4 h5 (by omega)
 clear h1 h2 h3 h4 h5
 go_enter Tryz.func184, Tryz.ntmps184
 go_wp2
 all_goals (go_ret; refine retX_bool (by rw [Bool.eq_iff_iff]; simp [sheetB]; omega) ?_; (repeat' first | with_reducible (first | apply bz0 | assumption | apply bz1 | apply bz2 | apply bz3 | apply bz4 | apply bz5) | (simp <;> omega)))
theorem sheet_holdsWell_any (a b c d x y z n : Int) (w : World) (h1 : -5000 ≤ a ∧ a ≤ 5000) (h2 : -5000 ≤ b ∧ b ≤ 5000) (h3 : -5000 ≤ c ∧ c ≤ 5000) (h4 : -5000 ≤ d ∧ d ≤ 5000) (h5 : 0 ≤ n ∧ n ≤ 1000000000000000) :
 Calls Tryz.prog 180 #[.agg #[.int .i64 a, .int .i64 b, .int .i64 c, .int .i64 d], .agg #[.int .i64 x, .int .i64 y, .int .i64 z, .int .i64 n]] w (RetX w (.bool (sheetWellB a b c d x y n))) := by
 obtain ⟨_, _⟩ := mul_bd h1 h5 (by omega); obtain ⟨_, _⟩ := mul_bd h2 h5 (by omega); obtain ⟨_, _⟩ := mul_bd h3 h5 (by omega); obtain ⟨_, _⟩ := mul_bd h4 h5 (by omega)
 clear h1 h2 h3 h4 h5
 go_enter Tryz.func180, Tryz.ntmps180
 go_wp2
 all_goals (go_ret; refine retX_bool (by rw [Bool.eq_iff_iff]; simp [sheetWellB]; omega) ?_; (repeat' first | with_reducible (first | apply bz0 | assumption | apply bz1 | apply bz2 | apply bz3 | apply bz4 | apply bz5) | (simp <;> omega)))
end Go.Proofs.YtekieoamelahkaaGreat
