/- Contracts of the leaves of package hall's geometry. -/
import Derived.Test.YtekieoamelahkaaGreatProg
import Derived.Test.YtekieoamelahkaaGreatM08
import Derived.WalkKit
import Derived.Test.YtekieoamelahkaaGreatM01
import Derived.WalkSpells
import Derived.WalkLawsBesides
set_option maxRecDepth 100000
set_option maxHeartbeats 1000000
set_option linter.unusedVariables false
set_option linter.unusedSimpArgs false
namespace Go.Proofs.YtekieoamelahkaaGreat
open Go.RowKit

theorem ret_int {k : IntKind} {a b : Int} (h : a = b) : Ending.returned (.int k a) = .returned (.int k b) := by rw [h]
theorem ret_bool {a b : Bool} (h : a = b) : Ending.returned (.bool a) = .returned (.bool b) := by rw [h]
theorem ret_of {a b : Value} (h : a = b) : Ending.returned a = .returned b := by rw [h]

theorem size_any (n : Int) (w : World) (h1 : -9223372036854775807 ≤ n) (h2 : n ≤ 9223372036854775807) :
 Calls Tryz.prog 181 #[.int .i64 n] w fun e w' => e = .returned (.int .i64 (max n (-n))) ∧ w = w' := by
 go_enter Tryz.func181, Tryz.ntmps181
 go_wp2
 all_goals (go_ret; exact ⟨ret_int (by first | rfl | omega), rfl⟩)

theorem isShare_any (n : Int) (w : World) :
 Calls Tryz.prog 127 #[.int .i64 n] w fun e w' => e = .returned (.bool (decide (0 ≤ n ∧ n ≤ 1000))) ∧ w = w' := by
 go_enter Tryz.func127, Tryz.ntmps127
 go_wp2
 all_goals (go_ret; exact ⟨ret_bool (by simp [*]; try omega), rfl⟩)

theorem offPlane_any (k a x y z d : Int) (w : World) (hx : -2000000000000000000 ≤ x ∧ x ≤ 2000000000000000000) (hy : -2000000000000000000 ≤ y ∧ y ≤ 2000000000000000000) (hz : -2000000000000000000 ≤ z ∧ z ≤ 2000000000000000000)
 (hm : -5000000000000000000 ≤ a * d ∧ a * d ≤ 5000000000000000000) :
 Calls Tryz.prog 163 #[.agg #[.int .i64 k, .int .i64 a], .agg #[.int .i64 x, .int .i64 y, .int .i64 z, .int .i64 d]] w (RetX w (.int .i64 (offP k a x y z d))) := by
 obtain ⟨_, _⟩ := hx; obtain ⟨_, _⟩ := hy; obtain ⟨_, _⟩ := hz; obtain ⟨_, _⟩ := hm
 go_enter Tryz.func163, Tryz.ntmps163
 go_wp2
 all_goals (go_ret; refine retX_int (by simp_all [offP]) ?_; (repeat' first | with_reducible (first | apply bz0 | assumption | apply bz1 | apply bz2 | apply bz3 | apply bz4 | apply bz5) | (simp <;> omega)))

theorem plane_any (a b c d : Int) (w : World) (h1 : -100000 ≤ a ∧ a ≤ 100000) (h2 : -100000 ≤ b ∧ b ≤ 100000) (h3 : -100000 ≤ c ∧ c ≤ 100000) (h4 : -100000 ≤ d ∧ d ≤ 100000) :
 Calls Tryz.prog 175 #[.agg #[.int .i64 a, .int .i64 b, .int .i64 c, .int .i64 d]] w (RetX w (.agg #[.int .i64 (plK a b c d), .int .i64 (plA a b c d)])) := by
 obtain ⟨_, _⟩ := h1; obtain ⟨_, _⟩ := h2; obtain ⟨_, _⟩ := h3; obtain ⟨_, _⟩ := h4
 go_enter Tryz.func175, Tryz.ntmps175
 go_wp2
 all_goals (refine bodyPost_ret (v := .agg #[.int .i64 (plK a b c d), .int .i64 (plA a b c d)]) (by simp_all [results, Tryz.results175, go_sem, plK, plA]) rfl (retX rfl ?_); (repeat' first | with_reducible (first | apply bz0 | assumption | apply bz1 | apply bz2 | apply bz3 | apply bz4 | apply bz5) | (simp <;> omega)))

theorem mul_bd {a n A N : Int} (h : -A ≤ a ∧ a ≤ A) (hn : 0 ≤ n ∧ n ≤ N) (hA : 0 ≤ A) : -(A * N) ≤ a * n ∧ a * n ≤ A * N := by
 obtain ⟨h1, h2⟩ := h; obtain ⟨h3, h4⟩ := hn
 have e1 : a * n ≤ A * n := Int.mul_le_mul_of_nonneg_right h2 h3
 have e2 : A * n ≤ A * N := Int.mul_le_mul_of_nonneg_left h4 hA
 have e3 : -A * n ≤ a * n := Int.mul_le_mul_of_nonneg_right h1 h3
 have e4 : -A * n = -(A * n) := Int.neg_mul A n
 omega

end Go.Proofs.YtekieoamelahkaaGreat

/- isLetter, isDigit. -/
namespace Go.Proofs.YtekieoamelahkaaGreat
open Go.RowKit

def letterB (c : Int) : Bool := (decide (65 ≤ c) && decide (c ≤ 90)) || (decide (97 ≤ c) && decide (c ≤ 122))
def digitB (c : Int) : Bool := decide (48 ≤ c) && decide (c ≤ 57)

theorem isLetter_any (c : Int) (w : World) : Calls Tryz.prog 165 #[.int .u8 c] w (RetX w (.bool (letterB c))) := by
 have H : Hid (letterB c = ((decide (65 ≤ c) && decide (c ≤ 90)) || (decide (97 ≤ c) && decide (c ≤ 122)))) := rfl
 cases p1 : decide (65 ≤ c) <;> cases p2 : decide (c ≤ 90) <;> cases p3 : decide (97 ≤ c)
 all_goals
  rw [p1, p2, p3] at H
  go_enter Tryz.func165, Tryz.ntmps165
  go_wp2
  go_ret
  refine retX_bool (by rw [H.out]; simp) ?_
  (repeat' first | with_reducible (first | apply bz0 | assumption | apply bz1 | apply bz2 | apply bz3 | apply bz4 | apply bz5) | (simp <;> omega))

theorem isDigit_any (c : Int) (w : World) : Calls Tryz.prog 166 #[.int .u8 c] w (RetX w (.bool (digitB c))) := by
 have H : Hid (digitB c = (decide (48 ≤ c) && decide (c ≤ 57))) := rfl
 cases p1 : decide (48 ≤ c)
 all_goals
  rw [p1] at H
  go_enter Tryz.func166, Tryz.ntmps166
  go_wp2
  go_ret
  refine retX_bool (by rw [H.out]; simp) ?_
  (repeat' first | with_reducible (first | apply bz0 | assumption | apply bz1 | apply bz2 | apply bz3 | apply bz4 | apply bz5) | (simp <;> omega))
end Go.Proofs.YtekieoamelahkaaGreat

/- spans: a point of the line of an edge against its ends. -/
namespace Go.Proofs.YtekieoamelahkaaGreat
open Go.RowKit

theorem spans_any (a b c d x y z n : Int) (w : World) (h1 : -5000 ≤ a ∧ a ≤ 5000) (h2 : -5000 ≤ b ∧ b ≤ 5000) (h3 : -5000 ≤ c ∧ c ≤ 5000) (h4 : -5000 ≤ d ∧ d ≤ 5000) (h5 : 0 ≤ n ∧ n ≤ 1000000000000000) :
 Calls Tryz.prog 183 #[.agg #[.int .i64 a, .int .i64 b, .int .i64 c, .int .i64 d], .agg #[.int .i64 x, .int .i64 y, .int .i64 z, .int .i64 n]] w (RetX w (.bool (spansB a b c d x y n))) := by
 obtain ⟨_, _⟩ := mul_bd h1 h5 (by omega); obtain ⟨_, _⟩ := mul_bd h2 h5 (by omega); obtain ⟨_, _⟩ := mul_bd h3 h5 (by omega); obtain ⟨_, _⟩ := mul_bd h4 h5 (by omega)
 clear h1 h2 h3 h4 h5
 rcases Int.lt_trichotomy a c with hac | rfl | hac <;> rcases Int.lt_trichotomy b d with hbd | rfl | hbd
 all_goals
  go_enter Tryz.func183, Tryz.ntmps183
  go_wp2
 all_goals (go_ret; refine retX_bool (by rw [Bool.eq_iff_iff]; simp only [spansB, Int.min_def, Int.max_def, Bool.and_eq_true, decide_eq_true_eq, Bool.false_eq_true, true_iff, false_iff]; (repeat' split); all_goals omega) ?_; (repeat' first | with_reducible (first | apply bz0 | assumption | apply bz1 | apply bz2 | apply bz3 | apply bz4 | apply bz5) | (simp <;> omega)))
end Go.Proofs.YtekieoamelahkaaGreat
