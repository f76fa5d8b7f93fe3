/- Contracts of the leaves of package hall's geometry. -/
import Derived.Test.YtbonjgeglhbhnaaGreatProg
import Derived.Test.YtbonjgeglhbhnaaGreatM08
import Derived.WalkKit
import Derived.Test.YtbonjgeglhbhnaaGreatM01
import Derived.WalkSpells
import Derived.WalkLawsBesides
set_option linter.unusedVariables false
set_option linter.unusedSimpArgs false
namespace Go.Proofs.YtbonjgeglhbhnaaGreat
open Go.RowKit

theorem ret_int {k : IntKind} {a b : Int} (h : a = b) : Ending.returned (.int k a) = .returned (.int k b) := by rw [h]
theorem ret_bool {a b : Bool} (h : a = b) : Ending.returned (.bool a) = .returned (.bool b) := by rw [h]
theorem ret_of {a b : Value} (h : a = b) : Ending.returned a = .returned b := by rw [h]

set_option maxRecDepth 100000 in set_option maxHeartbeats 1000000 in
theorem size_any (n : Int) (w : World) (h1 : -9223372036854775807 ≤ n) (h2 : n ≤ 9223372036854775807) :
    Calls Tryz.prog 150 #[.int .i64 n] w fun e w' => e = .returned (.int .i64 (max n (-n))) ∧ w = w' := by
  go_enter Tryz.func150, Tryz.ntmps150
  go_wp2
  all_goals (go_ret; exact ⟨ret_int (by first | rfl | omega), rfl⟩)

set_option maxRecDepth 100000 in set_option maxHeartbeats 1000000 in
theorem isShare_any (n : Int) (w : World) :
    Calls Tryz.prog 160 #[.int .i64 n] w fun e w' => e = .returned (.bool (decide (0 ≤ n ∧ n ≤ 1000))) ∧ w = w' := by
  go_enter Tryz.func160, Tryz.ntmps160
  go_wp2
  all_goals (go_ret; exact ⟨ret_bool (by simp [*]; try omega), rfl⟩)

set_option maxRecDepth 100000 in set_option maxHeartbeats 1000000 in
theorem offPlane_any (k a x y z d : Int) (w : World) (hx : -2000000000000000000 ≤ x ∧ x ≤ 2000000000000000000) (hy : -2000000000000000000 ≤ y ∧ y ≤ 2000000000000000000) (hz : -2000000000000000000 ≤ z ∧ z ≤ 2000000000000000000)
    (hm : -5000000000000000000 ≤ a * d ∧ a * d ≤ 5000000000000000000) :
    Calls Tryz.prog 128 #[.agg #[.int .i64 k, .int .i64 a], .agg #[.int .i64 x, .int .i64 y, .int .i64 z, .int .i64 d]] w (RetX w (.int .i64 (offP k a x y z d))) := by
  obtain ⟨_, _⟩ := hx; obtain ⟨_, _⟩ := hy; obtain ⟨_, _⟩ := hz; obtain ⟨_, _⟩ := hm
  go_enter Tryz.func128, Tryz.ntmps128
  go_wp2
  all_goals (go_ret; refine retX_int (by simp_all [offP]) ?_; (repeat' (first | (with_reducible exact Below.refl _ _) | (with_reducible assumption) | (with_reducible refine Below.drew ?_) | (with_reducible refine Below.drewNStep ?_ _) | (with_reducible refine Below.alloc ?_ ?_ _) | (with_reducible refine Below.setCell ?_ ?_ _) | (with_reducible refine Below.extStep ?_ ?_ _) | (simp; done) | (simp; omega))))

set_option maxRecDepth 100000 in set_option maxHeartbeats 1000000 in
theorem plane_any (a b c d : Int) (w : World) (h1 : -100000 ≤ a ∧ a ≤ 100000) (h2 : -100000 ≤ b ∧ b ≤ 100000) (h3 : -100000 ≤ c ∧ c ≤ 100000) (h4 : -100000 ≤ d ∧ d ≤ 100000) :
    Calls Tryz.prog 144 #[.agg #[.int .i64 a, .int .i64 b, .int .i64 c, .int .i64 d]] w (RetX w (.agg #[.int .i64 (plK a b c d), .int .i64 (plA a b c d)])) := by
  obtain ⟨_, _⟩ := h1; obtain ⟨_, _⟩ := h2; obtain ⟨_, _⟩ := h3; obtain ⟨_, _⟩ := h4
  go_enter Tryz.func144, Tryz.ntmps144
  go_wp2
  all_goals (refine bodyPost_ret (v := .agg #[.int .i64 (plK a b c d), .int .i64 (plA a b c d)]) (by simp_all [results, Tryz.results144, go_sem, plK, plA]) rfl (retX rfl ?_); (repeat' (first | (with_reducible exact Below.refl _ _) | (with_reducible assumption) | (with_reducible refine Below.drew ?_) | (with_reducible refine Below.drewNStep ?_ _) | (with_reducible refine Below.alloc ?_ ?_ _) | (with_reducible refine Below.setCell ?_ ?_ _) | (with_reducible refine Below.extStep ?_ ?_ _) | (simp; done) | (simp; omega))))

theorem mul_bd {a n A N : Int} (h : -A ≤ a ∧ a ≤ A) (hn : 0 ≤ n ∧ n ≤ N) (hA : 0 ≤ A) : -(A * N) ≤ a * n ∧ a * n ≤ A * N := by
  obtain ⟨h1, h2⟩ := h; obtain ⟨h3, h4⟩ := hn
  have e1 : a * n ≤ A * n := Int.mul_le_mul_of_nonneg_right h2 h3
  have e2 : A * n ≤ A * N := Int.mul_le_mul_of_nonneg_left h4 hA
  have e3 : -A * n ≤ a * n := Int.mul_le_mul_of_nonneg_right h1 h3
  have e4 : -A * n = -(A * n) := Int.neg_mul A n
  omega

end Go.Proofs.YtbonjgeglhbhnaaGreat

/- isLetter, isDigit. -/
namespace Go.Proofs.YtbonjgeglhbhnaaGreat
open Go.RowKit

def letterB (c : Int) : Bool := (decide (65 ≤ c) && decide (c ≤ 90)) || (decide (97 ≤ c) && decide (c ≤ 122))
def digitB (c : Int) : Bool := decide (48 ≤ c) && decide (c ≤ 57)

set_option maxRecDepth 100000 in set_option maxHeartbeats 1000000 in
theorem isLetter_any (c : Int) (w : World) : Calls Tryz.prog 174 #[.int .u8 c] w (RetX w (.bool (letterB c))) := by
  have H : Hid (letterB c = ((decide (65 ≤ c) && decide (c ≤ 90)) || (decide (97 ≤ c) && decide (c ≤ 122)))) := rfl
  cases p1 : decide (65 ≤ c) <;> cases p2 : decide (c ≤ 90) <;> cases p3 : decide (97 ≤ c)
  all_goals
    rw [p1, p2, p3] at H
    go_enter Tryz.func174, Tryz.ntmps174
    go_wp2
    go_ret
    refine retX_bool (by rw [H.out]; simp) ?_
    (repeat' (first | (with_reducible exact Below.refl _ _) | (with_reducible assumption) | (with_reducible refine Below.drew ?_) | (with_reducible refine Below.drewNStep ?_ _) | (with_reducible refine Below.alloc ?_ ?_ _) | (with_reducible refine Below.setCell ?_ ?_ _) | (with_reducible refine Below.extStep ?_ ?_ _) | (simp; done) | (simp; omega)))

set_option maxRecDepth 100000 in set_option maxHeartbeats 1000000 in
theorem isDigit_any (c : Int) (w : World) : Calls Tryz.prog 175 #[.int .u8 c] w (RetX w (.bool (digitB c))) := by
  have H : Hid (digitB c = (decide (48 ≤ c) && decide (c ≤ 57))) := rfl
  cases p1 : decide (48 ≤ c)
  all_goals
    rw [p1] at H
    go_enter Tryz.func175, Tryz.ntmps175
    go_wp2
    go_ret
    refine retX_bool (by rw [H.out]; simp) ?_
    (repeat' (first | (with_reducible exact Below.refl _ _) | (with_reducible assumption) | (with_reducible refine Below.drew ?_) | (with_reducible refine Below.drewNStep ?_ _) | (with_reducible refine Below.alloc ?_ ?_ _) | (with_reducible refine Below.setCell ?_ ?_ _) | (with_reducible refine Below.extStep ?_ ?_ _) | (simp; done) | (simp; omega)))
end Go.Proofs.YtbonjgeglhbhnaaGreat

/- spans: a point of the line of an edge against its ends. -/
namespace Go.Proofs.YtbonjgeglhbhnaaGreat
open Go.RowKit

set_option maxRecDepth 100000 in set_option maxHeartbeats 1000000 in
theorem spans_any (a b c d x y z n : Int) (w : World) (h1 : -5000 ≤ a ∧ a ≤ 5000) (h2 : -5000 ≤ b ∧ b ≤ 5000) (h3 : -5000 ≤ c ∧ c ≤ 5000) (h4 : -5000 ≤ d ∧ d ≤ 5000) (h5 : 0 ≤ n ∧ n ≤ 1000000000000000) :
    Calls Tryz.prog 153 #[.agg #[.int .i64 a, .int .i64 b, .int .i64 c, .int .i64 d], .agg #[.int .i64 x, .int .i64 y, .int .i64 z, .int .i64 n]] w (RetX w (.bool (spansB a b c d x y n))) := by
  obtain ⟨_, _⟩ := mul_bd h1 h5 (by omega); obtain ⟨_, _⟩ := mul_bd h2 h5 (by omega); obtain ⟨_, _⟩ := mul_bd h3 h5 (by omega); obtain ⟨_, _⟩ := mul_bd h4 h5 (by omega)
  clear h1 h2 h3 h4 h5
  rcases Int.lt_trichotomy a c with hac | rfl | hac <;> rcases Int.lt_trichotomy b d with hbd | rfl | hbd
  all_goals
    go_enter Tryz.func153, Tryz.ntmps153
    go_wp2
  all_goals (go_ret; refine retX_bool (by rw [Bool.eq_iff_iff]; simp only [spansB, Int.min_def, Int.max_def, Bool.and_eq_true, decide_eq_true_eq, Bool.false_eq_true, true_iff, false_iff]; (repeat' split); all_goals omega) ?_; (repeat' (first | (with_reducible exact Below.refl _ _) | (with_reducible assumption) | (with_reducible refine Below.drew ?_) | (with_reducible refine Below.drewNStep ?_ _) | (with_reducible refine Below.alloc ?_ ?_ _) | (with_reducible refine Below.setCell ?_ ?_ _) | (with_reducible refine Below.extStep ?_ ?_ _) | (simp; done) | (simp; omega))))
end Go.Proofs.YtbonjgeglhbhnaaGreat
