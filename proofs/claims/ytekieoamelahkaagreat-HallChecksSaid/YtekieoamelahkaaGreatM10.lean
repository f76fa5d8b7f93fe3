/- Contracts of package hall's geometry, second part. -/
import Derived.Test.YtekieoamelahkaaGreatM09
import Derived.BigRegion
import Derived.BigQuiet
import Derived.Deep.QuietTactic
import Derived.Deep.RegionHeld3
set_option maxRecDepth 100000
set_option maxHeartbeats 1000000
set_option linter.unusedVariables false
set_option linter.unusedSimpArgs false
namespace Go.Proofs.YtekieoamelahkaaGreat
open Go.RowKit

theorem cornerPoint_any (x y : Int) (w : World) :
 Calls Tryz.prog 170 #[.agg #[.int .i64 x, .int .i64 y]] w (RetX w (.agg #[.int .i64 x, .int .i64 y, .int .i64 0, .int .i64 1])) := by
 go_enter Tryz.func170, Tryz.ntmps170
 go_wp2
 refine bodyPost_ret (v := .agg #[.int .i64 x, .int .i64 y, .int .i64 0, .int .i64 1]) (by simp [results, Tryz.results170, go_sem]) rfl (retX rfl ?_)
 (repeat' first | with_reducible (first | apply bz0 | assumption | apply bz1 | apply bz2 | apply bz3 | apply bz4 | apply bz5) | (simp <;> omega))

theorem pointOf_any (x y z : Int) (w : World) :
 Calls Tryz.prog 119 #[.agg #[.int .i64 x, .int .i64 y, .int .i64 z]] w (RetX w (.agg #[.int .i64 x, .int .i64 y, .int .i64 z, .int .i64 1])) := by
 go_enter Tryz.func119, Tryz.ntmps119
 go_wp2
 refine bodyPost_ret (v := .agg #[.int .i64 x, .int .i64 y, .int .i64 z, .int .i64 1]) (by simp [results, Tryz.results119, go_sem]) rfl (retX rfl ?_)
 (repeat' first | with_reducible (first | apply bz0 | assumption | apply bz1 | apply bz2 | apply bz3 | apply bz4 | apply bz5) | (simp <;> omega))

def isAtB (cx cy x y d : Int) : Bool := decide (cx * d = x) && decide (cy * d = y)
theorem isAt_any (a b x y z n : Int) (w : World) (h1 : -5000 ≤ a ∧ a ≤ 5000) (h2 : -5000 ≤ b ∧ b ≤ 5000) (h5 : 0 ≤ n ∧ n ≤ 1000000000000000) :
 Calls Tryz.prog 190 #[.agg #[.int .i64 a, .int .i64 b], .agg #[.int .i64 x, .int .i64 y, .int .i64 z, .int .i64 n]] w (RetX w (.bool (isAtB a b x y n))) := by
 obtain ⟨_, _⟩ := mul_bd h1 h5 (by omega); obtain ⟨_, _⟩ := mul_bd h2 h5 (by omega)
 clear h1 h2 h5
 go_enter Tryz.func190, Tryz.ntmps190
 go_wp2
 all_goals (go_ret; refine retX_bool (by rw [Bool.eq_iff_iff]; simp_all [isAtB]) ?_; (repeat' first | with_reducible (first | apply bz0 | assumption | apply bz1 | apply bz2 | apply bz3 | apply bz4 | apply bz5) | (simp <;> omega)))

theorem isNothing_any (a b c d : Int) (w : World) :
 Calls Tryz.prog 168 #[.agg #[.int .i64 a, .int .i64 b, .int .i64 c, .int .i64 d]] w (RetX w (.bool (decide (a = c) && decide (b = d)))) := by
 go_enter Tryz.func168, Tryz.ntmps168
 go_wp2
 all_goals (go_ret; refine retX_bool (by rw [Bool.eq_iff_iff]; simp_all) ?_; (repeat' first | with_reducible (first | apply bz0 | assumption | apply bz1 | apply bz2 | apply bz3 | apply bz4 | apply bz5) | (simp <;> omega)))

theorem isDiagonal_any (a b c d : Int) (w : World) :
 Calls Tryz.prog 188 #[.agg #[.int .i64 a, .int .i64 b, .int .i64 c, .int .i64 d]] w (RetX w (.bool (!decide (a = c) && !decide (b = d)))) := by
 go_enter Tryz.func188, Tryz.ntmps188
 go_wp2
 all_goals (go_ret; refine retX_bool (by rw [Bool.eq_iff_iff]; simp_all) ?_; (repeat' first | with_reducible (first | apply bz0 | assumption | apply bz1 | apply bz2 | apply bz3 | apply bz4 | apply bz5) | (simp <;> omega)))

theorem size_q (n : Int) (w : World) (k : Nat) (h1 : -9223372036854775807 ≤ n) (h2 : n ≤ 9223372036854775807) :
 Calls Tryz.prog 181 #[.int .i64 n] (w.drewN k) fun e w' => e = .returned (.int .i64 (max n (-n))) ∧ ∃ m, w' = w.drewN m :=
 Calls.quiet_of_same ((size_any n _ h1 h2).mono fun _ _ h => ⟨h.1, h.2.symm⟩)

theorem reach_any (a b c d : Int) (w : World) (h1 : -5000 ≤ a ∧ a ≤ 5000) (h2 : -5000 ≤ b ∧ b ≤ 5000) (h3 : -5000 ≤ c ∧ c ≤ 5000) (h4 : -5000 ≤ d ∧ d ≤ 5000) :
 Calls Tryz.prog 187 #[.agg #[.int .i64 a, .int .i64 b, .int .i64 c, .int .i64 d]] w (RetX w (.int .i64 (max (max (c - a) (-(c - a))) (max (d - b) (-(d - b)))))) := by
 obtain ⟨_, _⟩ := h1; obtain ⟨_, _⟩ := h2; obtain ⟨_, _⟩ := h3; obtain ⟨_, _⟩ := h4
 have e1 : IntKind.i64.wrap (c - a) = c - a := IntWalk.i64_in _ (by omega)
 have e2 : IntKind.i64.wrap (d - b) = d - b := IntWalk.i64_in _ (by omega)
 go_enter Tryz.func187, Tryz.ntmps187
 go_wp2
 go_quiet ((go_at_call 181; exact size_q _ _ _ (by omega) (by omega)))
 go_wp2
 all_goals (go_ret; refine retX_int (by omega) ?_; (repeat' first | with_reducible (first | apply bz0 | assumption | apply bz1 | apply bz2 | apply bz3 | apply bz4 | apply bz5) | (simp <;> omega)))

theorem isRight_any (a b c d : Int) (w : World) (h1 : -5000 ≤ a ∧ a ≤ 5000) (h2 : -5000 ≤ b ∧ b ≤ 5000) (h3 : -5000 ≤ c ∧ c ≤ 5000) (h4 : -5000 ≤ d ∧ d ≤ 5000) :
 Calls Tryz.prog 169 #[.agg #[.int .i64 a, .int .i64 b, .int .i64 c, .int .i64 d]] w (RetX w (.bool (decide (c - a = 0) || decide (d - b = 0) || decide (max (c - a) (-(c - a)) = max (d - b) (-(d - b)))))) := by
 obtain ⟨_, _⟩ := h1; obtain ⟨_, _⟩ := h2; obtain ⟨_, _⟩ := h3; obtain ⟨_, _⟩ := h4
 have e1 : IntKind.i64.wrap (c - a) = c - a := IntWalk.i64_in _ (by omega)
 have e2 : IntKind.i64.wrap (d - b) = d - b := IntWalk.i64_in _ (by omega)
 go_enter Tryz.func169, Tryz.ntmps169
 go_wp2
 go_quiet ((go_at_call 181; exact size_q _ _ _ (by omega) (by omega)))
 go_wp2
 all_goals (go_ret; refine retX_bool (by rw [Bool.eq_iff_iff]; simp_all <;> omega) ?_; (repeat' first | with_reducible (first | apply bz0 | assumption | apply bz1 | apply bz2 | apply bz3 | apply bz4 | apply bz5) | (simp <;> omega)))

theorem way_any (a b c d : Int) (w : World) :
 Calls Tryz.prog 171 #[.agg #[.int .i64 a, .int .i64 b, .int .i64 c, .int .i64 d]] w (RetX w (.agg #[.int .i64 a, .int .i64 b, .int .i64 0, .int .i64 1, .int .i64 c, .int .i64 d, .int .i64 0, .int .i64 1])) := by
 go_enter Tryz.func171, Tryz.ntmps171
 go_wp2
 go_region_held3 (fun w' => w'.cell? ⟨w.heap.size, 0, none⟩ = some (.int .i64 a) ∧ w'.cell? ⟨w.heap.size, 1, none⟩ = some (.int .i64 b) ∧ w'.cell? ⟨w.heap.size, 2, none⟩ = some (.int .i64 c) ∧ w'.cell? ⟨w.heap.size, 3, none⟩ = some (.int .i64 d)) (simp [go_sem]) (first | (go_at_call 170; refine (cornerPoint_any _ _ _).mono ?_; rintro e w' ⟨rfl, x, rfl⟩))
 all_goals (rename_i hH; clear hH)
 go_wp2
 refine bodyPost_ret (v := .agg #[.int .i64 a, .int .i64 b, .int .i64 0, .int .i64 1, .int .i64 c, .int .i64 d, .int .i64 0, .int .i64 1]) (by simp [results, Tryz.results171, go_sem]) rfl (retX rfl ?_)
 (repeat' first | with_reducible (first | apply bz0 | assumption | apply bz1 | apply bz2 | apply bz3 | apply bz4 | apply bz5) | (simp <;> omega))
end Go.Proofs.YtekieoamelahkaaGreat
