/- Off of the reference. -/
import Derived.Test.YtbonjgeglhbhnaaGreatM45
import Derived.Test.YtbonjgeglhbhnaaGreatM51
set_option linter.unusedVariables false
set_option linter.unusedSimpArgs false
namespace Go.Proofs.YtbonjgeglhbhnaaGreat
open Go.RowKit
def offI (k A x y z d : Int) : Int := (if k = 0 then x else if k = 1 then y else if k = 2 then z else if k = 3 then x + y else x - y) - A * d
set_option maxRecDepth 100000 in set_option maxHeartbeats 1000000 in
theorem refOff_any (k A x y z : Int) (w : World) (hk : 0 ≤ k ∧ k ≤ 4) (hA : -10000 ≤ A ∧ A ≤ 10000) (hx : -45000 ≤ x ∧ x ≤ 45000) (hy : -45000 ≤ y ∧ y ≤ 45000) (hz : -45000 ≤ z ∧ z ≤ 45000) :
    Calls Tryz.prog 15 #[.agg #[.int .i64 k, .int .i64 A], .agg #[.int .i64 x, .int .i64 y, .int .i64 z, .int .i64 1]] w (RetX w (.int .i64 (offI k A x y z 1))) := by
  have hk' : k = 0 ∨ k = 1 ∨ k = 2 ∨ k = 3 ∨ k = 4 := by omega
  clear hk
  have e1 : IntKind.i64.wrap (x + y) = x + y := IntWalk.i64_in _ (by omega)
  have e2 : IntKind.i64.wrap (x - y) = x - y := IntWalk.i64_in _ (by omega)
  have e3 : IntKind.i64.wrap (A * 1) = A := by rw [Int.mul_one]; exact IntWalk.i64_in _ (by omega)
  have i0 : ∀ w : World, (Instr.index 109 (.agg #[.int .i64 x, .int .i64 y, .int .i64 z, .int .i64 (x + y), .int .i64 (x - y)]) (.int .i64 0)).run Tryz.prog w = .ok (.int .i64 x) w := fun _ => by kernel_rfl
  have i1 : ∀ w : World, (Instr.index 109 (.agg #[.int .i64 x, .int .i64 y, .int .i64 z, .int .i64 (x + y), .int .i64 (x - y)]) (.int .i64 1)).run Tryz.prog w = .ok (.int .i64 y) w := fun _ => by kernel_rfl
  have i2 : ∀ w : World, (Instr.index 109 (.agg #[.int .i64 x, .int .i64 y, .int .i64 z, .int .i64 (x + y), .int .i64 (x - y)]) (.int .i64 2)).run Tryz.prog w = .ok (.int .i64 z) w := fun _ => by kernel_rfl
  have i3 : ∀ w : World, (Instr.index 109 (.agg #[.int .i64 x, .int .i64 y, .int .i64 z, .int .i64 (x + y), .int .i64 (x - y)]) (.int .i64 3)).run Tryz.prog w = .ok (.int .i64 (x + y)) w := fun _ => by kernel_rfl
  have i4 : ∀ w : World, (Instr.index 109 (.agg #[.int .i64 x, .int .i64 y, .int .i64 z, .int .i64 (x + y), .int .i64 (x - y)]) (.int .i64 4)).run Tryz.prog w = .ok (.int .i64 (x - y)) w := fun _ => by kernel_rfl
  rcases hk' with rfl | rfl | rfl | rfl | rfl
  all_goals
    go_enter Tryz.func15, Tryz.ntmps15
    go_wp2
    go_ret
    refine retX_int (by simp [offI]) ?_
    (repeat' (first | (with_reducible exact Below.refl _ _) | (with_reducible assumption) | (with_reducible refine Below.drew ?_) | (with_reducible refine Below.drewNStep ?_ _) | (with_reducible refine Below.alloc ?_ ?_ _) | (with_reducible refine Below.setCell ?_ ?_ _) | (with_reducible refine Below.extStep ?_ ?_ _) | (simp; done) | (simp; omega)))
end Go.Proofs.YtbonjgeglhbhnaaGreat

/- Mirror images: what HallMirrors asks of them; square. -/
namespace Go.Proofs.YtbonjgeglhbhnaaGreat
open Go.RowKit

def gX (k A x y z : Int) : Int := if mirE k A x y z = 0 then mirX k A x y else 0
def gY (k A x y z : Int) : Int := if mirE k A x y z = 0 then mirY k A x y else 0
def gZ (k A x y z : Int) : Int := if mirE k A x y z = 0 then mirZ k A z else 0
theorem mirV_form (k A x y z : Int) : mirV k A x y z = .tuple #[.agg #[.int .i64 (gX k A x y z), .int .i64 (gY k A x y z), .int .i64 (gZ k A x y z)], .int .i64 (mirE k A x y z)] := by
  unfold mirV gX gY gZ
  by_cases h : mirE k A x y z = 0
  · simp [h]
  · simp [h]
theorem mirE_zero {k A x y z : Int} (h : mirE k A x y z = 0) : (0 ≤ k ∧ k ≤ 4) ∧ beyondB 10000 [A] = false ∧ beyondB 45000 [x, y, z] = false ∧ beyondB 45000 [mirX k A x y, mirY k A x y, mirZ k A z] = false := by
  unfold mirE at h
  split at h
  · exact absurd h (by decide)
  split at h
  · exact absurd h (by decide)
  split at h
  · exact absurd h (by decide)
  split at h
  · exact absurd h (by decide)
  split at h
  · exact absurd h (by decide)
  rename_i h1 h2 h3 h4 h5
  exact ⟨by omega, by simpa using h3, by simpa using h4, by simpa using h5⟩
theorem mir_five {k : Int} (hk : 0 ≤ k ∧ k ≤ 4) : k = 0 ∨ k = 1 ∨ k = 2 ∨ k = 3 ∨ k = 4 := by omega
theorem mirX_back (k A x y : Int) : mirX k A (mirX k A x y) (mirY k A x y) = x := by
  unfold mirX mirY
  (repeat' split) <;> omega
theorem mirY_back (k A x y : Int) : mirY k A (mirX k A x y) (mirY k A x y) = y := by
  unfold mirX mirY
  (repeat' split) <;> omega
theorem mirZ_back (k A z : Int) : mirZ k A (mirZ k A z) = z := by
  unfold mirZ
  (repeat' split) <;> omega
theorem mir_back {k A x y z : Int} (h : mirE k A x y z = 0) : mirV k A (mirX k A x y) (mirY k A x y) (mirZ k A z) = .tuple #[.agg #[.int .i64 x, .int .i64 y, .int .i64 z], .int .i64 0] := by
  obtain ⟨hk, hA, h1, h2⟩ := mirE_zero h
  have hE : mirE k A (mirX k A x y) (mirY k A x y) (mirZ k A z) = 0 := by
    unfold mirE
    rw [mirX_back, mirY_back, mirZ_back, if_neg (by omega), if_neg (by omega), hA, h1, h2]
    rfl
  unfold mirV
  rw [if_pos hE, mirX_back, mirY_back, mirZ_back]
theorem off_iff {k A x y z : Int} (hk : 0 ≤ k ∧ k ≤ 4) : (mirX k A x y = x ∧ mirY k A x y = y ∧ mirZ k A z = z) ↔ offI k A x y z 1 = 0 := by
  rcases mir_five hk with rfl | rfl | rfl | rfl | rfl
  all_goals
    simp [mirX, mirY, mirZ, offI]
    omega
def sqI (x y z : Int) : Int := x * x + y * y + z * z
theorem sq_neg (a : Int) : (-a) * (-a) = a * a := Int.neg_mul_neg a a
theorem sq_mir {k A x1 y1 z1 x2 y2 z2 : Int} (hk : 0 ≤ k ∧ k ≤ 4) : sqI (mirX k A x1 y1 - mirX k A x2 y2) (mirY k A x1 y1 - mirY k A x2 y2) (mirZ k A z1 - mirZ k A z2) = sqI (x1 - x2) (y1 - y2) (z1 - z2) := by
  rcases mir_five hk with rfl | rfl | rfl | rfl | rfl
  · simp only [mirX, mirY, mirZ, sqI, if_true]
    rw [show 2 * A - x1 - (2 * A - x2) = -(x1 - x2) by omega, sq_neg]
    rfl
  · simp only [mirX, mirY, mirZ, sqI, if_true]
    rw [show 2 * A - y1 - (2 * A - y2) = -(y1 - y2) by omega, sq_neg]
    rfl
  · simp only [mirX, mirY, mirZ, sqI, if_true]
    rw [show 2 * A - z1 - (2 * A - z2) = -(z1 - z2) by omega, sq_neg]
    rfl
  · simp only [mirX, mirY, mirZ, sqI, if_true]
    simp only [show ¬ (3 : Int) = 0 by decide, show ¬ (3 : Int) = 1 by decide, show ¬ (3 : Int) = 2 by decide, if_false]
    rw [show A - y1 - (A - y2) = -(y1 - y2) by omega, show A - x1 - (A - x2) = -(x1 - x2) by omega, sq_neg, sq_neg]
    omega
  · simp only [mirX, mirY, mirZ, sqI, if_true]
    simp only [show ¬ (4 : Int) = 0 by decide, show ¬ (4 : Int) = 1 by decide, show ¬ (4 : Int) = 2 by decide, show ¬ (4 : Int) = 3 by decide, if_false]
    rw [show A + y1 - (A + y2) = y1 - y2 by omega, show x1 - A - (x2 - A) = x1 - x2 by omega]
    omega
theorem sq_bd {a : Int} (h : -90000 ≤ a ∧ a ≤ 90000) : 0 ≤ a * a ∧ a * a ≤ 8100000000 := by
  rcases Int.le_total 0 a with h0 | h0
  · exact ⟨Int.mul_nonneg h0 h0, Int.le_trans (Int.mul_le_mul h.2 h.2 h0 (by omega)) (by omega)⟩
  · have := Int.mul_le_mul (show -a ≤ 90000 by omega) (show -a ≤ 90000 by omega) (show 0 ≤ -a by omega) (by omega)
    rw [sq_neg] at this
    exact ⟨by rw [← sq_neg]; exact Int.mul_nonneg (by omega) (by omega), by omega⟩
set_option maxRecDepth 100000 in set_option maxHeartbeats 1000000 in
theorem law_square (x1 y1 z1 x2 y2 z2 : Int) (w : World) (h1 : -45000 ≤ x1 ∧ x1 ≤ 45000) (h2 : -45000 ≤ y1 ∧ y1 ≤ 45000) (h3 : -45000 ≤ z1 ∧ z1 ≤ 45000) (h4 : -45000 ≤ x2 ∧ x2 ≤ 45000) (h5 : -45000 ≤ y2 ∧ y2 ≤ 45000) (h6 : -45000 ≤ z2 ∧ z2 ≤ 45000) :
    Calls Tryz.prog 14 #[.agg #[.int .i64 x1, .int .i64 y1, .int .i64 z1], .agg #[.int .i64 x2, .int .i64 y2, .int .i64 z2]] w (RetX w (.int .i64 (sqI (x1 - x2) (y1 - y2) (z1 - z2)))) := by
  have b1 := sq_bd (a := x1 - x2) (by omega)
  have b2 := sq_bd (a := y1 - y2) (by omega)
  have b3 := sq_bd (a := z1 - z2) (by omega)
  have e1 : IntKind.i64.wrap (x1 - x2) = x1 - x2 := IntWalk.i64_in _ (by omega)
  have e2 : IntKind.i64.wrap (y1 - y2) = y1 - y2 := IntWalk.i64_in _ (by omega)
  have e3 : IntKind.i64.wrap (z1 - z2) = z1 - z2 := IntWalk.i64_in _ (by omega)
  have HS : Hid (sqI (x1 - x2) (y1 - y2) (z1 - z2) = (x1 - x2) * (x1 - x2) + (y1 - y2) * (y1 - y2) + (z1 - z2) * (z1 - z2)) := rfl
  rw [HS.out]
  clear HS
  go_enter Tryz.func14, Tryz.ntmps14
  go_wp2
  (refine wp_region_tameX (by kernel_rfl) (by kernel_rfl) ?_); (repeat (first | (refine wpTame_skip rfl ?_; simp only [Act.put, List.setIfInBounds_toArray, List.set_cons_succ, List.set_cons_zero]) | (refine wpTame_pure rfl rfl rfl (fun K hK => ?_); go_big_quiet_op; refine hK _ ?_; clear hK K) | (refine wpTame_eff rfl rfl (fun K hK => ?_); go_big_op; (first | fail | skip); (refine hK _ _ rfl (ext_of_below (by (repeat' (first | (with_reducible exact Below.refl _ _) | (with_reducible assumption) | (with_reducible refine Below.drew ?_) | (with_reducible refine Below.drewNStep ?_ _) | (with_reducible refine Below.alloc ?_ ?_ _) | (with_reducible refine Below.setCell ?_ ?_ _) | (with_reducible refine Below.extStep ?_ ?_ _) | (simp; done) | (simp; omega))))) ?_; clear hK K)))); (refine wpTame_nil ?_)
  go_wp2
  go_ret
  refine retX_int (by simp) ?_
  (repeat' (first | (with_reducible exact Below.refl _ _) | (with_reducible assumption) | (with_reducible refine Below.drew ?_) | (with_reducible refine Below.drewNStep ?_ _) | (with_reducible refine Below.alloc ?_ ?_ _) | (with_reducible refine Below.setCell ?_ ?_ _) | (with_reducible refine Below.extStep ?_ ?_ _) | (simp; done) | (simp; omega)))
end Go.Proofs.YtbonjgeglhbhnaaGreat
