/- Mirror images: placeError, mirrored, MirrorIn. -/
import Derived.Test.YtbonjgeglhbhnaaGreatM22
import Derived.StillTailTactics
set_option linter.unusedVariables false
set_option linter.unusedSimpArgs false
namespace Go.Proofs.YtbonjgeglhbhnaaGreat
open Go.RowKit

theorem slc1 {W : World} {B : Nat} {x : Int} (h0 : W.cell? ⟨B, 0, none⟩ = some (.int .i64 x)) : SlcAt encInt W (.slice (some ⟨B, 0, none⟩) 1 1) [x] := by
  refine ⟨by simp, _, _, rfl, fun _ => ⟨B, 0, rfl, has_of_cell h0, fun i v hi j hj => ?_⟩⟩
  have hj0 : j = 0 := by have : j < 1 := hj; omega
  subst hj0
  rcases i with _ | i
  · simp at hi; subst hi; exact ⟨_, h0, rfl⟩
  · simp at hi

def placeE (x y z : Int) : Int := if beyondB 45000 [x, y, z] then 2 else 0
theorem beyond3P {x y z : Int} (h : beyondB 45000 [x, y, z] = false) : (-45000 ≤ x ∧ x ≤ 45000) ∧ (-45000 ≤ y ∧ y ≤ 45000) ∧ (-45000 ≤ z ∧ z ≤ 45000) := by
  simp [beyondB, outB] at h
  omega
theorem beyond1P {L x : Int} (h : beyondB L [x] = false) : -L ≤ x ∧ x ≤ L := by
  simp [beyondB, outB] at h
  omega

set_option maxRecDepth 100000 in set_option maxHeartbeats 1000000 in
theorem placeError_any (x y z : Int) (w : World) : Calls Tryz.prog 55 #[.agg #[.int .i64 x, .int .i64 y, .int .i64 z]] w (RetX w (.int .i64 (placeE x y z))) := by
  have HE : Hid (placeE x y z = if beyondB 45000 [x, y, z] then 2 else 0) := rfl
  have HY := hidden (fun (W : World) (B : Nat) (h0 : W.cell? ⟨B, 0, none⟩ = some (.int .i64 x)) (h1 : W.cell? ⟨B, 1, none⟩ = some (.int .i64 y)) (h2 : W.cell? ⟨B, 2, none⟩ = some (.int .i64 z)) => beyond_any 45000 (by omega) [x, y, z] (some ⟨B, 0, none⟩) 3 W (slc3 h0 h1 h2))
  cases hb : beyondB 45000 [x, y, z]
  all_goals
    rw [hb] at HE HY
    go_enter Tryz.func55, Tryz.ntmps55
    go_wp2_with (first | (go_at_call 54; refine (HY.out _ _ (by simp [go_sem]) (by simp [go_sem]) (by simp [go_sem])).mono ?_; rintro e w' ⟨rfl, x1, rfl⟩))
    go_ret
    refine retX_int (by rw [HE.out]; simp) ?_
    (repeat' (first | (with_reducible exact Below.refl _ _) | (with_reducible assumption) | (with_reducible refine Below.drew ?_) | (with_reducible refine Below.drewNStep ?_ _) | (with_reducible refine Below.alloc ?_ ?_ _) | (with_reducible refine Below.setCell ?_ ?_ _) | (with_reducible refine Below.extStep ?_ ?_ _) | (simp; done) | (simp; omega)))

def mirX (k A x y : Int) : Int := if k = 0 then 2 * A - x else if k = 3 then A - y else if k = 4 then A + y else x
def mirY (k A x y : Int) : Int := if k = 1 then 2 * A - y else if k = 3 then A - x else if k = 4 then x - A else y
def mirZ (k A z : Int) : Int := if k = 2 then 2 * A - z else z

set_option maxRecDepth 100000 in set_option maxHeartbeats 1000000 in
theorem mirrored_any (k A x y z : Int) (w : World) (hk : 0 ≤ k ∧ k ≤ 4) (hA : -10000 ≤ A ∧ A ≤ 10000) (hx : -45000 ≤ x ∧ x ≤ 45000) (hy : -45000 ≤ y ∧ y ≤ 45000) (hz : -45000 ≤ z ∧ z ≤ 45000) :
    Calls Tryz.prog 56 #[.agg #[.int .i64 k, .int .i64 A], .agg #[.int .i64 x, .int .i64 y, .int .i64 z]] w (RetX w (.agg #[.int .i64 (mirX k A x y), .int .i64 (mirY k A x y), .int .i64 (mirZ k A z)])) := by
  have hk' : k = 0 ∨ k = 1 ∨ k = 2 ∨ k = 3 ∨ k = 4 := by omega
  clear hk
  rcases hk' with rfl | rfl | rfl | rfl | rfl
  · go_enter Tryz.func56, Tryz.ntmps56
    go_wp2
    refine bodyPost_ret (v := .agg #[.int .i64 (2 * A - x), .int .i64 y, .int .i64 z]) (by simp [results, Tryz.results56, go_sem]) rfl (retX rfl ?_)
    (repeat' (first | (with_reducible exact Below.refl _ _) | (with_reducible assumption) | (with_reducible refine Below.drew ?_) | (with_reducible refine Below.drewNStep ?_ _) | (with_reducible refine Below.alloc ?_ ?_ _) | (with_reducible refine Below.setCell ?_ ?_ _) | (with_reducible refine Below.extStep ?_ ?_ _) | (simp; done) | (simp; omega)))
  · go_enter Tryz.func56, Tryz.ntmps56
    go_wp2
    refine bodyPost_ret (v := .agg #[.int .i64 x, .int .i64 (2 * A - y), .int .i64 z]) (by simp [results, Tryz.results56, go_sem]) rfl (retX rfl ?_)
    (repeat' (first | (with_reducible exact Below.refl _ _) | (with_reducible assumption) | (with_reducible refine Below.drew ?_) | (with_reducible refine Below.drewNStep ?_ _) | (with_reducible refine Below.alloc ?_ ?_ _) | (with_reducible refine Below.setCell ?_ ?_ _) | (with_reducible refine Below.extStep ?_ ?_ _) | (simp; done) | (simp; omega)))
  · go_enter Tryz.func56, Tryz.ntmps56
    go_wp2
    refine bodyPost_ret (v := .agg #[.int .i64 x, .int .i64 y, .int .i64 (2 * A - z)]) (by simp [results, Tryz.results56, go_sem]) rfl (retX rfl ?_)
    (repeat' (first | (with_reducible exact Below.refl _ _) | (with_reducible assumption) | (with_reducible refine Below.drew ?_) | (with_reducible refine Below.drewNStep ?_ _) | (with_reducible refine Below.alloc ?_ ?_ _) | (with_reducible refine Below.setCell ?_ ?_ _) | (with_reducible refine Below.extStep ?_ ?_ _) | (simp; done) | (simp; omega)))
  · have e1 : IntKind.i64.wrap (A - y) = A - y := IntWalk.i64_in _ (by omega)
    have e2 : IntKind.i64.wrap (A - x) = A - x := IntWalk.i64_in _ (by omega)
    go_enter Tryz.func56, Tryz.ntmps56
    go_wp2
    go_region
    all_goals go_wp2
    all_goals (refine bodyPost_ret (v := .agg #[.int .i64 (A - y), .int .i64 (A - x), .int .i64 z]) (by simp [results, Tryz.results56, go_sem]) rfl (retX rfl ?_); (repeat' (first | (with_reducible exact Below.refl _ _) | (with_reducible assumption) | (with_reducible refine Below.drew ?_) | (with_reducible refine Below.drewNStep ?_ _) | (with_reducible refine Below.alloc ?_ ?_ _) | (with_reducible refine Below.setCell ?_ ?_ _) | (with_reducible refine Below.extStep ?_ ?_ _) | (simp; done) | (simp; omega))))
  · have e1 : IntKind.i64.wrap (A + y) = A + y := IntWalk.i64_in _ (by omega)
    have e2 : IntKind.i64.wrap (x - A) = x - A := IntWalk.i64_in _ (by omega)
    go_enter Tryz.func56, Tryz.ntmps56
    go_wp2
    go_region
    all_goals go_wp2
    all_goals (refine bodyPost_ret (v := .agg #[.int .i64 (A + y), .int .i64 (x - A), .int .i64 z]) (by simp [results, Tryz.results56, go_sem]) rfl (retX rfl ?_); (repeat' (first | (with_reducible exact Below.refl _ _) | (with_reducible assumption) | (with_reducible refine Below.drew ?_) | (with_reducible refine Below.drewNStep ?_ _) | (with_reducible refine Below.alloc ?_ ?_ _) | (with_reducible refine Below.setCell ?_ ?_ _) | (with_reducible refine Below.extStep ?_ ?_ _) | (simp; done) | (simp; omega))))

def mirE (k A x y z : Int) : Int := if k < 0 then 15 else if 4 < k then 15 else if beyondB 10000 [A] then 2 else if beyondB 45000 [x, y, z] then 2 else if beyondB 45000 [mirX k A x y, mirY k A x y, mirZ k A z] then 8 else 0
def mirV (k A x y z : Int) : Value := if mirE k A x y z = 0 then .tuple #[.agg #[.int .i64 (mirX k A x y), .int .i64 (mirY k A x y), .int .i64 (mirZ k A z)], .int .i64 0] else .tuple #[.agg #[.int .i64 0, .int .i64 0, .int .i64 0], .int .i64 (mirE k A x y z)]

end Go.Proofs.YtbonjgeglhbhnaaGreat
