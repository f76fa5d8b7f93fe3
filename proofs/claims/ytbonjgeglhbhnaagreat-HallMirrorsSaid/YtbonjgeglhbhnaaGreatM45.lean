/- MirrorIn. -/
import Derived.Test.YtbonjgeglhbhnaaGreatM44
set_option linter.unusedVariables false
set_option linter.unusedSimpArgs false
namespace Go.Proofs.YtbonjgeglhbhnaaGreat
open Go.RowKit

set_option maxRecDepth 100000 in set_option maxHeartbeats 1000000 in
theorem MirrorIn_any (k A x y z : Int) (w : World) : Calls Tryz.prog 12 #[.agg #[.int .i64 k, .int .i64 A], .agg #[.int .i64 x, .int .i64 y, .int .i64 z]] w (RetX w (mirV k A x y z)) := by
  have HY := hidden (fun (W : World) (B : Nat) (h0 : W.cell? ⟨B, 0, none⟩ = some (.int .i64 A)) => beyond_any 10000 (by omega) [A] (some ⟨B, 0, none⟩) 1 W (slc1 h0))
  have HP := hidden (fun W => placeError_any x y z W)
  have HE : Hid (mirE k A x y z = if k < 0 then 15 else if 4 < k then 15 else if beyondB 10000 [A] then 2 else if beyondB 45000 [x, y, z] then 2 else if beyondB 45000 [mirX k A x y, mirY k A x y, mirZ k A z] then 8 else 0) := rfl
  have HV : Hid (mirV k A x y z = if mirE k A x y z = 0 then .tuple #[.agg #[.int .i64 (mirX k A x y), .int .i64 (mirY k A x y), .int .i64 (mirZ k A z)], .int .i64 0] else .tuple #[.agg #[.int .i64 0, .int .i64 0, .int .i64 0], .int .i64 (mirE k A x y z)]) := rfl
  clear HP
  have hc : (decide (k < 0) = true) ∨ (decide (k < 0) = false ∧ decide (4 < k) = true) ∨ (decide (k < 0) = false ∧ decide (4 < k) = false) := by simp; omega
  rcases hc with p0 | ⟨p0, p1⟩ | ⟨p0, p1⟩
  · have hE := HE.out
    rw [if_pos (of_decide_eq_true p0)] at hE
    have hV := HV.out
    rw [hE] at hV
    rw [hV]
    clear HE HV hV hE
    go_enter Tryz.func12, Tryz.ntmps12
    go_wp2_with (first | (go_at_call 54; refine (HY.out _ _ (by simp [go_sem])).mono ?_; rintro e w' ⟨rfl, x1, rfl⟩) | (go_at_call 55; refine (placeError_any _ _ _ _).mono ?_; rintro e w' ⟨rfl, x2, rfl⟩) | (go_at_call 56; refine (HM.out _).mono ?_; rintro e w' ⟨rfl, x3, rfl⟩))
    refine bodyPost_ret ?_ rfl (retX rfl ?_); (simp [results, Tryz.results12, go_sem]); (repeat' (first | (with_reducible exact Below.refl _ _) | (with_reducible assumption) | (with_reducible refine Below.drew ?_) | (with_reducible refine Below.drewNStep ?_ _) | (with_reducible refine Below.alloc ?_ ?_ _) | (with_reducible refine Below.setCell ?_ ?_ _) | (with_reducible refine Below.extStep ?_ ?_ _) | (simp; done) | (simp; omega)))
  · have hE := HE.out
    rw [if_neg (of_decide_eq_false p0), if_pos (of_decide_eq_true p1)] at hE
    have hV := HV.out
    rw [hE] at hV
    rw [hV]
    clear HE HV hV hE
    go_enter Tryz.func12, Tryz.ntmps12
    go_wp2_with (first | (go_at_call 54; refine (HY.out _ _ (by simp [go_sem])).mono ?_; rintro e w' ⟨rfl, x1, rfl⟩) | (go_at_call 55; refine (placeError_any _ _ _ _).mono ?_; rintro e w' ⟨rfl, x2, rfl⟩) | (go_at_call 56; refine (HM.out _).mono ?_; rintro e w' ⟨rfl, x3, rfl⟩))
    refine bodyPost_ret ?_ rfl (retX rfl ?_); (simp [results, Tryz.results12, go_sem]); (repeat' (first | (with_reducible exact Below.refl _ _) | (with_reducible assumption) | (with_reducible refine Below.drew ?_) | (with_reducible refine Below.drewNStep ?_ _) | (with_reducible refine Below.alloc ?_ ?_ _) | (with_reducible refine Below.setCell ?_ ?_ _) | (with_reducible refine Below.extStep ?_ ?_ _) | (simp; done) | (simp; omega)))
  · have hE := HE.out
    rw [if_neg (of_decide_eq_false p0), if_neg (of_decide_eq_false p1)] at hE
    have hk : 0 ≤ k ∧ k ≤ 4 := by simp at p0 p1; omega
    clear HE
    cases b0 : beyondB 10000 [A] with
    | true =>
      rw [b0, if_pos rfl] at hE
      have hV := HV.out
      rw [hE] at hV
      rw [hV]
      rw [b0] at HY
      clear HV hV hE
      go_enter Tryz.func12, Tryz.ntmps12
      go_wp2_with (first | (go_at_call 54; refine (HY.out _ _ (by simp [go_sem])).mono ?_; rintro e w' ⟨rfl, x1, rfl⟩) | (go_at_call 55; refine (placeError_any _ _ _ _).mono ?_; rintro e w' ⟨rfl, x2, rfl⟩) | (go_at_call 56; refine (HM.out _).mono ?_; rintro e w' ⟨rfl, x3, rfl⟩))
      refine bodyPost_ret ?_ rfl (retX rfl ?_); (simp [results, Tryz.results12, go_sem]); (repeat' (first | (with_reducible exact Below.refl _ _) | (with_reducible assumption) | (with_reducible refine Below.drew ?_) | (with_reducible refine Below.drewNStep ?_ _) | (with_reducible refine Below.alloc ?_ ?_ _) | (with_reducible refine Below.setCell ?_ ?_ _) | (with_reducible refine Below.extStep ?_ ?_ _) | (simp; done) | (simp; omega)))
    | false =>
      have hA := beyond1P b0
      rw [b0, if_neg (by simp)] at hE
      rw [b0] at HY
      cases b1 : beyondB 45000 [x, y, z] with
      | true =>
        have hp1 : placeE x y z = 2 := by unfold placeE; rw [b1]; rfl
        rw [b1, if_pos rfl] at hE
        have hV := HV.out
        rw [hE] at hV
        rw [hV]
        clear HV hV hE
        go_enter Tryz.func12, Tryz.ntmps12
        go_wp2_with (first | (go_at_call 54; refine (HY.out _ _ (by simp [go_sem])).mono ?_; rintro e w' ⟨rfl, x1, rfl⟩) | (go_at_call 55; refine (placeError_any _ _ _ _).mono ?_; rintro e w' ⟨rfl, x2, rfl⟩) | (go_at_call 56; refine (HM.out _).mono ?_; rintro e w' ⟨rfl, x3, rfl⟩))
        refine bodyPost_ret ?_ rfl (retX rfl ?_); (simp [results, Tryz.results12, go_sem]); (repeat' (first | (with_reducible exact Below.refl _ _) | (with_reducible assumption) | (with_reducible refine Below.drew ?_) | (with_reducible refine Below.drewNStep ?_ _) | (with_reducible refine Below.alloc ?_ ?_ _) | (with_reducible refine Below.setCell ?_ ?_ _) | (with_reducible refine Below.extStep ?_ ?_ _) | (simp; done) | (simp; omega)))
      | false =>
        have hp1 : placeE x y z = 0 := by unfold placeE; rw [b1]; rfl
        obtain ⟨hx, hy, hz⟩ := beyond3P b1
        rw [b1, if_neg (by simp)] at hE
        have HM := hidden (fun W => mirrored_any k A x y z W hk hA hx hy hz)
        have HV2 := HV.out
        generalize mirE k A x y z = E at *
        generalize mirX k A x y = X at *
        generalize mirY k A x y = Y at *
        generalize mirZ k A z = Z at *
        cases b2 : beyondB 45000 [X, Y, Z] with
        | true =>
          have hp2 : placeE X Y Z = 2 := by unfold placeE; rw [b2]; rfl
          rw [b2, if_pos rfl] at hE
          subst hE
          rw [HV2, if_neg (by decide)]
          clear HV HV2
          go_enter Tryz.func12, Tryz.ntmps12
          go_wp2_with (first | (go_at_call 54; refine (HY.out _ _ (by simp [go_sem])).mono ?_; rintro e w' ⟨rfl, x1, rfl⟩) | (go_at_call 55; refine (placeError_any _ _ _ _).mono ?_; rintro e w' ⟨rfl, x2, rfl⟩) | (go_at_call 56; refine (HM.out _).mono ?_; rintro e w' ⟨rfl, x3, rfl⟩))
          refine bodyPost_ret ?_ rfl (retX rfl ?_); (simp [results, Tryz.results12, go_sem]); (repeat' (first | (with_reducible exact Below.refl _ _) | (with_reducible assumption) | (with_reducible refine Below.drew ?_) | (with_reducible refine Below.drewNStep ?_ _) | (with_reducible refine Below.alloc ?_ ?_ _) | (with_reducible refine Below.setCell ?_ ?_ _) | (with_reducible refine Below.extStep ?_ ?_ _) | (simp; done) | (simp; omega)))
        | false =>
          have hp2 : placeE X Y Z = 0 := by unfold placeE; rw [b2]; rfl
          rw [b2, if_neg (by simp)] at hE
          subst hE
          rw [HV2, if_pos rfl]
          clear HV HV2
          go_enter Tryz.func12, Tryz.ntmps12
          go_wp2_with (first | (go_at_call 54; refine (HY.out _ _ (by simp [go_sem])).mono ?_; rintro e w' ⟨rfl, x1, rfl⟩) | (go_at_call 55; refine (placeError_any _ _ _ _).mono ?_; rintro e w' ⟨rfl, x2, rfl⟩) | (go_at_call 56; refine (HM.out _).mono ?_; rintro e w' ⟨rfl, x3, rfl⟩))
          refine bodyPost_ret ?_ rfl (retX rfl ?_); (simp [results, Tryz.results12, go_sem]); (repeat' (first | (with_reducible exact Below.refl _ _) | (with_reducible assumption) | (with_reducible refine Below.drew ?_) | (with_reducible refine Below.drewNStep ?_ _) | (with_reducible refine Below.alloc ?_ ?_ _) | (with_reducible refine Below.setCell ?_ ?_ _) | (with_reducible refine Below.extStep ?_ ?_ _) | (simp; done) | (simp; omega)))
end Go.Proofs.YtbonjgeglhbhnaaGreat
