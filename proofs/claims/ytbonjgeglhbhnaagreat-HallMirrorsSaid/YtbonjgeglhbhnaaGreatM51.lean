/- Mirror images in the reference. -/
import Derived.Test.YtbonjgeglhbhnaaGreatM45
set_option linter.unusedVariables false
set_option linter.unusedSimpArgs false
namespace Go.Proofs.YtbonjgeglhbhnaaGreat
open Go.RowKit
def wiB (n lo hi : Int) : Bool := decide (lo ≤ n) && decide (n ≤ hi)
set_option maxRecDepth 100000 in set_option maxHeartbeats 1000000 in
theorem Within_any (n lo hi : Int) (w : World) : Calls Tryz.prog 38 #[.int .i64 n, .int .i64 lo, .int .i64 hi] w (RetX w (.bool (wiB n lo hi))) := by
  go_enter Tryz.func38, Tryz.ntmps38
  go_wp2
  all_goals (go_ret; refine retX_bool (by simp_all [wiB] <;> (intros; omega)) ?_; (repeat' (first | (with_reducible exact Below.refl _ _) | (with_reducible assumption) | (with_reducible refine Below.drew ?_) | (with_reducible refine Below.drewNStep ?_ _) | (with_reducible refine Below.alloc ?_ ?_ _) | (with_reducible refine Below.setCell ?_ ?_ _) | (with_reducible refine Below.extStep ?_ ?_ _) | (simp; done) | (simp; omega))))
set_option maxRecDepth 100000 in set_option maxHeartbeats 1000000 in
theorem isImage_any (n : Int) (w : World) : Calls Tryz.prog 97 #[.int .i64 n] w (RetX w (.bool (wiB n (-45000) 45000))) := by
  go_enter Tryz.func97, Tryz.ntmps97
  go_wp2_with (go_at_call 38; refine (Within_any _ _ _ _).mono ?_; rintro e w' ⟨rfl, x1, rfl⟩)
  go_ret
  refine retX_bool rfl ?_
  (repeat' (first | (with_reducible exact Below.refl _ _) | (with_reducible assumption) | (with_reducible refine Below.drew ?_) | (with_reducible refine Below.drewNStep ?_ _) | (with_reducible refine Below.alloc ?_ ?_ _) | (with_reducible refine Below.setCell ?_ ?_ _) | (with_reducible refine Below.extStep ?_ ?_ _) | (simp; done) | (simp; omega)))
theorem out_wi (L x : Int) : outB L x = !wiB x (-L) L := by
  rw [Bool.eq_iff_iff]
  simp [outB, wiB]
  omega
theorem placeE_wi (x y z : Int) : placeE x y z = if wiB x (-45000) 45000 && (wiB y (-45000) 45000 && wiB z (-45000) 45000) then 0 else 2 := by
  unfold placeE beyondB
  simp only [List.any_cons, List.any_nil, Bool.or_false, out_wi]
  cases wiB x (-45000) 45000 <;> cases wiB y (-45000) 45000 <;> cases wiB z (-45000) 45000 <;> rfl
set_option maxRecDepth 100000 in set_option maxHeartbeats 1000000 in
theorem PlaceErr_any (x y z : Int) (w : World) : Calls Tryz.prog 58 #[.agg #[.int .i64 x, .int .i64 y, .int .i64 z]] w (RetX w (.int .i64 (placeE x y z))) := by
  rw [placeE_wi]
  have HX := hidden (fun W => isImage_any x W)
  have HY := hidden (fun W => isImage_any y W)
  have HZ := hidden (fun W => isImage_any z W)
  generalize wiB x (-45000) 45000 = bx at *
  generalize wiB y (-45000) 45000 = by' at *
  generalize wiB z (-45000) 45000 = bz at *
  have hc : bx = false ∨ (bx = true ∧ by' = false) ∨ (bx = true ∧ by' = true ∧ bz = false) ∨ (bx = true ∧ by' = true ∧ bz = true) := by cases bx <;> cases by' <;> cases bz <;> simp
  rcases hc with rfl | ⟨rfl, rfl⟩ | ⟨rfl, rfl, rfl⟩ | ⟨rfl, rfl, rfl⟩
  all_goals
    go_enter Tryz.func58, Tryz.ntmps58
    go_wp2_with (go_at_call 97; first | ((with_reducible refine (HX.out _).mono ?_); rintro e w' ⟨rfl, x1, rfl⟩) | ((with_reducible refine (HY.out _).mono ?_); rintro e w' ⟨rfl, x2, rfl⟩) | (refine (HZ.out _).mono ?_; rintro e w' ⟨rfl, x3, rfl⟩))
    go_ret
    refine retX_int (by simp) ?_
    (repeat' (first | (with_reducible exact Below.refl _ _) | (with_reducible assumption) | (with_reducible refine Below.drew ?_) | (with_reducible refine Below.drewNStep ?_ _) | (with_reducible refine Below.alloc ?_ ?_ _) | (with_reducible refine Below.setCell ?_ ?_ _) | (with_reducible refine Below.extStep ?_ ?_ _) | (simp; done) | (simp; omega)))
def planeE (k A : Int) : Int := if wiB k 0 4 = true then (if wiB A (-10000) 10000 = true then 0 else 2) else 15
set_option maxRecDepth 100000 in set_option maxHeartbeats 1000000 in
theorem PlaneErr_any (k A : Int) (w : World) : Calls Tryz.prog 57 #[.agg #[.int .i64 k, .int .i64 A]] w (RetX w (.int .i64 (planeE k A))) := by
  unfold planeE
  have HX := hidden (fun W => Within_any k 0 4 W)
  have HY := hidden (fun W => Within_any A (-10000) 10000 W)
  generalize wiB k 0 4 = bx at *
  generalize wiB A (-10000) 10000 = by' at *
  have hc : bx = false ∨ (bx = true ∧ by' = false) ∨ (bx = true ∧ by' = true) := by cases bx <;> cases by' <;> simp
  rcases hc with rfl | ⟨rfl, rfl⟩ | ⟨rfl, rfl⟩
  all_goals
    go_enter Tryz.func57, Tryz.ntmps57
    go_wp2_with (go_at_call 38; first | ((with_reducible refine (HX.out _).mono ?_); rintro e w' ⟨rfl, x1, rfl⟩) | ((with_reducible refine (HY.out _).mono ?_); rintro e w' ⟨rfl, x2, rfl⟩))
    go_ret
    refine retX_int (by simp) ?_
    (repeat' (first | (with_reducible exact Below.refl _ _) | (with_reducible assumption) | (with_reducible refine Below.drew ?_) | (with_reducible refine Below.drewNStep ?_ _) | (with_reducible refine Below.alloc ?_ ?_ _) | (with_reducible refine Below.setCell ?_ ?_ _) | (with_reducible refine Below.extStep ?_ ?_ _) | (simp; done) | (simp; omega)))
set_option maxRecDepth 100000 in set_option maxHeartbeats 1000000 in
theorem refMirror_any (k A x y z : Int) (w : World) (hk : 0 ≤ k ∧ k ≤ 4) (hA : -10000 ≤ A ∧ A ≤ 10000) (hx : -45000 ≤ x ∧ x ≤ 45000) (hy : -45000 ≤ y ∧ y ≤ 45000) (hz : -45000 ≤ z ∧ z ≤ 45000) :
    Calls Tryz.prog 59 #[.agg #[.int .i64 k, .int .i64 A], .agg #[.int .i64 x, .int .i64 y, .int .i64 z]] w (RetX w (.agg #[.int .i64 (mirX k A x y), .int .i64 (mirY k A x y), .int .i64 (mirZ k A z)])) := by
  have hk' : k = 0 ∨ k = 1 ∨ k = 2 ∨ k = 3 ∨ k = 4 := by omega
  clear hk
  rcases hk' with rfl | rfl | rfl | rfl | rfl
  · go_enter Tryz.func59, Tryz.ntmps59
    go_wp2
    refine bodyPost_ret (v := .agg #[.int .i64 (2 * A - x), .int .i64 y, .int .i64 z]) (by simp [results, Tryz.results59, go_sem]) rfl (retX rfl ?_)
    (repeat' (first | (with_reducible exact Below.refl _ _) | (with_reducible assumption) | (with_reducible refine Below.drew ?_) | (with_reducible refine Below.drewNStep ?_ _) | (with_reducible refine Below.alloc ?_ ?_ _) | (with_reducible refine Below.setCell ?_ ?_ _) | (with_reducible refine Below.extStep ?_ ?_ _) | (simp; done) | (simp; omega)))
  · go_enter Tryz.func59, Tryz.ntmps59
    go_wp2
    refine bodyPost_ret (v := .agg #[.int .i64 x, .int .i64 (2 * A - y), .int .i64 z]) (by simp [results, Tryz.results59, go_sem]) rfl (retX rfl ?_)
    (repeat' (first | (with_reducible exact Below.refl _ _) | (with_reducible assumption) | (with_reducible refine Below.drew ?_) | (with_reducible refine Below.drewNStep ?_ _) | (with_reducible refine Below.alloc ?_ ?_ _) | (with_reducible refine Below.setCell ?_ ?_ _) | (with_reducible refine Below.extStep ?_ ?_ _) | (simp; done) | (simp; omega)))
  · go_enter Tryz.func59, Tryz.ntmps59
    go_wp2
    refine bodyPost_ret (v := .agg #[.int .i64 x, .int .i64 y, .int .i64 (2 * A - z)]) (by simp [results, Tryz.results59, go_sem]) rfl (retX rfl ?_)
    (repeat' (first | (with_reducible exact Below.refl _ _) | (with_reducible assumption) | (with_reducible refine Below.drew ?_) | (with_reducible refine Below.drewNStep ?_ _) | (with_reducible refine Below.alloc ?_ ?_ _) | (with_reducible refine Below.setCell ?_ ?_ _) | (with_reducible refine Below.extStep ?_ ?_ _) | (simp; done) | (simp; omega)))
  · go_enter Tryz.func59, Tryz.ntmps59
    go_wp2
    refine bodyPost_ret (v := .agg #[.int .i64 (A - y), .int .i64 (A - x), .int .i64 z]) (by simp [results, Tryz.results59, go_sem]) rfl (retX rfl ?_)
    (repeat' (first | (with_reducible exact Below.refl _ _) | (with_reducible assumption) | (with_reducible refine Below.drew ?_) | (with_reducible refine Below.drewNStep ?_ _) | (with_reducible refine Below.alloc ?_ ?_ _) | (with_reducible refine Below.setCell ?_ ?_ _) | (with_reducible refine Below.extStep ?_ ?_ _) | (simp; done) | (simp; omega)))
  · go_enter Tryz.func59, Tryz.ntmps59
    go_wp2
    refine bodyPost_ret (v := .agg #[.int .i64 (A + y), .int .i64 (x - A), .int .i64 z]) (by simp [results, Tryz.results59, go_sem]; omega) rfl (retX rfl ?_)
    (repeat' (first | (with_reducible exact Below.refl _ _) | (with_reducible assumption) | (with_reducible refine Below.drew ?_) | (with_reducible refine Below.drewNStep ?_ _) | (with_reducible refine Below.alloc ?_ ?_ _) | (with_reducible refine Below.setCell ?_ ?_ _) | (with_reducible refine Below.extStep ?_ ?_ _) | (simp; done) | (simp; omega)))
theorem mirE_ref (k A x y z : Int) : mirE k A x y z = if planeE k A = 0 then (if placeE x y z = 0 then (if placeE (mirX k A x y) (mirY k A x y) (mirZ k A z) = 0 then 0 else 8) else 2) else planeE k A := by
  have h1 : beyondB 10000 [A] = !wiB A (-10000) 10000 := by simp [beyondB, out_wi]
  unfold mirE planeE placeE
  rw [h1]
  by_cases p0 : k < 0
  · have : wiB k 0 4 = false := by simp [wiB]; omega
    simp [p0, this]
  · by_cases p1 : 4 < k
    · have : wiB k 0 4 = false := by simp [wiB]; omega
      simp [p0, p1, this]
    · have : wiB k 0 4 = true := by simp [wiB]; omega
      simp only [p0, p1, this, if_true, if_false]
      cases wiB A (-10000) 10000 <;> cases beyondB 45000 [x, y, z] <;> cases beyondB 45000 [mirX k A x y, mirY k A x y, mirZ k A z] <;> simp
set_option maxRecDepth 100000 in set_option maxHeartbeats 1000000 in
theorem refMirrorIn_any (k A x y z : Int) (w : World) : Calls Tryz.prog 13 #[.agg #[.int .i64 k, .int .i64 A], .agg #[.int .i64 x, .int .i64 y, .int .i64 z]] w (RetX w (mirV k A x y z)) := by
  have HP := hidden (fun W => PlaneErr_any k A W)
  have HQ := hidden (fun W => PlaceErr_any x y z W)
  have HE := hidden (mirE_ref k A x y z)
  have HV : Hid (mirV k A x y z = if mirE k A x y z = 0 then .tuple #[.agg #[.int .i64 (mirX k A x y), .int .i64 (mirY k A x y), .int .i64 (mirZ k A z)], .int .i64 0] else .tuple #[.agg #[.int .i64 0, .int .i64 0, .int .i64 0], .int .i64 (mirE k A x y z)]) := rfl
  by_cases p0 : planeE k A = 0
  · by_cases p1 : placeE x y z = 0
    · have hk : 0 ≤ k ∧ k ≤ 4 := by
        unfold planeE at p0
        cases q : wiB k 0 4 with
        | true => simp [wiB] at q; exact q
        | false => rw [q] at p0; simp at p0
      have hA : -10000 ≤ A ∧ A ≤ 10000 := by
        unfold planeE at p0
        cases q : wiB k 0 4 with
        | true =>
          rw [q] at p0
          cases q' : wiB A (-10000) 10000 with
          | true => simp [wiB] at q'; exact q'
          | false => rw [q'] at p0; simp at p0
        | false => rw [q] at p0; simp at p0
      have hb : beyondB 45000 [x, y, z] = false := by
        unfold placeE at p1
        cases q : beyondB 45000 [x, y, z] with
        | true => rw [q] at p1; simp at p1
        | false => rfl
      obtain ⟨hx, hy, hz⟩ := beyond3P hb
      have HM := hidden (fun W => refMirror_any k A x y z W hk hA hx hy hz)
      have HR := hidden (fun W => PlaceErr_any (mirX k A x y) (mirY k A x y) (mirZ k A z) W)
      have hE := HE.out
      rw [if_pos p0, if_pos p1] at hE
      rw [p0] at HP
      rw [p1] at HQ
      generalize mirE k A x y z = E at *
      generalize mirX k A x y = X at *
      generalize mirY k A x y = Y at *
      generalize mirZ k A z = Z at *
      clear HE p0 p1 hb hk hA hx hy hz
      by_cases p2 : placeE X Y Z = 0
      · rw [if_pos p2] at hE
        subst hE
        rw [HV.out, if_pos rfl]
        rw [p2] at HR
        clear HV p2
        go_enter Tryz.func13, Tryz.ntmps13
        go_wp2_with (first | (go_at_call 57; (with_reducible refine (HP.out _).mono ?_); rintro e w' ⟨rfl, x1, rfl⟩) | (go_at_call 58; first | ((with_reducible refine (HQ.out _).mono ?_); rintro e w' ⟨rfl, x2, rfl⟩) | ((with_reducible refine (HR.out _).mono ?_); rintro e w' ⟨rfl, x4, rfl⟩)) | (go_at_call 59; (with_reducible refine (HM.out _).mono ?_); rintro e w' ⟨rfl, x3, rfl⟩))
        refine bodyPost_ret (v := .tuple #[.agg #[.int .i64 X, .int .i64 Y, .int .i64 Z], .int .i64 0]) (by simp [results, Tryz.results13, go_sem]) rfl (retX rfl ?_)
        (repeat' (first | (with_reducible exact Below.refl _ _) | (with_reducible assumption) | (with_reducible refine Below.drew ?_) | (with_reducible refine Below.drewNStep ?_ _) | (with_reducible refine Below.alloc ?_ ?_ _) | (with_reducible refine Below.setCell ?_ ?_ _) | (with_reducible refine Below.extStep ?_ ?_ _) | (simp; done) | (simp; omega)))
      · rw [if_neg p2] at hE
        subst hE
        rw [HV.out, if_neg (by decide)]
        have p3 : placeE X Y Z = 2 := by unfold placeE at p2 ⊢; split <;> simp_all
        rw [p3] at HR
        clear HV p2 p3
        go_enter Tryz.func13, Tryz.ntmps13
        go_wp2_with (first | (go_at_call 57; (with_reducible refine (HP.out _).mono ?_); rintro e w' ⟨rfl, x1, rfl⟩) | (go_at_call 58; first | ((with_reducible refine (HQ.out _).mono ?_); rintro e w' ⟨rfl, x2, rfl⟩) | ((with_reducible refine (HR.out _).mono ?_); rintro e w' ⟨rfl, x4, rfl⟩)) | (go_at_call 59; (with_reducible refine (HM.out _).mono ?_); rintro e w' ⟨rfl, x3, rfl⟩))
        refine bodyPost_ret (v := .tuple #[.agg #[.int .i64 0, .int .i64 0, .int .i64 0], .int .i64 8]) (by simp [results, Tryz.results13, go_sem]) rfl (retX rfl ?_)
        (repeat' (first | (with_reducible exact Below.refl _ _) | (with_reducible assumption) | (with_reducible refine Below.drew ?_) | (with_reducible refine Below.drewNStep ?_ _) | (with_reducible refine Below.alloc ?_ ?_ _) | (with_reducible refine Below.setCell ?_ ?_ _) | (with_reducible refine Below.extStep ?_ ?_ _) | (simp; done) | (simp; omega)))
    · have hE := HE.out
      rw [if_pos p0, if_neg p1] at hE
      have p3 : placeE x y z = 2 := by unfold placeE at p1 ⊢; split <;> simp_all
      rw [p0] at HP
      rw [p3] at HQ
      rw [HV.out, hE, if_neg (by decide)]
      clear HE HV hE p0 p1 p3
      go_enter Tryz.func13, Tryz.ntmps13
      go_wp2_with (first | (go_at_call 57; (with_reducible refine (HP.out _).mono ?_); rintro e w' ⟨rfl, x1, rfl⟩) | (go_at_call 58; (with_reducible refine (HQ.out _).mono ?_); rintro e w' ⟨rfl, x2, rfl⟩))
      refine bodyPost_ret (v := .tuple #[.agg #[.int .i64 0, .int .i64 0, .int .i64 0], .int .i64 2]) (by simp [results, Tryz.results13, go_sem]) rfl (retX rfl ?_)
      (repeat' (first | (with_reducible exact Below.refl _ _) | (with_reducible assumption) | (with_reducible refine Below.drew ?_) | (with_reducible refine Below.drewNStep ?_ _) | (with_reducible refine Below.alloc ?_ ?_ _) | (with_reducible refine Below.setCell ?_ ?_ _) | (with_reducible refine Below.extStep ?_ ?_ _) | (simp; done) | (simp; omega)))
  · have hE := HE.out
    rw [if_neg p0] at hE
    rw [HV.out, hE, if_neg p0]
    clear HE HV hE HQ
    generalize planeE k A = z' at *
    have q4 : (z' != 0) = true := by simp [p0]
    have q5 : (z' == 0) = false := by simp [p0]
    go_enter Tryz.func13, Tryz.ntmps13
    go_wp2_with (go_at_call 57; (with_reducible refine (HP.out _).mono ?_); rintro e w' ⟨rfl, x1, rfl⟩)
    refine bodyPost_ret (v := .tuple #[.agg #[.int .i64 0, .int .i64 0, .int .i64 0], .int .i64 z']) (by simp [results, Tryz.results13, go_sem]) rfl (retX rfl ?_)
    (repeat' (first | (with_reducible exact Below.refl _ _) | (with_reducible assumption) | (with_reducible refine Below.drew ?_) | (with_reducible refine Below.drewNStep ?_ _) | (with_reducible refine Below.alloc ?_ ?_ _) | (with_reducible refine Below.setCell ?_ ?_ _) | (with_reducible refine Below.extStep ?_ ?_ _) | (simp; done) | (simp; omega)))
set_option maxRecDepth 100000 in set_option maxHeartbeats 1000000 in
theorem refPointOf_any (x y z : Int) (w : World) :
    Calls Tryz.prog 16 #[.agg #[.int .i64 x, .int .i64 y, .int .i64 z]] w (RetX w (.agg #[.int .i64 x, .int .i64 y, .int .i64 z, .int .i64 1])) := by
  go_enter Tryz.func16, Tryz.ntmps16
  go_wp2
  refine bodyPost_ret (v := .agg #[.int .i64 x, .int .i64 y, .int .i64 z, .int .i64 1]) (by simp [results, Tryz.results16, go_sem]) rfl (retX rfl ?_)
  (repeat' (first | (with_reducible exact Below.refl _ _) | (with_reducible assumption) | (with_reducible refine Below.drew ?_) | (with_reducible refine Below.drewNStep ?_ _) | (with_reducible refine Below.alloc ?_ ?_ _) | (with_reducible refine Below.setCell ?_ ?_ _) | (with_reducible refine Below.extStep ?_ ?_ _) | (simp; done) | (simp; omega)))
end Go.Proofs.YtbonjgeglhbhnaaGreat
