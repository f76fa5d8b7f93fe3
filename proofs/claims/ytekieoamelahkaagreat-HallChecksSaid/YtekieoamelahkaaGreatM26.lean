/- Mirror images: placeError, mirrored, MirrorIn. -/
import Derived.Test.YtekieoamelahkaaGreatM17
import Derived.StillTailTactics
set_option maxRecDepth 100000
set_option maxHeartbeats 1000000
set_option linter.unusedVariables false
set_option linter.unusedSimpArgs false
namespace Go.Proofs.YtekieoamelahkaaGreat
open Go.RowKit

theorem slc1 {W : World} {B : Nat} {x : Int} (h0 : W.cell? ⟨B, 0, none⟩ = some (.int .i64 x)) : SlcAt encInt W (.slice (some ⟨B, 0, none⟩) 1 1) [x] := by
 refine ⟨by simp, _, _, rfl, fun _ => ⟨B, 0, rfl, has_of_cell h0, fun i v hi j hj => ?_⟩⟩
 have hj0 : j = 0 := by have : j < 1 := hj; omega
 subst hj0
 rcases i with _ | i
 · simp at hi; subst hi; exact ⟨_, h0, rfl⟩
 · simp at hi

def placeE (x y z : Int) : Int := if beyondB 45000 [x, y, z] then 2 else 0
theorem beyond3P {x y z : Int} (h : beyondB 45000 [x, y, z] = false) : (-45000 ≤ x ∧ x ≤ 45000) ∧ (-45000 ≤ y ∧ y ≤ 45000) ∧ (-45000 ≤ z ∧ z ≤ 45000) := by
 simp [beyondB, outB] at h
 omega
theorem beyond1P {L x : Int} (h : beyondB L [x] = false) : -L ≤ x ∧ x ≤ L := by
 simp [beyondB, outB] at h
 omega

theorem placeError_any (x y z : Int) (w : World) : Calls Tryz.prog 106 #[.agg #[.int .i64 x, .int .i64 y, .int .i64 z]] w (RetX w (.int .i64 (placeE x y z))) := by
 have HE : Hid (placeE x y z = if beyondB 45000 [x, y, z] then 2 else 0) := rfl
 have HY := hidden (fun (W : World) (B : Nat) (h0 : W.cell? ⟨B, 0, none⟩ = some (.int .i64 x)) (h1 : W.cell? ⟨B, 1, none⟩ = some (.int .i64 y)) (h2 : W.cell? ⟨B, 2, none⟩ = some (.int .i64 z)) => beyond_any 45000 (by omega) [x, y, z] (some ⟨B, 0, none⟩) 3 W (slc3 h0 h1 h2))
 cases hb : beyondB 45000 [x, y, z]
 all_goals
  rw [hb] at HE HY
  go_enter Tryz.func106, Tryz.ntmps106
  go_wp2_with (first | (go_at_call 105; refine (HY.out _ _ (by simp [go_sem]) (by simp [go_sem]) (by simp [go_sem])).mono ?_; rintro e w' ⟨rfl, x1, rfl⟩))
  go_ret
  refine retX_int (by rw [HE.out]; simp) ?_
  (repeat' first | with_reducible (first | apply bz0 | assumption | apply bz1 | apply bz2 | apply bz3 | apply bz4 | apply bz5) | (simp <;> omega))

def mirX (k A x y : Int) : Int := if k = 0 then 2 * A - x else if k = 3 then A - y else if k = 4 then A + y else x
def mirY (k A x y : Int) : Int := if k = 1 then 2 * A - y else if k = 3 then A - x else if k = 4 then x - A else y
def mirZ (k A z : Int) : Int := if k = 2 then 2 * A - z else z

theorem mirrored_any (k A x y z : Int) (w : World) (hk : 0 ≤ k ∧ k ≤ 4) (hA : -10000 ≤ A ∧ A ≤ 10000) (hx : -45000 ≤ x ∧ x ≤ 45000) (hy : -45000 ≤ y ∧ y ≤ 45000) (hz : -45000 ≤ z ∧ z ≤ 45000) :
 Calls Tryz.prog 107 #[.agg #[.int .i64 k, .int .i64 A], .agg #[.int .i64 x, .int .i64 y, .int .i64 z]] w (RetX w (.agg #[.int .i64 (mirX k A x y), .int .i64 (mirY k A x y), .int .i64 (mirZ k A z)])) := by
 have hk' : k = 0 ∨ k = 1 ∨ k = 2 ∨ k = 3 ∨ k = 4 := by omega
 clear hk
 rcases hk' with rfl | rfl | rfl | rfl | rfl
 · go_enter Tryz.func107, Tryz.ntmps107
   go_wp2
   refine bodyPost_ret (v := .agg #[.int .i64 (2 * A - x), .int .i64 y, .int .i64 z]) (by simp [results, Tryz.results107, go_sem]) rfl (retX rfl ?_)
   (repeat' first | with_reducible (first | apply bz0 | assumption | apply bz1 | apply bz2 | apply bz3 | apply bz4 | apply bz5) | (simp <;> omega))
 · go_enter Tryz.func107, Tryz.ntmps107
   go_wp2
   refine bodyPost_ret (v := .agg #[.int .i64 x, .int .i64 (2 * A - y), .int .i64 z]) (by simp [results, Tryz.results107, go_sem]) rfl (retX rfl ?_)
   (repeat' first | with_reducible (first | apply bz0 | assumption | apply bz1 | apply bz2 | apply bz3 | apply bz4 | apply bz5) | (simp <;> omega))
 · go_enter Tryz.func107, Tryz.ntmps107
   go_wp2
   refine bodyPost_ret (v := .agg #[.int .i64 x, .int .i64 y, .int .i64 (2 * A - z)]) (by simp [results, Tryz.results107, go_sem]) rfl (retX rfl ?_)
   (repeat' first | with_reducible (first | apply bz0 | assumption | apply bz1 | apply bz2 | apply bz3 | apply bz4 | apply bz5) | (simp <;> omega))
 · have e1 : IntKind.i64.wrap (A - y) = A - y := IntWalk.i64_in _ (by omega)
   have e2 : IntKind.i64.wrap (A - x) = A - x := IntWalk.i64_in _ (by omega)
   go_enter Tryz.func107, Tryz.ntmps107
   go_wp2
   go_region
   all_goals go_wp2
   all_goals (refine bodyPost_ret (v := .agg #[.int .i64 (A - y), .int .i64 (A - x), .int .i64 z]) (by simp [results, Tryz.results107, go_sem]) rfl (retX rfl ?_); (repeat' first | with_reducible (first | apply bz0 | assumption | apply bz1 | apply bz2 | apply bz3 | apply bz4 | apply bz5) | (simp <;> omega)))
 · have e1 : IntKind.i64.wrap (A + y) = A + y := IntWalk.i64_in _ (by omega)
   have e2 : IntKind.i64.wrap (x - A) = x - A := IntWalk.i64_in _ (by omega)
   go_enter Tryz.func107, Tryz.ntmps107
   go_wp2
   go_region
   all_goals go_wp2
   all_goals (refine bodyPost_ret (v := .agg #[.int .i64 (A + y), .int .i64 (x - A), .int .i64 z]) (by simp [results, Tryz.results107, go_sem]) rfl (retX rfl ?_); (repeat' first | with_reducible (first | apply bz0 | assumption | apply bz1 | apply bz2 | apply bz3 | apply bz4 | apply bz5) | (simp <;> omega)))

def mirE (k A x y z : Int) : Int := if k < 0 then 15 else if 4 < k then 15 else if beyondB 10000 [A] then 2 else if beyondB 45000 [x, y, z] then 2 else if beyondB 45000 [mirX k A x y, mirY k A x y, mirZ k A z] then 8 else 0
def mirV (k A x y z : Int) : Value := if mirE k A x y z = 0 then .tuple #[.agg #[.int .i64 (mirX k A x y), .int .i64 (mirY k A x y), .int .i64 (mirZ k A z)], .int .i64 0] else .tuple #[.agg #[.int .i64 0, .int .i64 0, .int .i64 0], .int .i64 (mirE k A x y z)]

end Go.Proofs.YtekieoamelahkaaGreat

/- MirrorIn. -/
namespace Go.Proofs.YtekieoamelahkaaGreat
open Go.RowKit

theorem MirrorIn_any (k A x y z : Int) (w : World) : Calls Tryz.prog 47 #[.agg #[.int .i64 k, .int .i64 A], .agg #[.int .i64 x, .int .i64 y, .int .i64 z]] w (RetX w (mirV k A x y z)) := by
 have HY := hidden (fun (W : World) (B : Nat) (h0 : W.cell? ⟨B, 0, none⟩ = some (.int .i64 A)) => beyond_any 10000 (by omega) [A] (some ⟨B, 0, none⟩) 1 W (slc1 h0))
 have HP := hidden (fun W => placeError_any x y z W)
 have HE : Hid (mirE k A x y z = if k < 0 then 15 else if 4 < k then 15 else if beyondB 10000 [A] then 2 else if beyondB 45000 [x, y, z] then 2 else if beyondB 45000 [mirX k A x y, mirY k A x y, mirZ k A z] then 8 else 0) := rfl
 have HV : Hid (mirV k A x y z = if mirE k A x y z = 0 then .tuple #[.agg #[.int .i64 (mirX k A x y), .int .i64 (mirY k A x y), .int .i64 (mirZ k A z)], .int .i64 0] else .tuple #[.agg #[.int .i64 0, .int .i64 0, .int .i64 0], .int .i64 (mirE k A x y z)]) := rfl
 clear HP
 have hc : (decide (k < 0) = true) ∨ (decide (k < 0) = false ∧ decide (4 < k) = true) ∨ (decide (k < 0) = false ∧ decide (4 < k) = false) := by simp; omega
 rcases hc with p0 | ⟨p0, p1⟩ | ⟨p0, p1⟩
 · have hE := HE.out
   rw [if_pos (of_decide_eq_true p0)] at hE
   have hV := HV.out
   rw [hE] at hV
   rw [hV]
   clear HE HV hV hE
   go_enter Tryz.func47, Tryz.ntmps47
   go_wp2_with (first | (go_at_call 105; refine (HY.out _ _ (by simp [go_sem])).mono ?_; rintro e w' ⟨rfl, x1, rfl⟩) | (go_at_call 106; refine (placeError_any _ _ _ _).mono ?_; rintro e w' ⟨rfl, x2, rfl⟩) | (go_at_call 107; refine (HM.out _).mono ?_; rintro e w' ⟨rfl, x3, rfl⟩))
   refine bodyPost_ret ?_ rfl (retX rfl ?_); (simp [results, Tryz.results47, go_sem]); (repeat' first | with_reducible (first | apply bz0 | assumption | apply bz1 | apply bz2 | apply bz3 | apply bz4 | apply bz5) | (simp <;> omega))
 · have hE := HE.out
   rw [if_neg (of_decide_eq_false p0), if_pos (of_decide_eq_true p1)] at hE
   have hV := HV.out
   rw [hE] at hV
   rw [hV]
   clear HE HV hV hE
   go_enter Tryz.func47, Tryz.ntmps47
   go_wp2_with (first | (go_at_call 105; refine (HY.out _ _ (by simp [go_sem])).mono ?_; rintro e w' ⟨rfl, x1, rfl⟩) | (go_at_call 106; refine (placeError_any _ _ _ _).mono ?_; rintro e w' ⟨rfl, x2, rfl⟩) | (go_at_call 107; refine (HM.out _).mono ?_; rintro e w' ⟨rfl, x3, rfl⟩))
   refine bodyPost_ret ?_ rfl (retX rfl ?_); (simp [results, Tryz.results47, go_sem]); (repeat' first | with_reducible (first | apply bz0 | assumption | apply bz1 | apply bz2 | apply bz3 | apply bz4 | apply bz5) | (simp <;> omega))
 · have hE := HE.out
   rw [if_neg (of_decide_eq_false p0), if_neg (of_decide_eq_false p1)] at hE
   have hk : 0 ≤ k ∧ k ≤ 4 := by simp at p0 p1; omega
   clear HE
   cases b0 : beyondB 10000 [A] with
   | true =>
    rw [b0, if_pos rfl] at hE
    have hV := HV.out
    rw [hE] at hV
    rw [hV]
    rw [b0] at HY
    clear HV hV hE
    go_enter Tryz.func47, Tryz.ntmps47
    go_wp2_with (first | (go_at_call 105; refine (HY.out _ _ (by simp [go_sem])).mono ?_; rintro e w' ⟨rfl, x1, rfl⟩) | (go_at_call 106; refine (placeError_any _ _ _ _).mono ?_; rintro e w' ⟨rfl, x2, rfl⟩) | (go_at_call 107; refine (HM.out _).mono ?_; rintro e w' ⟨rfl, x3, rfl⟩))
    refine bodyPost_ret ?_ rfl (retX rfl ?_); (simp [results, Tryz.results47, go_sem]); (repeat' first | with_reducible (first | apply bz0 | assumption | apply bz1 | apply bz2 | apply bz3 | apply bz4 | apply bz5) | (simp <;> omega))
   | false =>
    have hA := beyond1P b0
    rw [b0, if_neg (by simp)] at hE
    rw [b0] at HY
    cases b1 : beyondB 45000 [x, y, z] with
    | true =>
     have hp1 : placeE x y z = 2 := by unfold placeE; rw [b1]; rfl
     rw [b1, if_pos rfl] at hE
     have hV := HV.out
     rw [hE] at hV
     rw [hV]
     clear HV hV hE
     go_enter Tryz.func47, Tryz.ntmps47
     go_wp2_with (first | (go_at_call 105; refine (HY.out _ _ (by simp [go_sem])).mono ?_; rintro e w' ⟨rfl, x1, rfl⟩) | (go_at_call 106; refine (placeError_any _ _ _ _).mono ?_; rintro e w' ⟨rfl, x2, rfl⟩) | (go_at_call 107; refine (HM.out _).mono ?_; rintro e w' ⟨rfl, x3, rfl⟩))
     refine bodyPost_ret ?_ rfl (retX rfl ?_); (simp [results, Tryz.results47, go_sem]); (repeat' first | with_reducible (first | apply bz0 | assumption | apply bz1 | apply bz2 | apply bz3 | apply bz4 | apply bz5) | (simp <;> omega))
    | false =>
     have hp1 : placeE x y z = 0 := by unfold placeE; rw [b1]; rfl
     obtain ⟨hx, hy, hz⟩ := beyond3P b1
     rw [b1, if_neg (by simp)] at hE
     have HM := hidden (fun W => mirrored_any k A x y z W hk hA hx hy hz)
     have HV2 := HV.out
     generalize mirE k A x y z = E at *
     generalize mirX k A x y = X at *
     generalize mirY k A x y = Y at *
     generalize mirZ k A z = Z at *
     cases b2 : beyondB 45000 [X, Y, Z] with
     | true =>
      have hp2 : placeE X Y Z = 2 := by unfold placeE; rw [b2]; rfl
      rw [b2, if_pos rfl] at hE
      subst hE
      rw [HV2, if_neg (by decide)]
      clear HV HV2
      go_enter Tryz.func47, Tryz.ntmps47
      go_wp2_with (first | (go_at_call 105; refine (HY.out _ _ (by simp [go_sem])).mono ?_; rintro e w' ⟨rfl, x1, rfl⟩) | (go_at_call 106; refine (placeError_any _ _ _ _).mono ?_; rintro e w' ⟨rfl, x2, rfl⟩) | (go_at_call 107; refine (HM.out _).mono ?_; rintro e w' ⟨rfl, x3, rfl⟩))
      refine bodyPost_ret ?_ rfl (retX rfl ?_); (simp [results, Tryz.results47, go_sem]); (repeat' first | with_reducible (first | apply bz0 | assumption | apply bz1 | apply bz2 | apply bz3 | apply bz4 | apply bz5) | (simp <;> omega))
     | false =>
      have hp2 : placeE X Y Z = 0 := by unfold placeE; rw [b2]; rfl
      rw [b2, if_neg (by simp)] at hE
      subst hE
      rw [HV2, if_pos rfl]
      clear HV HV2
      go_enter Tryz.func47, Tryz.ntmps47
      go_wp2_with (first | (go_at_call 105; refine (HY.out _ _ (by simp [go_sem])).mono ?_; rintro e w' ⟨rfl, x1, rfl⟩) | (go_at_call 106; refine (placeError_any _ _ _ _).mono ?_; rintro e w' ⟨rfl, x2, rfl⟩) | (go_at_call 107; refine (HM.out _).mono ?_; rintro e w' ⟨rfl, x3, rfl⟩))
      refine bodyPost_ret ?_ rfl (retX rfl ?_); (simp [results, Tryz.results47, go_sem]); (repeat' first | with_reducible (first | apply bz0 | assumption | apply bz1 | apply bz2 | apply bz3 | apply bz4 | apply bz5) | (simp <;> omega))
end Go.Proofs.YtekieoamelahkaaGreat

/- Mirror images in the reference. -/
namespace Go.Proofs.YtekieoamelahkaaGreat
open Go.RowKit
def wiB (n lo hi : Int) : Bool := decide (lo ≤ n) && decide (n ≤ hi)
theorem Within_any (n lo hi : Int) (w : World) : Calls Tryz.prog 45 #[.int .i64 n, .int .i64 lo, .int .i64 hi] w (RetX w (.bool (wiB n lo hi))) := by
 go_enter Tryz.func45, Tryz.ntmps45
 go_wp2
 all_goals (go_ret; refine retX_bool (by simp_all [wiB] <;> (intros; omega)) ?_; (repeat' first | with_reducible (first | apply bz0 | assumption | apply bz1 | apply bz2 | apply bz3 | apply bz4 | apply bz5) | (simp <;> omega)))
theorem isImage_any (n : Int) (w : World) : Calls Tryz.prog 148 #[.int .i64 n] w (RetX w (.bool (wiB n (-45000) 45000))) := by
 go_enter Tryz.func148, Tryz.ntmps148
 go_wp2_with (go_at_call 45; refine (Within_any _ _ _ _).mono ?_; rintro e w' ⟨rfl, x1, rfl⟩)
 go_ret
 refine retX_bool rfl ?_
 (repeat' first | with_reducible (first | apply bz0 | assumption | apply bz1 | apply bz2 | apply bz3 | apply bz4 | apply bz5) | (simp <;> omega))
theorem out_wi (L x : Int) : outB L x = !wiB x (-L) L := by
 rw [Bool.eq_iff_iff]
 simp [outB, wiB]
 omega
theorem placeE_wi (x y z : Int) : placeE x y z = if wiB x (-45000) 45000 && (wiB y (-45000) 45000 && wiB z (-45000) 45000) then 0 else 2 := by
 unfold placeE beyondB
 simp only [List.any_cons, List.any_nil, Bool.or_false, out_wi]
 cases wiB x (-45000) 45000 <;> cases wiB y (-45000) 45000 <;> cases wiB z (-45000) 45000 <;> rfl
theorem PlaceErr_any (x y z : Int) (w : World) : Calls Tryz.prog 109 #[.agg #[.int .i64 x, .int .i64 y, .int .i64 z]] w (RetX w (.int .i64 (placeE x y z))) := by
 rw [placeE_wi]
 have HX := hidden (fun W => isImage_any x W)
 have HY := hidden (fun W => isImage_any y W)
 have HZ := hidden (fun W => isImage_any z W)
 generalize wiB x (-45000) 45000 = bx at *
 generalize wiB y (-45000) 45000 = by' at *
 generalize wiB z (-45000) 45000 = bz at *
 have hc : bx = false ∨ (bx = true ∧ by' = false) ∨ (bx = true ∧ by' = true ∧ bz = false) ∨ (bx = true ∧ by' = true ∧ bz = true) := by cases bx <;> cases by' <;> cases bz <;> simp
 rcases hc with rfl | ⟨rfl, rfl⟩ | ⟨rfl, rfl, rfl⟩ | ⟨rfl, rfl, rfl⟩
 all_goals
  go_enter Tryz.func109, Tryz.ntmps109
  go_wp2_with (go_at_call 148; first | ((with_reducible refine (HX.out _).mono ?_); rintro e w' ⟨rfl, x1, rfl⟩) | ((with_reducible refine (HY.out _).mono ?_); rintro e w' ⟨rfl, x2, rfl⟩) | (refine (HZ.out _).mono ?_; rintro e w' ⟨rfl, x3, rfl⟩))
  go_ret
  refine retX_int (by simp) ?_
  (repeat' first | with_reducible (first | apply bz0 | assumption | apply bz1 | apply bz2 | apply bz3 | apply bz4 | apply bz5) | (simp <;> omega))
def planeE (k A : Int) : Int := if wiB k 0 4 = true then (if wiB A (-10000) 10000 = true then 0 else 2) else 15
theorem PlaneErr_any (k A : Int) (w : World) : Calls Tryz.prog 108 #[.agg #[.int .i64 k, .int .i64 A]] w (RetX w (.int .i64 (planeE k A))) := by
 unfold planeE
 have HX := hidden (fun W => Within_any k 0 4 W)
 have HY := hidden (fun W => Within_any A (-10000) 10000 W)
 generalize wiB k 0 4 = bx at *
 generalize wiB A (-10000) 10000 = by' at *
 have hc : bx = false ∨ (bx = true ∧ by' = false) ∨ (bx = true ∧ by' = true) := by cases bx <;> cases by' <;> simp
 rcases hc with rfl | ⟨rfl, rfl⟩ | ⟨rfl, rfl⟩
 all_goals
  go_enter Tryz.func108, Tryz.ntmps108
  go_wp2_with (go_at_call 45; first | ((with_reducible refine (HX.out _).mono ?_); rintro e w' ⟨rfl, x1, rfl⟩) | ((with_reducible refine (HY.out _).mono ?_); rintro e w' ⟨rfl, x2, rfl⟩))
  go_ret
  refine retX_int (by simp) ?_
  (repeat' first | with_reducible (first | apply bz0 | assumption | apply bz1 | apply bz2 | apply bz3 | apply bz4 | apply bz5) | (simp <;> omega))
theorem refMirror_any (k A x y z : Int) (w : World) (hk : 0 ≤ k ∧ k ≤ 4) (hA : -10000 ≤ A ∧ A ≤ 10000) (hx : -45000 ≤ x ∧ x ≤ 45000) (hy : -45000 ≤ y ∧ y ≤ 45000) (hz : -45000 ≤ z ∧ z ≤ 45000) :
 Calls Tryz.prog 110 #[.agg #[.int .i64 k, .int .i64 A], .agg #[.int .i64 x, .int .i64 y, .int .i64 z]] w (RetX w (.agg #[.int .i64 (mirX k A x y), .int .i64 (mirY k A x y), .int .i64 (mirZ k A z)])) := by
 have hk' : k = 0 ∨ k = 1 ∨ k = 2 ∨ k = 3 ∨ k = 4 := by omega
 clear hk
 rcases hk' with rfl | rfl | rfl | rfl | rfl
 · go_enter Tryz.func110, Tryz.ntmps110
   go_wp2
   refine bodyPost_ret (v := .agg #[.int .i64 (2 * A - x), .int .i64 y, .int .i64 z]) (by simp [results, Tryz.results110, go_sem]) rfl (retX rfl ?_)
   (repeat' first | with_reducible (first | apply bz0 | assumption | apply bz1 | apply bz2 | apply bz3 | apply bz4 | apply bz5) | (simp <;> omega))
 · go_enter Tryz.func110, Tryz.ntmps110
   go_wp2
   refine bodyPost_ret (v := .agg #[.int .i64 x, .int .i64 (2 * A - y), .int .i64 z]) (by simp [results, Tryz.results110, go_sem]) rfl (retX rfl ?_)
   (repeat' first | with_reducible (first | apply bz0 | assumption | apply bz1 | apply bz2 | apply bz3 | apply bz4 | apply bz5) | (simp <;> omega))
 · go_enter Tryz.func110, Tryz.ntmps110
   go_wp2
   refine bodyPost_ret (v := .agg #[.int .i64 x, .int .i64 y, .int .i64 (2 * A - z)]) (by simp [results, Tryz.results110, go_sem]) rfl (retX rfl ?_)
   (repeat' first | with_reducible (first | apply bz0 | assumption | apply bz1 | apply bz2 | apply bz3 | apply bz4 | apply bz5) | (simp <;> omega))
 · go_enter Tryz.func110, Tryz.ntmps110
   go_wp2
   refine bodyPost_ret (v := .agg #[.int .i64 (A - y), .int .i64 (A - x), .int .i64 z]) (by simp [results, Tryz.results110, go_sem]) rfl (retX rfl ?_)
   (repeat' first | with_reducible (first | apply bz0 | assumption | apply bz1 | apply bz2 | apply bz3 | apply bz4 | apply bz5) | (simp <;> omega))
 · go_enter Tryz.func110, Tryz.ntmps110
   go_wp2
   refine bodyPost_ret (v := .agg #[.int .i64 (A + y), .int .i64 (x - A), .int .i64 z]) (by simp [results, Tryz.results110, go_sem]; omega) rfl (retX rfl ?_)
   (repeat' first | with_reducible (first | apply bz0 | assumption | apply bz1 | apply bz2 | apply bz3 | apply bz4 | apply bz5) | (simp <;> omega))
theorem mirE_ref (k A x y z : Int) : mirE k A x y z = if planeE k A = 0 then (if placeE x y z = 0 then (if placeE (mirX k A x y) (mirY k A x y) (mirZ k A z) = 0 then 0 else 8) else 2) else planeE k A := by
 have h1 : beyondB 10000 [A] = !wiB A (-10000) 10000 := by simp [beyondB, out_wi]
 unfold mirE planeE placeE
 rw [h1]
 by_cases p0 : k < 0
 · have : wiB k 0 4 = false := by simp [wiB]; omega
   simp [p0, this]
 · by_cases p1 : 4 < k
   · have : wiB k 0 4 = false := by simp [wiB]; omega
     simp [p0, p1, this]
   · have : wiB k 0 4 = true := by simp [wiB]; omega
     simp only [p0, p1, this, if_true, if_false]
     cases wiB A (-10000) 10000 <;> cases beyondB 45000 [x, y, z] <;> cases beyondB 45000 [mirX k A x y, mirY k A x y, mirZ k A z] <;> simp
theorem refMirrorIn_any (k A x y z : Int) (w : World) : Calls Tryz.prog 48 #[.agg #[.int .i64 k, .int .i64 A], .agg #[.int .i64 x, .int .i64 y, .int .i64 z]] w (RetX w (mirV k A x y z)) := by
 have HP := hidden (fun W => PlaneErr_any k A W)
 have HQ := hidden (fun W => PlaceErr_any x y z W)
 have HE := hidden (mirE_ref k A x y z)
 have HV : Hid (mirV k A x y z = if mirE k A x y z = 0 then .tuple #[.agg #[.int .i64 (mirX k A x y), .int .i64 (mirY k A x y), .int .i64 (mirZ k A z)], .int .i64 0] else .tuple #[.agg #[.int .i64 0, .int .i64 0, .int .i64 0], .int .i64 (mirE k A x y z)]) := rfl
 by_cases p0 : planeE k A = 0
 · by_cases p1 : placeE x y z = 0
   · have hk : 0 ≤ k ∧ k ≤ 4 := by
      unfold planeE at p0
      cases q : wiB k 0 4 with
      | true => simp [wiB] at q; exact q
      | false => rw [q] at p0; simp at p0
     have hA : -10000 ≤ A ∧ A ≤ 10000 := by
      unfold planeE at p0
      cases q : wiB k 0 4 with
      | true =>
       rw [q] at p0
       cases q' : wiB A (-10000) 10000 with
       | true => simp [wiB] at q'; exact q'
       | false => rw [q'] at p0; simp at p0
      | false => rw [q] at p0; simp at p0
     have hb : beyondB 45000 [x, y, z] = false := by
      unfold placeE at p1
      cases q : beyondB 45000 [x, y, z] with
      | true => rw [q] at p1; simp at p1
      | false => rfl
     obtain ⟨hx, hy, hz⟩ := beyond3P hb
     have HM := hidden (fun W => refMirror_any k A x y z W hk hA hx hy hz)
     have HR := hidden (fun W => PlaceErr_any (mirX k A x y) (mirY k A x y) (mirZ k A z) W)
     have hE := HE.out
     rw [if_pos p0, if_pos p1] at hE
     rw [p0] at HP
     rw [p1] at HQ
     generalize mirE k A x y z = E at *
     generalize mirX k A x y = X at *
     generalize mirY k A x y = Y at *
     generalize mirZ k A z = Z at *
     clear HE p0 p1 hb hk hA hx hy hz
     by_cases p2 : placeE X Y Z = 0
     · rw [if_pos p2] at hE
       subst hE
       rw [HV.out, if_pos rfl]
       rw [p2] at HR
       clear HV p2
       go_enter Tryz.func48, Tryz.ntmps48
       go_wp2_with (first | (go_at_call 108; (with_reducible refine (HP.out _).mono ?_); rintro e w' ⟨rfl, x1, rfl⟩) | (go_at_call 109; first | ((with_reducible refine (HQ.out _).mono ?_); rintro e w' ⟨rfl, x2, rfl⟩) | ((with_reducible refine (HR.out _).mono ?_); rintro e w' ⟨rfl, x4, rfl⟩)) | (go_at_call 110; (with_reducible refine (HM.out _).mono ?_); rintro e w' ⟨rfl, x3, rfl⟩))
       refine bodyPost_ret (v := .tuple #[.agg #[.int .i64 X, .int .i64 Y, .int .i64 Z], .int .i64 0]) (by simp [results, Tryz.results48, go_sem]) rfl (retX rfl ?_)
       (repeat' first | with_reducible (first | apply bz0 | assumption | apply bz1 | apply bz2 | apply bz3 | apply bz4 | apply bz5) | (simp <;> omega))
     · rw [if_neg p2] at hE
       subst hE
       rw [HV.out, if_neg (by decide)]
       have p3 : placeE X Y Z = 2 := by unfold placeE at p2 ⊢; split <;> simp_all
       rw [p3] at HR
       clear HV p2 p3
       go_enter Tryz.func48, Tryz.ntmps48
       go_wp2_with (first | (go_at_call 108; (with_reducible refine (HP.out _).mono ?_); rintro e w' ⟨rfl, x1, rfl⟩) | (go_at_call 109; first | ((with_reducible refine (HQ.out _).mono ?_); rintro e w' ⟨rfl, x2, rfl⟩) | ((with_reducible refine (HR.out _).mono ?_); rintro e w' ⟨rfl, x4, rfl⟩)) | (go_at_call 110; (with_reducible refine (HM.out _).mono ?_); rintro e w' ⟨rfl, x3, rfl⟩))
       refine bodyPost_ret (v := .tuple #[.agg #[.int .i64 0, .int .i64 0, .int .i64 0], .int .i64 8]) (by simp [results, Tryz.results48, go_sem]) rfl (retX rfl ?_)
       (repeat' first | with_reducible (first | apply bz0 | assumption | apply bz1 | apply bz2 | apply bz3 | apply bz4 | apply bz5) | (simp <;> omega))
   · have hE := HE.out
     rw [if_pos p0, if_neg p1] at hE
     have p3 : placeE x y z = 2 := by unfold placeE at p1 ⊢; split <;> simp_all
     rw [p0] at HP
     rw [p3] at HQ
     rw [HV.out, hE, if_neg (by decide)]
     clear HE HV hE p0 p1 p3
     go_enter Tryz.func48, Tryz.ntmps48
     go_wp2_with (first | (go_at_call 108; (with_reducible refine (HP.out _).mono ?_); rintro e w' ⟨rfl, x1, rfl⟩) | (go_at_call 109; (with_reducible refine (HQ.out _).mono ?_); rintro e w' ⟨rfl, x2, rfl⟩))
     refine bodyPost_ret (v := .tuple #[.agg #[.int .i64 0, .int .i64 0, .int .i64 0], .int .i64 2]) (by simp [results, Tryz.results48, go_sem]) rfl (retX rfl ?_)
     (repeat' first | with_reducible (first | apply bz0 | assumption | apply bz1 | apply bz2 | apply bz3 | apply bz4 | apply bz5) | (simp <;> omega))
 · have hE := HE.out
   rw [if_neg p0] at hE
   rw [HV.out, hE, if_neg p0]
   clear HE HV hE HQ
   generalize planeE k A = z' at *
   have q4 : (z' != 0) = true := by simp [p0]
   have q5 : (z' == 0) = false := by simp [p0]
   go_enter Tryz.func48, Tryz.ntmps48
   go_wp2_with (go_at_call 108; (with_reducible refine (HP.out _).mono ?_); rintro e w' ⟨rfl, x1, rfl⟩)
   refine bodyPost_ret (v := .tuple #[.agg #[.int .i64 0, .int .i64 0, .int .i64 0], .int .i64 z']) (by simp [results, Tryz.results48, go_sem]) rfl (retX rfl ?_)
   (repeat' first | with_reducible (first | apply bz0 | assumption | apply bz1 | apply bz2 | apply bz3 | apply bz4 | apply bz5) | (simp <;> omega))
theorem refPointOf_any (x y z : Int) (w : World) :
 Calls Tryz.prog 51 #[.agg #[.int .i64 x, .int .i64 y, .int .i64 z]] w (RetX w (.agg #[.int .i64 x, .int .i64 y, .int .i64 z, .int .i64 1])) := by
 go_enter Tryz.func51, Tryz.ntmps51
 go_wp2
 refine bodyPost_ret (v := .agg #[.int .i64 x, .int .i64 y, .int .i64 z, .int .i64 1]) (by simp [results, Tryz.results51, go_sem]) rfl (retX rfl ?_)
 (repeat' first | with_reducible (first | apply bz0 | assumption | apply bz1 | apply bz2 | apply bz3 | apply bz4 | apply bz5) | (simp <;> omega))
end Go.Proofs.YtekieoamelahkaaGreat
