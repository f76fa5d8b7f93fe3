/- pointError, lowest. -/
import Derived.Test.YtbonjgeglhbhnaaGreatM34
import Derived.Test.YtbonjgeglhbhnaaGreatM27
set_option linter.unusedVariables false
set_option linter.unusedSimpArgs false
namespace Go.Proofs.YtbonjgeglhbhnaaGreat
open Go.RowKit

def dvP (x y z d : Int) : Int := dvTo d [x, y, z] 3
def ptE (x y z d : Int) : Int := if d ≤ 0 then 3 else if 1 < dvP x y z d then 3 else if 100000 < d then 2 else if beyondB (5000 * d) [x, y, z] then 2 else 0
theorem three_bd {B x y z : Int} (hx : -B ≤ x ∧ x ≤ B) (hy : -B ≤ y ∧ y ≤ B) (hz : -B ≤ z ∧ z ≤ B) : ∀ k, k < [x, y, z].length → -B ≤ intAt [x, y, z] k ∧ intAt [x, y, z] k ≤ B := by
  intro k hk
  have : k = 0 ∨ k = 1 ∨ k = 2 := by simp at hk; omega
  rcases this with rfl | rfl | rfl
  · exact hx
  · exact hy
  · exact hz

set_option maxRecDepth 100000 in set_option maxHeartbeats 1000000 in
theorem pointError_any (x y z d : Int) (w : World) (hd : d ≤ 100000000000000) (hx : -4000000000000000000 ≤ x ∧ x ≤ 4000000000000000000) (hy : -4000000000000000000 ≤ y ∧ y ≤ 4000000000000000000) (hz : -4000000000000000000 ≤ z ∧ z ≤ 4000000000000000000) :
    Calls Tryz.prog 84 #[.agg #[.int .i64 x, .int .i64 y, .int .i64 z, .int .i64 d]] w (RetX w (.int .i64 (ptE x y z d))) := by
  have HE : Hid (ptE x y z d = if d ≤ 0 then 3 else if 1 < dvP x y z d then 3 else if 100000 < d then 2 else if beyondB (5000 * d) [x, y, z] then 2 else 0) := rfl
  cases q0 : decide (d ≤ 0) with
  | true =>
    have hE := HE.out
    rw [if_pos (of_decide_eq_true q0)] at hE
    rw [hE]
    clear HE hE
    go_enter Tryz.func84, Tryz.ntmps84
    go_wp2
    go_ret
    refine retX_int rfl ?_
    (repeat' (first | (with_reducible exact Below.refl _ _) | (with_reducible assumption) | (with_reducible refine Below.drew ?_) | (with_reducible refine Below.drewNStep ?_ _) | (with_reducible refine Below.alloc ?_ ?_ _) | (with_reducible refine Below.setCell ?_ ?_ _) | (with_reducible refine Below.extStep ?_ ?_ _) | (simp; done) | (simp; omega)))
  | false =>
    have d0 := of_decide_eq_false q0
    have hE := HE.out
    rw [if_neg d0] at hE
    have HD := hidden (fun (W : World) (B : Nat) (h0 : W.cell? ⟨B, 0, none⟩ = some (.int .i64 x)) (h1 : W.cell? ⟨B, 1, none⟩ = some (.int .i64 y)) (h2 : W.cell? ⟨B, 2, none⟩ = some (.int .i64 z)) => divisor_any d ⟨by omega, by omega⟩ [x, y, z] (three_bd hx hy hz) (some ⟨B, 0, none⟩) 3 W (slc3 h0 h1 h2))
    have hDd : Hid (dvTo d [x, y, z] [x, y, z].length = dvP x y z d) := rfl
    rw [hDd.out] at HD
    clear HE hDd
    generalize dvP x y z d = g at *
    generalize ptE x y z d = E at *
    cases q1 : decide (1 < g) with
    | true =>
      rw [if_pos (of_decide_eq_true q1)] at hE
      subst hE
      go_enter Tryz.func84, Tryz.ntmps84
      go_wp2_with (go_at_call 111; refine (HD.out _ _ (by simp [go_sem]) (by simp [go_sem]) (by simp [go_sem])).mono ?_; rintro e w' ⟨rfl, u1, rfl⟩)
      go_ret
      refine retX_int rfl ?_
      (repeat' (first | (with_reducible exact Below.refl _ _) | (with_reducible assumption) | (with_reducible refine Below.drew ?_) | (with_reducible refine Below.drewNStep ?_ _) | (with_reducible refine Below.alloc ?_ ?_ _) | (with_reducible refine Below.setCell ?_ ?_ _) | (with_reducible refine Below.extStep ?_ ?_ _) | (simp; done) | (simp; omega)))
    | false =>
      rw [if_neg (of_decide_eq_false q1)] at hE
      cases q2 : decide (100000 < d) with
      | true =>
        rw [if_pos (of_decide_eq_true q2)] at hE
        subst hE
        go_enter Tryz.func84, Tryz.ntmps84
        go_wp2_with (go_at_call 111; refine (HD.out _ _ (by simp [go_sem]) (by simp [go_sem]) (by simp [go_sem])).mono ?_; rintro e w' ⟨rfl, u1, rfl⟩)
        go_ret
        refine retX_int rfl ?_
        (repeat' (first | (with_reducible exact Below.refl _ _) | (with_reducible assumption) | (with_reducible refine Below.drew ?_) | (with_reducible refine Below.drewNStep ?_ _) | (with_reducible refine Below.alloc ?_ ?_ _) | (with_reducible refine Below.setCell ?_ ?_ _) | (with_reducible refine Below.extStep ?_ ?_ _) | (simp; done) | (simp; omega)))
      | false =>
        have d1 := of_decide_eq_false q2
        rw [if_neg d1] at hE
        have e1 : IntKind.i64.wrap (5000 * d) = 5000 * d := IntWalk.i64_in _ (by omega)
        have HY := hidden (fun (W : World) (B : Nat) (h0 : W.cell? ⟨B, 0, none⟩ = some (.int .i64 x)) (h1 : W.cell? ⟨B, 1, none⟩ = some (.int .i64 y)) (h2 : W.cell? ⟨B, 2, none⟩ = some (.int .i64 z)) => beyond_any (5000 * d) (by omega) [x, y, z] (some ⟨B, 0, none⟩) 3 W (slc3 h0 h1 h2))
        cases q3 : beyondB (5000 * d) [x, y, z]
        all_goals
          rw [q3] at hE HY
          simp only [if_true, Bool.false_eq_true, if_false] at hE
          subst hE
          go_enter Tryz.func84, Tryz.ntmps84
          go_wp2_with (first | (go_at_call 111; refine (HD.out _ _ (by simp [go_sem]) (by simp [go_sem]) (by simp [go_sem])).mono ?_; rintro e w' ⟨rfl, u1, rfl⟩) | (go_at_call 54; refine (HY.out _ _ (by simp [go_sem]) (by simp [go_sem]) (by simp [go_sem])).mono ?_; rintro e w' ⟨rfl, u2, rfl⟩))
          go_ret
          refine retX_int rfl ?_
          (repeat' (first | (with_reducible exact Below.refl _ _) | (with_reducible assumption) | (with_reducible refine Below.drew ?_) | (with_reducible refine Below.drewNStep ?_ _) | (with_reducible refine Below.alloc ?_ ?_ _) | (with_reducible refine Below.setCell ?_ ?_ _) | (with_reducible refine Below.extStep ?_ ?_ _) | (simp; done) | (simp; omega)))

set_option maxRecDepth 100000 in set_option maxHeartbeats 1000000 in
theorem lowest_any (x y z d : Int) (w : World) (hd : 0 < d ∧ d ≤ 4000000000000000) (hx : -4000000000000000000 ≤ x ∧ x ≤ 4000000000000000000) (hy : -4000000000000000000 ≤ y ∧ y ≤ 4000000000000000000) (hz : -4000000000000000000 ≤ z ∧ z ≤ 4000000000000000000) :
    Calls Tryz.prog 93 #[.agg #[.int .i64 x, .int .i64 y, .int .i64 z, .int .i64 d]] w (RetX w (.agg #[.int .i64 (x.tdiv (dvP x y z d)), .int .i64 (y.tdiv (dvP x y z d)), .int .i64 (z.tdiv (dvP x y z d)), .int .i64 (d / (dvP x y z d))])) := by
  have HD := hidden (fun (W : World) (B : Nat) (h0 : W.cell? ⟨B, 0, none⟩ = some (.int .i64 x)) (h1 : W.cell? ⟨B, 1, none⟩ = some (.int .i64 y)) (h2 : W.cell? ⟨B, 2, none⟩ = some (.int .i64 z)) => divisor_any d hd [x, y, z] (three_bd hx hy hz) (some ⟨B, 0, none⟩) 3 W (slc3 h0 h1 h2))
  have hDd : Hid (dvTo d [x, y, z] [x, y, z].length = dvP x y z d) := rfl
  have hg := (dvTo_bd (xs := [x, y, z]) hd.1 3).1
  rw [hDd.out] at HD
  clear hDd
  change 0 < dvP x y z d at hg
  generalize dvP x y z d = g at *
  have g0 : g ≠ 0 := by omega
  have g1 : g ≠ -1 := by omega
  have g2 : (g == 0) = false := by simp [g0]
  go_enter Tryz.func93, Tryz.ntmps93
  go_wp2_with (go_at_call 111; refine (HD.out _ _ (by simp [go_sem]) (by simp [go_sem]) (by simp [go_sem])).mono ?_; rintro e w' ⟨rfl, u1, rfl⟩)
  (refine wp_region_tameH (w.heap.size + 1) (by kernel_rfl) (by kernel_rfl) ?_); (repeat (first | (refine wpTame_skip rfl ?_; simp only [Act.put, List.setIfInBounds_toArray, List.set_cons_succ, List.set_cons_zero]) | (refine wpTame_pure rfl rfl rfl (fun K hK => ?_); go_big_quiet_op; refine hK _ ?_; clear hK K) | (refine wpTame_eff rfl rfl (fun K hK => ?_); go_big_op; (first | fail | skip); (refine hK _ _ rfl (hole_of (by (repeat' (first | (with_reducible exact HoleRel.refl _ _ _) | (with_reducible assumption) | (with_reducible refine HoleRel.swap ?_ _ _) | (with_reducible refine HoleRel.drew ?_) | (with_reducible refine HoleRel.drewN ?_ _) | (with_reducible refine HoleRel.setCell ?_ ?_ _) | (with_reducible refine HoleRel.putObj ?_ ?_ _) | (with_reducible refine HoleRel.alloc ?_ ?_ _) | (with_reducible refine HoleRel.ext ?_ ?_ _) | (exact Or.inl rfl) | (simp; done) | (simp; omega))))) ?_; clear hK K)))); (refine wpTame_nil ?_)
  go_wp2
  refine bodyPost_ret (v := .agg #[.int .i64 (x.tdiv g), .int .i64 (y.tdiv g), .int .i64 (z.tdiv g), .int .i64 (d / g)]) (by simp [results, Tryz.results93, go_sem]) rfl (retX rfl ?_)
  (repeat' (first | (with_reducible exact Below.refl _ _) | (with_reducible assumption) | (with_reducible refine Below.drew ?_) | (with_reducible refine Below.drewNStep ?_ _) | (with_reducible refine Below.alloc ?_ ?_ _) | (with_reducible refine Below.setCell ?_ ?_ _) | (with_reducible refine Below.extStep ?_ ?_ _) | (simp; done) | (simp; omega)))
end Go.Proofs.YtbonjgeglhbhnaaGreat
