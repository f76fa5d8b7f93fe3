/- checkSheet. -/
import Derived.Test.YtbonjgeglhbhnaaGreatM22
import Derived.Test.YtbonjgeglhbhnaaGreatM27
set_option linter.unusedVariables false
set_option linter.unusedSimpArgs false
namespace Go.Proofs.YtbonjgeglhbhnaaGreat
open Go.RowKit

theorem slc4 {W : World} {B : Nat} {x y z u : Int} (h0 : W.cell? ⟨B, 0, none⟩ = some (.int .i64 x)) (h1 : W.cell? ⟨B, 1, none⟩ = some (.int .i64 y)) (h2 : W.cell? ⟨B, 2, none⟩ = some (.int .i64 z)) (h3 : W.cell? ⟨B, 3, none⟩ = some (.int .i64 u)) : SlcAt encInt W (.slice (some ⟨B, 0, none⟩) 4 4) [x, y, z, u] := by
  refine ⟨by simp, _, _, rfl, fun _ => ⟨B, 0, rfl, has_of_cell h0, fun i v hi j hj => ?_⟩⟩
  have hj0 : j = 0 := by have : j < 1 := hj; omega
  subst hj0
  rcases i with _ | _ | _ | _ | i
  · simp at hi; subst hi; exact ⟨_, h0, rfl⟩
  · simp at hi; subst hi; exact ⟨_, h1, rfl⟩
  · simp at hi; subst hi; exact ⟨_, h2, rfl⟩
  · simp at hi; subst hi; exact ⟨_, h3, rfl⟩
  · simp at hi
theorem beyond4P {x y z u : Int} (h : beyondB 5000 [x, y, z, u] = false) : (-5000 ≤ x ∧ x ≤ 5000) ∧ (-5000 ≤ y ∧ y ≤ 5000) ∧ (-5000 ≤ z ∧ z ≤ 5000) ∧ (-5000 ≤ u ∧ u ≤ 5000) := by
  simp [beyondB, outB] at h
  omega
def shtE (H : Hal) (a b c d : Int) : Int := if beyondB 5000 [a, b, c, d] then 2 else if a = c then 11 else if b = d then 11 else if framesB H (min a c) (min b d) (max a c) (max b d) = false then 24 else 0

set_option maxRecDepth 100000 in set_option maxHeartbeats 1000000 in
theorem checkSheet_sur {w : World} {bp M F T : Nat} {H : Hal} (hS : SurAt w bp H M F T) (hC : CorsIn H) (hN : H.cors.length ≤ 20) (na ma : ByteArray) (a b c d : Int) (v : Value) (hv : ∃ A n c, v = .slice A n c) :
    Calls Tryz.prog 166 #[.pointer (some ⟨bp, 0, none⟩), .agg #[.string na, .string ma, .int .i64 a, .int .i64 b, .int .i64 c, .int .i64 d, v]] w (RetX w (.int .i64 (shtE H a b c d))) := by
  have HE : Hid (shtE H a b c d = if beyondB 5000 [a, b, c, d] then 2 else if a = c then 11 else if b = d then 11 else if framesB H (min a c) (min b d) (max a c) (max b d) = false then 24 else 0) := rfl
  have HY := hidden (fun (W : World) (B : Nat) (h0 : W.cell? ⟨B, 0, none⟩ = some (.int .i64 a)) (h1 : W.cell? ⟨B, 1, none⟩ = some (.int .i64 b)) (h2 : W.cell? ⟨B, 2, none⟩ = some (.int .i64 c)) (h3 : W.cell? ⟨B, 3, none⟩ = some (.int .i64 d)) => beyond_any 5000 (by omega) [a, b, c, d] (some ⟨B, 0, none⟩) 4 W (slc4 h0 h1 h2 h3))
  have HT := hidden (fun W => sheetOf_any na ma a b c d v hv W)
  have hbp := hS.room
  cases q : beyondB 5000 [a, b, c, d] with
  | true =>
    have hE := HE.out
    rw [q, if_pos rfl] at hE
    rw [hE]
    rw [q] at HY
    clear HE hE hS
    obtain ⟨A, n, cc, rfl⟩ := hv
    go_enter Tryz.func166, Tryz.ntmps166
    go_wp2_with (first | (go_at_call 54; refine (HY.out _ _ (by simp [go_sem]) (by simp [go_sem]) (by simp [go_sem]) (by simp [go_sem])).mono ?_; rintro e w' ⟨rfl, x1, rfl⟩))
    refine bodyPost_ret ?_ rfl (retX rfl ?_); (simp [results, Tryz.results166, go_sem]); (repeat' (first | (with_reducible exact Below.refl _ _) | (with_reducible assumption) | (with_reducible refine Below.drew ?_) | (with_reducible refine Below.drewNStep ?_ _) | (with_reducible refine Below.alloc ?_ ?_ _) | (with_reducible refine Below.setCell ?_ ?_ _) | (with_reducible refine Below.extStep ?_ ?_ _) | (simp; done) | (simp; omega)))
  | false =>
    obtain ⟨b1, b2, b3, b4⟩ := beyond4P q
    have HF := hidden (fun (W : World) (hW : Below w.heap.size w W) => frames_room (hS.below hW).room hC hN (min a c) (min b d) (max a c) (max b d) (by omega) (by omega) (by omega) (by omega))
    obtain ⟨A, n, cc, rfl⟩ := hv
    have hE := HE.out
    rw [q, if_neg (by decide)] at hE
    rw [q] at HY
    have hhas : w.Has bp := by obtain ⟨_, _, _, _, _, _, _, hR⟩ := hbp; exact hR.has
    clear HE hS hbp
    unfold canV at HT
    generalize shtE H a b c d = E at *
    generalize framesB H (min a c) (min b d) (max a c) (max b d) = fb at *
    cases q1 : (a == c) with
    | true =>
      rw [if_pos (by simpa using q1)] at hE
      subst hE
      clear HF
      go_enter Tryz.func166, Tryz.ntmps166
      go_wp2_with (first | (go_at_call 54; refine (HY.out _ _ (by simp [go_sem]) (by simp [go_sem]) (by simp [go_sem]) (by simp [go_sem])).mono ?_; rintro e w' ⟨rfl, x1, rfl⟩))
      refine bodyPost_ret ?_ rfl (retX rfl ?_); (simp [results, Tryz.results166, go_sem]); (repeat' (first | (with_reducible exact Below.refl _ _) | (with_reducible assumption) | (with_reducible refine Below.drew ?_) | (with_reducible refine Below.drewNStep ?_ _) | (with_reducible refine Below.alloc ?_ ?_ _) | (with_reducible refine Below.setCell ?_ ?_ _) | (with_reducible refine Below.extStep ?_ ?_ _) | (simp; done) | (simp; omega)))
    | false =>
      rw [if_neg (by simpa using q1)] at hE
      cases q2 : (b == d) with
      | true =>
        rw [if_pos (by simpa using q2)] at hE
        subst hE
        clear HF
        go_enter Tryz.func166, Tryz.ntmps166
        go_wp2_with (first | (go_at_call 54; refine (HY.out _ _ (by simp [go_sem]) (by simp [go_sem]) (by simp [go_sem]) (by simp [go_sem])).mono ?_; rintro e w' ⟨rfl, x1, rfl⟩))
        refine bodyPost_ret ?_ rfl (retX rfl ?_); (simp [results, Tryz.results166, go_sem]); (repeat' (first | (with_reducible exact Below.refl _ _) | (with_reducible assumption) | (with_reducible refine Below.drew ?_) | (with_reducible refine Below.drewNStep ?_ _) | (with_reducible refine Below.alloc ?_ ?_ _) | (with_reducible refine Below.setCell ?_ ?_ _) | (with_reducible refine Below.extStep ?_ ?_ _) | (simp; done) | (simp; omega)))
      | false =>
        rw [if_neg (by simpa using q2)] at hE
        cases fb
        all_goals
          simp at hE
          subst hE
          go_enter Tryz.func166, Tryz.ntmps166
          go_wp2_with (first | (go_at_call 54; refine (HY.out _ _ (by simp [go_sem]) (by simp [go_sem]) (by simp [go_sem]) (by simp [go_sem])).mono ?_; rintro e w' ⟨rfl, x1, rfl⟩))
          (refine wp_region_tameX (by kernel_rfl) (by kernel_rfl) ?_); (repeat (first | (refine wpTame_skip rfl ?_; simp only [Act.put, List.setIfInBounds_toArray, List.set_cons_succ, List.set_cons_zero]) | (refine wpTame_pure rfl rfl rfl (fun K hK => ?_); go_big_quiet_op; refine hK _ ?_; clear hK K) | (refine wpTame_eff rfl rfl (fun K hK => ?_); go_big_op; (first | (go_at_call 120; refine (HT.out _).mono ?_; rintro e w' ⟨rfl, x2, rfl⟩) | (go_at_call 180; refine (HF.out _ (by (repeat' (first | (with_reducible exact Below.refl _ _) | (with_reducible assumption) | (with_reducible refine Below.drew ?_) | (with_reducible refine Below.drewNStep ?_ _) | (with_reducible refine Below.alloc ?_ ?_ _) | (with_reducible refine Below.setCell ?_ ?_ _) | (with_reducible refine Below.extStep ?_ ?_ _) | (simp; done) | (simp; omega))))).mono ?_; rintro e w' ⟨rfl, x3, rfl⟩) | skip); (refine hK _ _ rfl (ext_of_below (by (repeat' (first | (with_reducible exact Below.refl _ _) | (with_reducible assumption) | (with_reducible refine Below.drew ?_) | (with_reducible refine Below.drewNStep ?_ _) | (with_reducible refine Below.alloc ?_ ?_ _) | (with_reducible refine Below.setCell ?_ ?_ _) | (with_reducible refine Below.extStep ?_ ?_ _) | (simp; done) | (simp; omega))))) ?_; clear hK K)))); (refine wpTame_nil ?_)
          go_wp2
          refine bodyPost_ret ?_ rfl (retX rfl ?_); (simp [results, Tryz.results166, go_sem]); (repeat' (first | (with_reducible exact Below.refl _ _) | (with_reducible assumption) | (with_reducible refine Below.drew ?_) | (with_reducible refine Below.drewNStep ?_ _) | (with_reducible refine Below.alloc ?_ ?_ _) | (with_reducible refine Below.setCell ?_ ?_ _) | (with_reducible refine Below.extStep ?_ ?_ _) | (simp; done) | (simp; omega)))
end Go.Proofs.YtbonjgeglhbhnaaGreat
