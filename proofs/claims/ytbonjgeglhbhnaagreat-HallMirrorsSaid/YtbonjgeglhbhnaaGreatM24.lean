/- checkParts; the function of checkCorners. -/
import Derived.Test.YtbonjgeglhbhnaaGreatM23
set_option linter.unusedVariables false
set_option linter.unusedSimpArgs false
namespace Go.Proofs.YtbonjgeglhbhnaaGreat
open Go.RowKit

theorem u_map : Tryz.prog.underlying 179 = some (.map 9 4) := by kernel_rfl
theorem u_str : Tryz.prog.underlying 9 = some .string := by kernel_rfl
theorem z_bool (w : World) : (zeroValue 4).run Tryz.prog w = .ok (.bool false) w := by kernel_rfl
/-- a look into a set, in any world -/
theorem look_set {b : Nat} {ns : List ByteArray} (W : World) (h : SetAt W b ns) (k : ByteArray) : (Instr.lookup 179 (.map (some b)) (.string k) false).run Tryz.prog W = .ok (.bool (hasName ns k)) W :=
  h.look u_map u_str (z_bool W) k
theorem put_set {b : Nat} {ns : List ByteArray} (W : World) (h : SetAt W b ns) (k : ByteArray) (hk : hasName ns k = false) : (Instr.mapUpdate 179 (.map (some b)) (.string k) (.bool true)).run Tryz.prog W = .ok () (W.putObj b (putMap W b k)) :=
  h.run_put u_map u_str hk

def partsE (H : Hal) (ms : List ByteArray) : Int :=
  if hasName ms H.floor = false then 6 else if hasName ms H.ceil = false then 6 else if H.cors.length < 3 then 10 else if H.wals.length ≠ H.cors.length then 10 else if 12 < H.wals.length then 8 else 0

set_option maxRecDepth 100000 in set_option maxHeartbeats 1000000 in
theorem checkParts_sur {w : World} {b M F T : Nat} {H : Hal} {ms fs ts : List ByteArray} (hS : SurAt w b H M F T) (hN : Names w M F T ms fs ts) : Calls Tryz.prog 132 #[.pointer (some ⟨b, 0, none⟩)] w (RetX w (.agg #[.int .i64 0, .int .i64 0, .int .i64 (partsE H ms)])) := by
  have HE : Hid (partsE H ms = if hasName ms H.floor = false then 6 else if hasName ms H.ceil = false then 6 else if H.cors.length < 3 then 10 else if H.wals.length ≠ H.cors.length then 10 else if 12 < H.wals.length then 8 else 0) := rfl
  obtain ⟨⟨v4, v5, v6, v7, v8, v9, v10, hR⟩, hm, _, _⟩ := hS
  obtain ⟨A, c, rfl, hS5⟩ := slc_form hR.hal.cors
  obtain ⟨A', c', rfl, hS6⟩ := slc_form hR.hal.wals
  have l5 := hS5.1
  have l6 := hS6.1
  have h2 := hR.c2
  have h3 := hR.c3
  have h5 := hR.c5
  have h6 := hR.c6
  have hb := hR.has
  have hM := hN.m
  have hMh : w.Has M := hM.has
  clear hR hS5 hS6 hN
  generalize partsE H ms = E at *
  generalize H.floor = fl at *
  generalize H.ceil = ce at *
  generalize H.cors.length = nc at *
  generalize H.wals.length = nw at *
  have nb : b ≠ w.heap.size := Nat.ne_of_lt hb
  have HLF := look_set (b := M) (ns := ms)
  have HW := whole_any
  cases q0 : hasName ms fl
  · rw [q0] at HE
    simp only [if_true] at HE
    have hE := HE.out
    subst hE
    clear HE
    go_enter Tryz.func132, Tryz.ntmps132
    go_wp2
    (refine wp_region_tameX (by kernel_rfl) (by kernel_rfl) ?_); (repeat (first | (refine wpTame_skip rfl ?_; simp only [Act.put, List.setIfInBounds_toArray, List.set_cons_succ, List.set_cons_zero]) | (refine wpTame_pure rfl rfl rfl (fun K hK => ?_); go_big_quiet_op; refine hK _ ?_; clear hK K) | (refine wpTame_eff rfl rfl (fun K hK => ?_); go_big_op; (first | fail | skip); (refine hK _ _ rfl (ext_of_below (by (repeat' (first | (with_reducible exact Below.refl _ _) | (with_reducible assumption) | (with_reducible refine Below.drew ?_) | (with_reducible refine Below.drewNStep ?_ _) | (with_reducible refine Below.alloc ?_ ?_ _) | (with_reducible refine Below.setCell ?_ ?_ _) | (with_reducible refine Below.extStep ?_ ?_ _) | (simp; done) | (simp; omega))))) ?_; clear hK K)))); (refine wpTame_nil ?_)
    go_wp2_with (go_at_call 157; refine (whole_any _ _).mono ?_; rintro e w' ⟨rfl, x2, rfl⟩); refine bodyPost_ret ?_ rfl (retX rfl ?_); (simp [results, Tryz.results132, go_sem]); (repeat' (first | (with_reducible exact Below.refl _ _) | (with_reducible assumption) | (with_reducible refine Below.drew ?_) | (with_reducible refine Below.drewNStep ?_ _) | (with_reducible refine Below.alloc ?_ ?_ _) | (with_reducible refine Below.setCell ?_ ?_ _) | (with_reducible refine Below.extStep ?_ ?_ _) | (simp; done) | (simp; omega)))
  rw [q0] at HE
  simp only [Bool.true_eq_false, if_false] at HE
  cases q1 : hasName ms ce
  · rw [q1] at HE
    simp only [if_true] at HE
    have hE := HE.out
    subst hE
    clear HE
    go_enter Tryz.func132, Tryz.ntmps132
    go_wp2
    (refine wp_region_tameX (by kernel_rfl) (by kernel_rfl) ?_); (repeat (first | (refine wpTame_skip rfl ?_; simp only [Act.put, List.setIfInBounds_toArray, List.set_cons_succ, List.set_cons_zero]) | (refine wpTame_pure rfl rfl rfl (fun K hK => ?_); go_big_quiet_op; refine hK _ ?_; clear hK K) | (refine wpTame_eff rfl rfl (fun K hK => ?_); go_big_op; (first | fail | skip); (refine hK _ _ rfl (ext_of_below (by (repeat' (first | (with_reducible exact Below.refl _ _) | (with_reducible assumption) | (with_reducible refine Below.drew ?_) | (with_reducible refine Below.drewNStep ?_ _) | (with_reducible refine Below.alloc ?_ ?_ _) | (with_reducible refine Below.setCell ?_ ?_ _) | (with_reducible refine Below.extStep ?_ ?_ _) | (simp; done) | (simp; omega))))) ?_; clear hK K)))); (refine wpTame_nil ?_)
    go_wp2_with (go_at_call 157; refine (whole_any _ _).mono ?_; rintro e w' ⟨rfl, x2, rfl⟩); refine bodyPost_ret ?_ rfl (retX rfl ?_); (simp [results, Tryz.results132, go_sem]); (repeat' (first | (with_reducible exact Below.refl _ _) | (with_reducible assumption) | (with_reducible refine Below.drew ?_) | (with_reducible refine Below.drewNStep ?_ _) | (with_reducible refine Below.alloc ?_ ?_ _) | (with_reducible refine Below.setCell ?_ ?_ _) | (with_reducible refine Below.extStep ?_ ?_ _) | (simp; done) | (simp; omega)))
  rw [q1] at HE
  simp only [Bool.true_eq_false, if_false] at HE
  cases q2 : decide ((nc : Int) < 3) with
  | true =>
    have hE := HE.out
    rw [if_pos (by simp at q2; omega)] at hE
    subst hE
    clear HE
    go_enter Tryz.func132, Tryz.ntmps132
    go_wp2
    (refine wp_region_tameX (by kernel_rfl) (by kernel_rfl) ?_); (repeat (first | (refine wpTame_skip rfl ?_; simp only [Act.put, List.setIfInBounds_toArray, List.set_cons_succ, List.set_cons_zero]) | (refine wpTame_pure rfl rfl rfl (fun K hK => ?_); go_big_quiet_op; refine hK _ ?_; clear hK K) | (refine wpTame_eff rfl rfl (fun K hK => ?_); go_big_op; (first | fail | skip); (refine hK _ _ rfl (ext_of_below (by (repeat' (first | (with_reducible exact Below.refl _ _) | (with_reducible assumption) | (with_reducible refine Below.drew ?_) | (with_reducible refine Below.drewNStep ?_ _) | (with_reducible refine Below.alloc ?_ ?_ _) | (with_reducible refine Below.setCell ?_ ?_ _) | (with_reducible refine Below.extStep ?_ ?_ _) | (simp; done) | (simp; omega))))) ?_; clear hK K)))); (refine wpTame_nil ?_)
    go_wp2
    (refine wp_region_tameX (by kernel_rfl) (by kernel_rfl) ?_); (repeat (first | (refine wpTame_skip rfl ?_; simp only [Act.put, List.setIfInBounds_toArray, List.set_cons_succ, List.set_cons_zero]) | (refine wpTame_pure rfl rfl rfl (fun K hK => ?_); go_big_quiet_op; refine hK _ ?_; clear hK K) | (refine wpTame_eff rfl rfl (fun K hK => ?_); go_big_op; (first | fail | skip); (refine hK _ _ rfl (ext_of_below (by (repeat' (first | (with_reducible exact Below.refl _ _) | (with_reducible assumption) | (with_reducible refine Below.drew ?_) | (with_reducible refine Below.drewNStep ?_ _) | (with_reducible refine Below.alloc ?_ ?_ _) | (with_reducible refine Below.setCell ?_ ?_ _) | (with_reducible refine Below.extStep ?_ ?_ _) | (simp; done) | (simp; omega))))) ?_; clear hK K)))); (refine wpTame_nil ?_)
    go_wp2_with (go_at_call 157; refine (whole_any _ _).mono ?_; rintro e w' ⟨rfl, x2, rfl⟩); refine bodyPost_ret ?_ rfl (retX rfl ?_); (simp [results, Tryz.results132, go_sem]); (repeat' (first | (with_reducible exact Below.refl _ _) | (with_reducible assumption) | (with_reducible refine Below.drew ?_) | (with_reducible refine Below.drewNStep ?_ _) | (with_reducible refine Below.alloc ?_ ?_ _) | (with_reducible refine Below.setCell ?_ ?_ _) | (with_reducible refine Below.extStep ?_ ?_ _) | (simp; done) | (simp; omega)))
  | false =>
    cases q3 : ((nw : Int) != (nc : Int)) with
    | true =>
      have hE := HE.out
      rw [if_neg (by simp at q2; omega), if_pos (by simp at q3; omega)] at hE
      subst hE
      clear HE
      go_enter Tryz.func132, Tryz.ntmps132
      go_wp2
      (refine wp_region_tameX (by kernel_rfl) (by kernel_rfl) ?_); (repeat (first | (refine wpTame_skip rfl ?_; simp only [Act.put, List.setIfInBounds_toArray, List.set_cons_succ, List.set_cons_zero]) | (refine wpTame_pure rfl rfl rfl (fun K hK => ?_); go_big_quiet_op; refine hK _ ?_; clear hK K) | (refine wpTame_eff rfl rfl (fun K hK => ?_); go_big_op; (first | fail | skip); (refine hK _ _ rfl (ext_of_below (by (repeat' (first | (with_reducible exact Below.refl _ _) | (with_reducible assumption) | (with_reducible refine Below.drew ?_) | (with_reducible refine Below.drewNStep ?_ _) | (with_reducible refine Below.alloc ?_ ?_ _) | (with_reducible refine Below.setCell ?_ ?_ _) | (with_reducible refine Below.extStep ?_ ?_ _) | (simp; done) | (simp; omega))))) ?_; clear hK K)))); (refine wpTame_nil ?_)
      go_wp2
      (refine wp_region_tameX (by kernel_rfl) (by kernel_rfl) ?_); (repeat (first | (refine wpTame_skip rfl ?_; simp only [Act.put, List.setIfInBounds_toArray, List.set_cons_succ, List.set_cons_zero]) | (refine wpTame_pure rfl rfl rfl (fun K hK => ?_); go_big_quiet_op; refine hK _ ?_; clear hK K) | (refine wpTame_eff rfl rfl (fun K hK => ?_); go_big_op; (first | fail | skip); (refine hK _ _ rfl (ext_of_below (by (repeat' (first | (with_reducible exact Below.refl _ _) | (with_reducible assumption) | (with_reducible refine Below.drew ?_) | (with_reducible refine Below.drewNStep ?_ _) | (with_reducible refine Below.alloc ?_ ?_ _) | (with_reducible refine Below.setCell ?_ ?_ _) | (with_reducible refine Below.extStep ?_ ?_ _) | (simp; done) | (simp; omega))))) ?_; clear hK K)))); (refine wpTame_nil ?_)
      go_wp2_with (go_at_call 157; refine (whole_any _ _).mono ?_; rintro e w' ⟨rfl, x2, rfl⟩); refine bodyPost_ret ?_ rfl (retX rfl ?_); (simp [results, Tryz.results132, go_sem]); (repeat' (first | (with_reducible exact Below.refl _ _) | (with_reducible assumption) | (with_reducible refine Below.drew ?_) | (with_reducible refine Below.drewNStep ?_ _) | (with_reducible refine Below.alloc ?_ ?_ _) | (with_reducible refine Below.setCell ?_ ?_ _) | (with_reducible refine Below.extStep ?_ ?_ _) | (simp; done) | (simp; omega)))
    | false =>
      have q4 : ((nw : Int) == (nc : Int)) = true := by simp at q3 ⊢; omega
      have hE0 := HE.out
      rw [if_neg (by simp at q2; omega), if_neg (by simp at q3; omega)] at hE0
      cases q5 : decide ((12 : Int) < (nw : Int)) with
      | true =>
        rw [if_pos (by simp at q5; omega)] at hE0
        subst hE0
        clear HE
        go_enter Tryz.func132, Tryz.ntmps132
        go_wp2
        (refine wp_region_tameX (by kernel_rfl) (by kernel_rfl) ?_); (repeat (first | (refine wpTame_skip rfl ?_; simp only [Act.put, List.setIfInBounds_toArray, List.set_cons_succ, List.set_cons_zero]) | (refine wpTame_pure rfl rfl rfl (fun K hK => ?_); go_big_quiet_op; refine hK _ ?_; clear hK K) | (refine wpTame_eff rfl rfl (fun K hK => ?_); go_big_op; (first | fail | skip); (refine hK _ _ rfl (ext_of_below (by (repeat' (first | (with_reducible exact Below.refl _ _) | (with_reducible assumption) | (with_reducible refine Below.drew ?_) | (with_reducible refine Below.drewNStep ?_ _) | (with_reducible refine Below.alloc ?_ ?_ _) | (with_reducible refine Below.setCell ?_ ?_ _) | (with_reducible refine Below.extStep ?_ ?_ _) | (simp; done) | (simp; omega))))) ?_; clear hK K)))); (refine wpTame_nil ?_)
        go_wp2
        (refine wp_region_tameX (by kernel_rfl) (by kernel_rfl) ?_); (repeat (first | (refine wpTame_skip rfl ?_; simp only [Act.put, List.setIfInBounds_toArray, List.set_cons_succ, List.set_cons_zero]) | (refine wpTame_pure rfl rfl rfl (fun K hK => ?_); go_big_quiet_op; refine hK _ ?_; clear hK K) | (refine wpTame_eff rfl rfl (fun K hK => ?_); go_big_op; (first | fail | skip); (refine hK _ _ rfl (ext_of_below (by (repeat' (first | (with_reducible exact Below.refl _ _) | (with_reducible assumption) | (with_reducible refine Below.drew ?_) | (with_reducible refine Below.drewNStep ?_ _) | (with_reducible refine Below.alloc ?_ ?_ _) | (with_reducible refine Below.setCell ?_ ?_ _) | (with_reducible refine Below.extStep ?_ ?_ _) | (simp; done) | (simp; omega))))) ?_; clear hK K)))); (refine wpTame_nil ?_)
        go_wp2_with (go_at_call 157; refine (whole_any _ _).mono ?_; rintro e w' ⟨rfl, x2, rfl⟩); refine bodyPost_ret ?_ rfl (retX rfl ?_); (simp [results, Tryz.results132, go_sem]); (repeat' (first | (with_reducible exact Below.refl _ _) | (with_reducible assumption) | (with_reducible refine Below.drew ?_) | (with_reducible refine Below.drewNStep ?_ _) | (with_reducible refine Below.alloc ?_ ?_ _) | (with_reducible refine Below.setCell ?_ ?_ _) | (with_reducible refine Below.extStep ?_ ?_ _) | (simp; done) | (simp; omega)))
      | false =>
        rw [if_neg (by simp at q5; omega)] at hE0
        subst hE0
        clear HE
        go_enter Tryz.func132, Tryz.ntmps132
        go_wp2
        (refine wp_region_tameX (by kernel_rfl) (by kernel_rfl) ?_); (repeat (first | (refine wpTame_skip rfl ?_; simp only [Act.put, List.setIfInBounds_toArray, List.set_cons_succ, List.set_cons_zero]) | (refine wpTame_pure rfl rfl rfl (fun K hK => ?_); go_big_quiet_op; refine hK _ ?_; clear hK K) | (refine wpTame_eff rfl rfl (fun K hK => ?_); go_big_op; (first | fail | skip); (refine hK _ _ rfl (ext_of_below (by (repeat' (first | (with_reducible exact Below.refl _ _) | (with_reducible assumption) | (with_reducible refine Below.drew ?_) | (with_reducible refine Below.drewNStep ?_ _) | (with_reducible refine Below.alloc ?_ ?_ _) | (with_reducible refine Below.setCell ?_ ?_ _) | (with_reducible refine Below.extStep ?_ ?_ _) | (simp; done) | (simp; omega))))) ?_; clear hK K)))); (refine wpTame_nil ?_)
        go_wp2
        (refine wp_region_tameX (by kernel_rfl) (by kernel_rfl) ?_); (repeat (first | (refine wpTame_skip rfl ?_; simp only [Act.put, List.setIfInBounds_toArray, List.set_cons_succ, List.set_cons_zero]) | (refine wpTame_pure rfl rfl rfl (fun K hK => ?_); go_big_quiet_op; refine hK _ ?_; clear hK K) | (refine wpTame_eff rfl rfl (fun K hK => ?_); go_big_op; (first | fail | skip); (refine hK _ _ rfl (ext_of_below (by (repeat' (first | (with_reducible exact Below.refl _ _) | (with_reducible assumption) | (with_reducible refine Below.drew ?_) | (with_reducible refine Below.drewNStep ?_ _) | (with_reducible refine Below.alloc ?_ ?_ _) | (with_reducible refine Below.setCell ?_ ?_ _) | (with_reducible refine Below.extStep ?_ ?_ _) | (simp; done) | (simp; omega))))) ?_; clear hK K)))); (refine wpTame_nil ?_)
        go_wp2_with (go_at_call 157; refine (whole_any _ _).mono ?_; rintro e w' ⟨rfl, x2, rfl⟩); refine bodyPost_ret ?_ rfl (retX rfl ?_); (simp [results, Tryz.results132, go_sem]); (repeat' (first | (with_reducible exact Below.refl _ _) | (with_reducible assumption) | (with_reducible refine Below.drew ?_) | (with_reducible refine Below.drewNStep ?_ _) | (with_reducible refine Below.alloc ?_ ?_ _) | (with_reducible refine Below.setCell ?_ ?_ _) | (with_reducible refine Below.extStep ?_ ?_ _) | (simp; done) | (simp; omega)))
end Go.Proofs.YtbonjgeglhbhnaaGreat
