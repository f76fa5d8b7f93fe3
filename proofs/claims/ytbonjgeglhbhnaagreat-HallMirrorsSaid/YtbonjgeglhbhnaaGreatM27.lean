/- checkCorners. -/
import Derived.Test.YtbonjgeglhbhnaaGreatM26
import Derived.Test.YtbonjgeglhbhnaaGreatM24
set_option linter.unusedVariables false
set_option linter.unusedSimpArgs false
namespace Go.Proofs.YtbonjgeglhbhnaaGreat
open Go.RowKit

theorem slc2 {W : World} {B : Nat} {x y : Int} (h0 : W.cell? ⟨B, 0, none⟩ = some (.int .i64 x)) (h1 : W.cell? ⟨B, 1, none⟩ = some (.int .i64 y)) : SlcAt encInt W (.slice (some ⟨B, 0, none⟩) 2 2) [x, y] := by
  refine ⟨by simp, _, _, rfl, fun _ => ⟨B, 0, rfl, has_of_cell h0, fun i v hi j hj => ?_⟩⟩
  have hj0 : j = 0 := by have : j < 1 := hj; omega
  subst hj0
  rcases i with _ | _ | i
  · simp at hi; subst hi; exact ⟨_, h0, rfl⟩
  · simp at hi; subst hi; exact ⟨_, h1, rfl⟩
  · simp at hi
theorem beyond2P {x y : Int} (h : beyondB 5000 [x, y] = false) : (-5000 ≤ x ∧ x ≤ 5000) ∧ (-5000 ≤ y ∧ y ≤ 5000) := by
  simp [beyondB, outB] at h
  omega
def cornE (H : Hal) (i : Nat) : Int := if beyondB 5000 [(corAt H.cors i).x, (corAt H.cors i).y] then 2 else 0
theorem cornE_ok {H : Hal} (h : firstBad (cornE H) H.cors.length = none) : CorsIn H := by
  intro k hk
  unfold firstBad at h
  rw [List.find?_eq_none] at h
  have := h k (by simpa using hk)
  simp [cornE] at this
  exact beyond2P this

set_option maxRecDepth 100000 in set_option maxHeartbeats 1000000 in
theorem corn1 {w : World} {b c M F T : Nat} {H : Hal} (hS : SurAt w b H M F T) (hc : w.cell? ⟨c, 0, none⟩ = some (.pointer (some ⟨b, 0, none⟩))) (i : Nat) (hi : i < H.cors.length) :
    Calls Tryz.prog 161 #[.int .i64 i, .pointer (some ⟨c, 0, none⟩)] w (RetX w (.int .i64 (cornE H i))) := by
  have HE : Hid (cornE H i = if beyondB 5000 [(corAt H.cors i).x, (corAt H.cors i).y] then 2 else 0) := rfl
  obtain ⟨⟨v4, v5, v6, v7, v8, v9, v10, hR⟩, hm, _, _⟩ := hS
  obtain ⟨A, c5, rfl, hS5⟩ := slc_form hR.hal.cors
  obtain ⟨g, o, rfl, hg, hcs⟩ := cor_at hS5 hi
  have l5 := hS5.1
  obtain ⟨k0, k1⟩ := hcs i hi
  have h5 := hR.c5
  have hb := hR.has
  have hch := has_of_cell hc
  clear hR hS5 hcs hm
  generalize (corAt H.cors i).x = x at *
  generalize (corAt H.cors i).y = y at *
  generalize H.cors.length = n at *
  have HY := hidden (fun (W : World) (B : Nat) (h0 : W.cell? ⟨B, 0, none⟩ = some (.int .i64 x)) (h1 : W.cell? ⟨B, 1, none⟩ = some (.int .i64 y)) => beyond_any 5000 (by omega) [x, y] (some ⟨B, 0, none⟩) 2 W (slc2 h0 h1))
  cases q : beyondB 5000 [x, y]
  all_goals
    rw [q] at HE HY
    go_enter Tryz.func161, Tryz.ntmps161
    go_wp2
    (refine wp_region_tameX (by kernel_rfl) (by kernel_rfl) ?_); (repeat (first | (refine wpTame_skip rfl ?_; simp only [Act.put, List.setIfInBounds_toArray, List.set_cons_succ, List.set_cons_zero]) | (refine wpTame_pure rfl rfl rfl (fun K hK => ?_); go_big_quiet_op; refine hK _ ?_; clear hK K) | (refine wpTame_eff rfl rfl (fun K hK => ?_); go_big_op; (first | (go_at_call 54; refine (HY.out _ _ (by simp [go_sem]) (by simp [go_sem])).mono ?_; rintro e w' ⟨rfl, x1, rfl⟩) | skip); (refine hK _ _ rfl (ext_of_below (by (repeat' (first | (with_reducible exact Below.refl _ _) | (with_reducible assumption) | (with_reducible refine Below.drew ?_) | (with_reducible refine Below.drewNStep ?_ _) | (with_reducible refine Below.alloc ?_ ?_ _) | (with_reducible refine Below.setCell ?_ ?_ _) | (with_reducible refine Below.extStep ?_ ?_ _) | (simp; done) | (simp; omega))))) ?_; clear hK K)))); (refine wpTame_nil ?_)
    go_wp2
    go_ret
    refine retX_int (by rw [HE.out]; simp) ?_
    (repeat' (first | (with_reducible exact Below.refl _ _) | (with_reducible assumption) | (with_reducible refine Below.drew ?_) | (with_reducible refine Below.drewNStep ?_ _) | (with_reducible refine Below.alloc ?_ ?_ _) | (with_reducible refine Below.setCell ?_ ?_ _) | (with_reducible refine Below.extStep ?_ ?_ _) | (simp; done) | (simp; omega)))
end Go.Proofs.YtbonjgeglhbhnaaGreat

/- checkHeights. -/
namespace Go.Proofs.YtbonjgeglhbhnaaGreat
open Go.RowKit Go.Shelf
attribute [local go_sem] Oper.semAt_some

def hgtE (z : Int) (hs : List Int) (k : Nat) : Int := if intAt hs k < 1 then 2 else if z ≤ intAt hs k then 2 else if 0 < k ∧ intAt hs k ≤ intAt hs (k - 1) then 9 else 0
def heightsE (z : Int) (hs : List Int) : Int := if hs.length < 1 then 10 else if 4 < hs.length then 10 else match firstBad (hgtE z hs) hs.length with | none => 0 | some k => hgtE z hs k
theorem heightsE_stop {z : Int} {hs : List Int} {k : Nat} (h1 : ¬ hs.length < 1) (h4 : ¬ 4 < hs.length) (hk : k < hs.length) (he : hgtE z hs k ≠ 0) (h : ∀ j, j < k → hgtE z hs j = 0) : heightsE z hs = hgtE z hs k := by
  unfold heightsE; rw [if_neg h1, if_neg h4, firstBad_stop hk he h]
theorem heightsE_end {z : Int} {hs : List Int} (h1 : ¬ hs.length < 1) (h4 : ¬ 4 < hs.length) (h : ∀ j, j < hs.length → hgtE z hs j = 0) : heightsE z hs = 0 := by
  unfold heightsE; rw [if_neg h1, if_neg h4, firstBad_end h]

set_option maxRecDepth 100000 in set_option maxHeartbeats 1000000 in
theorem checkHeights_sur {w : World} {b M F T : Nat} {H : Hal} (hS : SurAt w b H M F T) (hs : List Int) (A : Option Addr) (c : Nat) (hL : SlcAt encInt w (.slice A hs.length c) hs) :
    Calls Tryz.prog 165 #[.pointer (some ⟨b, 0, none⟩), .slice A hs.length c] w (RetX w (.int .i64 (heightsE H.height hs))) := by
  have hl := hL.1
  obtain ⟨⟨v4, v5, v6, v7, v8, v9, v10, hR⟩, hm, _, _⟩ := hS
  have hb := hR.has
  have h1 := hR.c1
  clear hR hm
  generalize H.height = z at *
  refine (callsIn_wide (n := 10)).1 ?_
  refine callsIn_of_wp Tryz.func165 rfl trivial ?_ rfl
  simp only [Tryz.ntmps165, List.size_toArray, List.length_cons, List.length_nil, Nat.reduceAdd, Nat.reduceSub, Array.replicate_succ, Array.replicate_zero, List.push_toArray, List.append_toArray, List.nil_append, List.cons_append]
  cases q1 : decide ((hs.length : Int) < 1) with
  | true =>
    have hz : Hid (heightsE z hs = 10) := by unfold Hid heightsE; rw [if_pos (by simp at q1; omega)]
    gi_wp2
    refine bodyPost_ret (v := .int .i64 10) (by simp [results, Tryz.results165, go_sem]) rfl (retX (by rw [hz.out]) (by (repeat' (first | (with_reducible exact Below.refl _ _) | (with_reducible assumption) | (with_reducible refine Below.drew ?_) | (with_reducible refine Below.drewNStep ?_ _) | (with_reducible refine Below.alloc ?_ ?_ _) | (with_reducible refine Below.setCell ?_ ?_ _) | (with_reducible refine Below.extStep ?_ ?_ _) | (simp; done) | (simp; omega)))))
  | false =>
    cases q2 : decide ((4 : Int) < (hs.length : Int)) with
    | true =>
      have hz : Hid (heightsE z hs = 10) := by unfold Hid heightsE; rw [if_neg (by simp at q1; omega), if_pos (by simp at q2; omega)]
      gi_wp2
      refine bodyPost_ret (v := .int .i64 10) (by simp [results, Tryz.results165, go_sem]) rfl (retX (by rw [hz.out]) (by (repeat' (first | (with_reducible exact Below.refl _ _) | (with_reducible assumption) | (with_reducible refine Below.drew ?_) | (with_reducible refine Below.drewNStep ?_ _) | (with_reducible refine Below.alloc ?_ ?_ _) | (with_reducible refine Below.setCell ?_ ?_ _) | (with_reducible refine Below.extStep ?_ ?_ _) | (simp; done) | (simp; omega)))))
    | false =>
      have n1 : ¬ hs.length < 1 := by simp at q1; omega
      have n4 : ¬ 4 < hs.length := by simp at q2; omega
      gi_wp2
      gi_loopw [17] (fun i wr => ∃ k : Nat, i = .int .i64 k ∧ k ≤ hs.length ∧ Below w.heap.size w wr ∧ ∀ j, j < k → hgtE z hs j = 0) (fun i _ => hs.length - (intOf i).toNat)
      case atStart => exact ⟨0, rfl, Nat.zero_le _, Below.refl _ _, fun j hj => absurd hj (Nat.not_lt_zero j)⟩
      case round =>
        obtain ⟨k, rfl, hk, hB, hno⟩ := hrel
        replace hL := hL.below hB
        rcases Nat.lt_or_ge k hs.length with hlt | hge
        · obtain ⟨g, o, rfl, hg, hcs⟩ := int_at hL hlt
          have k0 := hcs k hlt
          have kp := hcs (k - 1) (by omega)
          have h1' := (Sim.of_below (D := 0) hB).cell h1
          have hb' := has_of_cell h1'
          have hst : Hid (∀ e, hgtE z hs k = e → e ≠ 0 → heightsE z hs = e) := fun e he hn => by
            rw [← he]; exact heightsE_stop n1 n4 hlt (by rw [he]; exact hn) hno
          have hgo : Hid (hgtE z hs k = 0 → ∀ j, j < k + 1 → hgtE z hs j = 0) := fun he j hj => by
            rcases Nat.lt_or_ge j k with h' | h'
            · exact hno j h'
            · obtain rfl : j = k := by omega
              exact he
          have hO : Hid (hgtE z hs k = if intAt hs k < 1 then 2 else if z ≤ intAt hs k then 2 else if 0 < k ∧ intAt hs k ≤ intAt hs (k - 1) then 9 else 0) := rfl
          clear hcs hL h1 hno
          generalize intAt hs k = n at *
          generalize intAt hs (k - 1) = pv at *
          generalize hs.length = N at *
          cases p1 : decide (n < 1) with
          | true =>
            have hz := hidden (hst.out 2 (by rw [hO.out, if_pos (of_decide_eq_true p1)]) (by decide))
            gi_wp2
            refine bodyPost_ret (v := .int .i64 2) (by simp [results, Tryz.results165, go_sem]) rfl (retX (by rw [hz.out]) hB)
          | false =>
            cases p2 : decide (z ≤ n) with
            | true =>
              have hz := hidden (hst.out 2 (by rw [hO.out, if_neg (of_decide_eq_false p1), if_pos (of_decide_eq_true p2)]) (by decide))
              gi_wp2
              refine bodyPost_ret (v := .int .i64 2) (by simp [results, Tryz.results165, go_sem]) rfl (retX (by rw [hz.out]) hB)
            | false =>
              rcases Nat.eq_zero_or_pos k with hk0 | hk0
              · have hz := hidden (hgo.out (by rw [hO.out, if_neg (of_decide_eq_false p1), if_neg (of_decide_eq_false p2), if_neg (by omega)]))
                subst hk0
                simp only [Nat.add_zero] at k0
                have e00 : decide ((0 : Int) < ((0 : Nat) : Int)) = false := by decide
                gi_wp2
                go_roundw
                case rel => exact ⟨0 + 1, by go_num, by omega, hB, hz.out⟩
                case measure => simp [intOf]; omega
              · obtain ⟨m, rfl⟩ : ∃ m, k = m + 1 := ⟨k - 1, by omega⟩
                simp only [Nat.add_sub_cancel] at kp
                have e1 : IntKind.i64.wrap (((m + 1 : Nat) : Int) - 1) = (m : Int) := by rw [IntWalk.i64_in _ (by omega)]; omega
                have e0 : decide ((0 : Int) < ((m + 1 : Nat) : Int)) = true := by first | (simp; done) | (simp; omega)
                cases p3 : decide (n ≤ pv) with
                | true =>
                  have hz := hidden (hst.out 9 (by rw [hO.out, if_neg (of_decide_eq_false p1), if_neg (of_decide_eq_false p2), if_pos ⟨by omega, of_decide_eq_true p3⟩]) (by decide))
                  gi_wp2
                  refine bodyPost_ret (v := .int .i64 9) (by simp [results, Tryz.results165, go_sem]) rfl (retX (by rw [hz.out]) hB)
                | false =>
                  have hz := hidden (hgo.out (by rw [hO.out, if_neg (of_decide_eq_false p1), if_neg (of_decide_eq_false p2), if_neg (fun h => of_decide_eq_false p3 h.2)]))
                  gi_wp2
                  go_roundw
                  case rel => exact ⟨m + 1 + 1, by go_num, by omega, hB, hz.out⟩
                  case measure => simp [intOf]; omega
        · obtain rfl : k = hs.length := by omega
          have hz := hidden (heightsE_end n1 n4 hno)
          gi_wp2
          refine bodyPost_ret (v := .int .i64 0) (by simp [results, Tryz.results165, go_sem]) rfl (retX (by rw [hz.out]) hB)
end Go.Proofs.YtbonjgeglhbhnaaGreat
