/- checkSetting. -/
import Derived.Test.YtbonjgeglhbhnaaGreatM34
set_option linter.unusedVariables false
set_option linter.unusedSimpArgs false
namespace Go.Proofs.YtbonjgeglhbhnaaGreat
open Go.RowKit Go.Shelf
attribute [local go_sem] Oper.semAt_some

def sthE (H : Hal) (S : Stg) (k : Nat) : Int := if intAt S.hs k < 0 then 6 else if ((canAt H.cans k).hs.length : Int) ≤ intAt S.hs k then 6 else 0
def stdE (H : Hal) (S : Stg) (k : Nat) : Int := if intAt S.dr k < 0 then 6 else if (H.wals.length : Int) ≤ intAt S.dr k then 6 else if (walAt H.wals (intAt S.dr k).toNat).cur.size = 0 then 6 else if 0 < k ∧ intAt S.dr k ≤ intAt S.dr (k - 1) then 9 else 0
def firstE (E : Nat → Int) (n : Nat) : Int := match firstBad E n with | none => 0 | some k => E k
theorem firstE_stop {E : Nat → Int} {n k : Nat} {e : Int} (hk : k < n) (he : E k = e) (hn : e ≠ 0) (h : ∀ j, j < k → E j = 0) : firstE E n = e := by
  unfold firstE; rw [firstBad_stop hk (by rw [he]; exact hn) h]; exact he
theorem firstE_end {E : Nat → Int} {n : Nat} (h : ∀ j, j < n → E j = 0) : firstE E n = 0 := by
  unfold firstE; rw [firstBad_end h]
theorem firstE_zero {E : Nat → Int} {n : Nat} (h : firstE E n = 0) : ∀ j, j < n → E j = 0 := by
  unfold firstE at h
  cases hb : firstBad E n with
  | none => exact firstBad_none hb
  | some k =>
    rw [hb] at h
    unfold firstBad at hb
    have := List.find?_some hb
    simp at this
    exact absurd h this
def setE (H : Hal) (S : Stg) : Int := if S.hs.length ≠ H.cans.length then 10 else if firstE (sthE H S) S.hs.length ≠ 0 then firstE (sthE H S) S.hs.length else firstE (stdE H S) S.dr.length

set_option maxRecDepth 100000 in set_option maxHeartbeats 1000000 in
theorem checkSetting_room {w : World} {b : Nat} {H : Hal} {S0 S : Stg} {v9 v10 : Value} (hR : Room w b H S0) (h9 : SlcAt encInt w v9 S.hs) (h10 : SlcAt encInt w v10 S.dr) :
    Calls Tryz.prog 98 #[.pointer (some ⟨b, 0, none⟩), .agg #[v9, v10]] w (RetX w (.int .i64 (setE H S))) := by
  have HE : Hid (setE H S = if S.hs.length ≠ H.cans.length then 10 else if firstE (sthE H S) S.hs.length ≠ 0 then firstE (sthE H S) S.hs.length else firstE (stdE H S) S.dr.length) := rfl
  obtain ⟨v4, v5, v6, v7, v8, u9, u10, hR⟩ := hR
  obtain ⟨A7, c7, rfl, hS7⟩ := slc_form hR.hal.cans
  obtain ⟨A6, c6, rfl, hS6⟩ := slc_form hR.hal.wals
  obtain ⟨A9, c9, rfl, h9⟩ := slc_form h9
  obtain ⟨A10, c10, rfl, h10⟩ := slc_form h10
  have l7 := hS7.1
  have l6 := hS6.1
  have l9 := h9.1
  have l10 := h10.1
  have k7 := hR.c7
  have k6 := hR.c6
  have hb := hR.has
  clear hR
  refine (callsIn_wide (n := 10)).1 ?_
  refine callsIn_of_wp Tryz.func98 rfl trivial ?_ rfl
  simp only [Tryz.ntmps98, List.size_toArray, List.length_cons, List.length_nil, Nat.reduceAdd, Nat.reduceSub, Array.replicate_succ, Array.replicate_zero, List.push_toArray, List.append_toArray, List.nil_append, List.cons_append]
  cases q : ((S.hs.length : Int) != (H.cans.length : Int)) with
  | true =>
    have hE := HE.out
    rw [if_pos (by simp at q; omega)] at hE
    rw [hE]
    gi_wp2
    refine wpIn_wide.2 ?_
    (refine wp_region_tameX (by kernel_rfl) (by kernel_rfl) ?_); (repeat (first | (refine wpTame_skip rfl ?_; simp only [Act.put, List.setIfInBounds_toArray, List.set_cons_succ, List.set_cons_zero]) | (refine wpTame_pure rfl rfl rfl (fun K hK => ?_); go_big_quiet_op; refine hK _ ?_; clear hK K) | (refine wpTame_eff rfl rfl (fun K hK => ?_); go_big_op; (first | fail | skip); (refine hK _ _ rfl (ext_of_below (by (repeat' (first | (with_reducible exact Below.refl _ _) | (with_reducible assumption) | (with_reducible refine Below.drew ?_) | (with_reducible refine Below.drewNStep ?_ _) | (with_reducible refine Below.alloc ?_ ?_ _) | (with_reducible refine Below.setCell ?_ ?_ _) | (with_reducible refine Below.extStep ?_ ?_ _) | (simp; done) | (simp; omega))))) ?_; clear hK K)))); (refine wpTame_nil ?_)
    gi_wp2
    refine bodyPost_ret (v := .int .i64 10) (by simp [results, Tryz.results98, go_sem]) rfl (retX rfl (by (repeat' (first | (with_reducible exact Below.refl _ _) | (with_reducible assumption) | (with_reducible refine Below.drew ?_) | (with_reducible refine Below.drewNStep ?_ _) | (with_reducible refine Below.alloc ?_ ?_ _) | (with_reducible refine Below.setCell ?_ ?_ _) | (with_reducible refine Below.extStep ?_ ?_ _) | (simp; done) | (simp; omega)))))
  | false =>
    have hE := HE.out
    rw [if_neg (by simp at q; omega)] at hE
    have hlen : S.hs.length = H.cans.length := by simp at q; omega
    have q' : ((S.hs.length : Int) == (H.cans.length : Int)) = true := by simp at q ⊢; omega
    gi_wp2
    refine wpIn_wide.2 ?_
    (refine wp_region_tameX (by kernel_rfl) (by kernel_rfl) ?_); (repeat (first | (refine wpTame_skip rfl ?_; simp only [Act.put, List.setIfInBounds_toArray, List.set_cons_succ, List.set_cons_zero]) | (refine wpTame_pure rfl rfl rfl (fun K hK => ?_); go_big_quiet_op; refine hK _ ?_; clear hK K) | (refine wpTame_eff rfl rfl (fun K hK => ?_); go_big_op; (first | fail | skip); (refine hK _ _ rfl (ext_of_below (by (repeat' (first | (with_reducible exact Below.refl _ _) | (with_reducible assumption) | (with_reducible refine Below.drew ?_) | (with_reducible refine Below.drewNStep ?_ _) | (with_reducible refine Below.alloc ?_ ?_ _) | (with_reducible refine Below.setCell ?_ ?_ _) | (with_reducible refine Below.extStep ?_ ?_ _) | (simp; done) | (simp; omega))))) ?_; clear hK K)))); (refine wpTame_nil ?_)
    gi_wp2
    generalize hw1 : World.drew _ = w1
    have hB1 : Below w.heap.size w w1 := by rw [← hw1]; (repeat' (first | (with_reducible exact Below.refl _ _) | (with_reducible assumption) | (with_reducible refine Below.drew ?_) | (with_reducible refine Below.drewNStep ?_ _) | (with_reducible refine Below.alloc ?_ ?_ _) | (with_reducible refine Below.setCell ?_ ?_ _) | (with_reducible refine Below.extStep ?_ ?_ _) | (simp; done) | (simp; omega)))
    have d0 : w1.cell? ⟨w.heap.size, 1, none⟩ = some (.slice A10 S.dr.length c10) := by rw [← hw1]; simp [go_sem]
    clear hw1
    gi_loopw [22] (fun i wr => ∃ k : Nat, i = .int .i64 k ∧ k ≤ S.hs.length ∧ Below w1.heap.size w1 wr ∧ ∀ j, j < k → sthE H S j = 0) (fun i _ => S.hs.length - (intOf i).toNat)
    case atStart => exact ⟨0, rfl, Nat.zero_le _, Below.refl _ _, fun j hj => absurd hj (Nat.not_lt_zero j)⟩
    case round =>
      obtain ⟨k, rfl, hk, hB, hno⟩ := hrel
      have hBw : Below w.heap.size w wr := hB1.trans (hB.lower hB1.size)
      rcases Nat.lt_or_ge k S.hs.length with hlt | hge
      · obtain ⟨g, o, rfl, hg, hcs⟩ := int_at (h9.below hBw) hlt
        have z0 := hcs k hlt
        obtain ⟨g7, o7, rfl, hg7, hcs7⟩ := can_at (hS7.below hBw) (i := k) (by omega)
        obtain ⟨_, _, _, _, _, _, A', c', z6, _⟩ := hcs7 k (by omega)
        replace k7 := cell_below hBw hb k7
        have hb' : wr.Has b := has_of_cell k7
        have hst : Hid (∀ e, sthE H S k = e → e ≠ 0 → setE H S = e) := fun e he hn => by
          have := firstE_stop hlt he hn hno
          rw [hE, this, if_pos hn]
        have hgo : Hid (sthE H S k = 0 → ∀ j, j < k + 1 → sthE H S j = 0) := fun he j hj => by
          rcases Nat.lt_or_ge j k with h' | h'
          · exact hno j h'
          · obtain rfl : j = k := by omega
            exact he
        have hO : Hid (sthE H S k = if intAt S.hs k < 0 then 6 else if ((canAt H.cans k).hs.length : Int) ≤ intAt S.hs k then 6 else 0) := rfl
        have hk7 : k < H.cans.length := by omega
        clear hcs hcs7 hno hE HE h9 h10 hS7 hS6 d0
        generalize intAt S.hs k = n at *
        generalize (canAt H.cans k).hs.length = m at *
        generalize H.cans.length = n7 at *
        generalize S.hs.length = n9 at *
        cases p1 : decide (n < 0) with
        | true =>
          have hz := hidden (hst.out 6 (by rw [hO.out, if_pos (of_decide_eq_true p1)]) (by decide))
          gi_wp2
          refine bodyPost_ret (v := .int .i64 6) (by simp [results, Tryz.results98, go_sem]) rfl (retX (by rw [hz.out]) hBw)
        | false =>
          cases p2 : decide ((m : Int) ≤ n) with
          | true =>
            have hz := hidden (hst.out 6 (by rw [hO.out, if_neg (of_decide_eq_false p1), if_pos (of_decide_eq_true p2)]) (by decide))
            gi_wp2
            refine bodyPost_ret (v := .int .i64 6) (by simp [results, Tryz.results98, go_sem]) rfl (retX (by rw [hz.out]) hBw)
          | false =>
            have hz := hidden (hgo.out (by rw [hO.out, if_neg (of_decide_eq_false p1), if_neg (of_decide_eq_false p2)]))
            gi_wp2
            go_roundw
            case rel => exact ⟨k + 1, by go_num, by omega, hB, hz.out⟩
            case measure => simp [intOf]; omega
      · obtain rfl : k = S.hs.length := by omega
        have hE2 : Hid (setE H S = firstE (stdE H S) S.dr.length) := by unfold Hid; rw [hE, firstE_end hno, if_neg (by simp)]
        replace d0 := cell_below hB (has_of_cell d0) d0
        have gd := has_of_cell d0
        clear hno hE HE
        gi_wp2
        generalize wr = w2 at *
        clear hB
        gi_loopw [47] (fun i wr => ∃ k : Nat, i = .int .i64 k ∧ k ≤ S.dr.length ∧ Below w2.heap.size w2 wr ∧ ∀ j, j < k → stdE H S j = 0) (fun i _ => S.dr.length - (intOf i).toNat)
        case atStart => exact ⟨0, rfl, Nat.zero_le _, Below.refl _ _, fun j hj => absurd hj (Nat.not_lt_zero j)⟩
        case round =>
          obtain ⟨k, rfl, hk, hB, hno⟩ := hrel
          have hBx : Below w.heap.size w wr := hBw.trans (hB.lower hBw.size)
          rcases Nat.lt_or_ge k S.dr.length with hlt | hge
          · obtain ⟨g, o, rfl, hg, hcs⟩ := int_at (h10.below hBx) hlt
            have z0 := hcs k hlt
            have zp := hcs (k - 1) (by omega)
            replace k6 := cell_below hBx hb k6
            replace d0 := cell_below hB gd d0
            have gd' := has_of_cell d0
            have hb' : wr.Has b := has_of_cell k6
            have hst : Hid (∀ e, stdE H S k = e → e ≠ 0 → setE H S = e) := fun e he hn => by
              rw [hE2.out]; exact firstE_stop hlt he hn hno
            have hgo : Hid (stdE H S k = 0 → ∀ j, j < k + 1 → stdE H S j = 0) := fun he j hj => by
              rcases Nat.lt_or_ge j k with h' | h'
              · exact hno j h'
              · obtain rfl : j = k := by omega
                exact he
            have hO : Hid (stdE H S k = if intAt S.dr k < 0 then 6 else if (H.wals.length : Int) ≤ intAt S.dr k then 6 else if (walAt H.wals (intAt S.dr k).toNat).cur.size = 0 then 6 else if 0 < k ∧ intAt S.dr k ≤ intAt S.dr (k - 1) then 9 else 0) := rfl
            have hS6' := hS6.below hBx
            clear hcs hno hE2 h9 h10 hS7 hS6 gd hBw
            generalize intAt S.dr k = n at *
            generalize intAt S.dr (k - 1) = pv at *
            generalize S.dr.length = nd at *
            cases p1 : decide (n < 0) with
            | true =>
              have hz := hidden (hst.out 6 (by rw [hO.out, if_pos (of_decide_eq_true p1)]) (by decide))
              gi_wp2
              refine bodyPost_ret (v := .int .i64 6) (by simp [results, Tryz.results98, go_sem]) rfl (retX (by rw [hz.out]) hBx)
            | false =>
              cases p2 : decide ((H.wals.length : Int) ≤ n) with
              | true =>
                have hz := hidden (hst.out 6 (by rw [hO.out, if_neg (of_decide_eq_false p1), if_pos (of_decide_eq_true p2)]) (by decide))
                gi_wp2
                refine bodyPost_ret (v := .int .i64 6) (by simp [results, Tryz.results98, go_sem]) rfl (retX (by rw [hz.out]) hBx)
              | false =>
                have n0 := of_decide_eq_false p1
                have n1 := of_decide_eq_false p2
                obtain ⟨m, rfl⟩ : ∃ m : Nat, n = m := ⟨n.toNat, by omega⟩
                have hml : m < H.wals.length := by omega
                obtain ⟨g6, o6, rfl, hg6, hcs6⟩ := wal_at hS6' hml
                obtain ⟨_, _, y2⟩ := hcs6 m hml
                have hem := empty_iff (walAt H.wals m).cur
                simp only [Int.toNat_natCast] at hO
                clear hcs6 hS6'
                cases p3 : decide ((walAt H.wals m).cur.size = 0) with
                | true =>
                  rw [p3] at hem
                  have hz := hidden (hst.out 6 (by rw [hO.out, if_neg n0, if_neg n1, if_pos (of_decide_eq_true p3)]) (by decide))
                  gi_wp2
                  refine bodyPost_ret (v := .int .i64 6) (by simp [results, Tryz.results98, go_sem]) rfl (retX (by rw [hz.out]) hBx)
                | false =>
                  rw [p3] at hem
                  have n3 := of_decide_eq_false p3
                  rcases Nat.eq_zero_or_pos k with hk0 | hk0
                  · have hz := hidden (hgo.out (by rw [hO.out, if_neg n0, if_neg n1, if_neg n3, if_neg (by omega)]))
                    subst hk0
                    simp only [Nat.add_zero] at z0
                    have e00 : decide ((0 : Int) < ((0 : Nat) : Int)) = false := by decide
                    gi_wp2
                    go_roundw
                    case rel => exact ⟨0 + 1, by go_num, by omega, hB, hz.out⟩
                    case measure => simp [intOf]; omega
                  · obtain ⟨j, rfl⟩ : ∃ j, k = j + 1 := ⟨k - 1, by omega⟩
                    simp only [Nat.add_sub_cancel] at zp
                    have e1 : IntKind.i64.wrap (((j + 1 : Nat) : Int) - 1) = (j : Int) := by rw [IntWalk.i64_in _ (by omega)]; omega
                    have e0 : decide ((0 : Int) < ((j + 1 : Nat) : Int)) = true := by first | (simp; done) | (simp; omega)
                    cases p4 : decide ((m : Int) ≤ pv) with
                    | true =>
                      have hz := hidden (hst.out 9 (by rw [hO.out, if_neg n0, if_neg n1, if_neg n3, if_pos ⟨by omega, of_decide_eq_true p4⟩]) (by decide))
                      gi_wp2
                      refine bodyPost_ret (v := .int .i64 9) (by simp [results, Tryz.results98, go_sem]) rfl (retX (by rw [hz.out]) hBx)
                    | false =>
                      have hz := hidden (hgo.out (by rw [hO.out, if_neg n0, if_neg n1, if_neg n3, if_neg (fun h => of_decide_eq_false p4 h.2)]))
                      gi_wp2
                      go_roundw
                      case rel => exact ⟨j + 1 + 1, by go_num, by omega, hB, hz.out⟩
                      case measure => simp [intOf]; omega
          · obtain rfl : k = S.dr.length := by omega
            have hz : Hid (setE H S = 0) := by unfold Hid; rw [hE2.out, firstE_end hno]
            gi_wp2
            refine bodyPost_ret (v := .int .i64 0) (by simp [results, Tryz.results98, go_sem]) rfl (retX (by rw [hz.out]) hBx)
end Go.Proofs.YtbonjgeglhbhnaaGreat
