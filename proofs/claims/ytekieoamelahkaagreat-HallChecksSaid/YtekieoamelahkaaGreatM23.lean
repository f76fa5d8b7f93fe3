/- checkSetting. -/
import Derived.Test.YtekieoamelahkaaGreatM22
import Derived.Test.YtekieoamelahkaaGreatM18
set_option maxRecDepth 100000
set_option maxHeartbeats 1000000
set_option linter.unusedVariables false
set_option linter.unusedSimpArgs false
namespace Go.Proofs.YtekieoamelahkaaGreat
open Go.RowKit Go.Shelf
attribute [local go_sem] Oper.semAt_some

def sthE (H : Hal) (S : Stg) (k : Nat) : Int := if intAt S.hs k < 0 then 6 else if ((canAt H.cans k).hs.length : Int) ≤ intAt S.hs k then 6 else 0
def stdE (H : Hal) (S : Stg) (k : Nat) : Int := if intAt S.dr k < 0 then 6 else if (H.wals.length : Int) ≤ intAt S.dr k then 6 else if (walAt H.wals (intAt S.dr k).toNat).cur.size = 0 then 6 else if 0 < k ∧ intAt S.dr k ≤ intAt S.dr (k - 1) then 9 else 0
def firstE (E : Nat → Int) (n : Nat) : Int := match firstBad E n with | none => 0 | some k => E k
theorem firstE_stop {E : Nat → Int} {n k : Nat} {e : Int} (hk : k < n) (he : E k = e) (hn : e ≠ 0) (h : ∀ j, j < k → E j = 0) : firstE E n = e := by
 unfold firstE; rw [firstBad_stop hk (by rw [he]; exact hn) h]; exact he
theorem firstE_end {E : Nat → Int} {n : Nat} (h : ∀ j, j < n → E j = 0) : firstE E n = 0 := by
 unfold firstE; rw [firstBad_end h]
theorem firstE_zero {E : Nat → Int} {n : Nat} (h : firstE E n = 0) : ∀ j, j < n → E j = 0 := by
 unfold firstE at h
 cases hb : firstBad E n with
 | none => exact firstBad_none hb
 | some k =>
  rw [hb] at h
  unfold firstBad at hb
  have := List.find?_some hb
  simp at this
  exact absurd h this
def setE (H : Hal) (S : Stg) : Int := if S.hs.length ≠ H.cans.length then 10 else if firstE (sthE H S) S.hs.length ≠ 0 then firstE (sthE H S) S.hs.length else firstE (stdE H S) S.dr.length

theorem checkSetting_room {w : World} {b : Nat} {H : Hal} {S0 S : Stg} {v9 v10 : Value} (hR : Room w b H S0) (h9 : SlcAt encInt w v9 S.hs) (h10 : SlcAt encInt w v10 S.dr) :
 Calls Tryz.prog 143 #[.pointer (some ⟨b, 0, none⟩), .agg #[v9, v10]] w (RetX w (.int .i64 (setE H S))) := by
 have HE : Hid (setE H S = if S.hs.length ≠ H.cans.length then 10 else if firstE (sthE H S) S.hs.length ≠ 0 then firstE (sthE H S) S.hs.length else firstE (stdE H S) S.dr.length) := rfl
 obtain ⟨v4, v5, v6, v7, v8, u9, u10, hR⟩ := hR
 obtain ⟨A7, c7, rfl, hS7⟩ := slc_form hR.hal.cans
 obtain ⟨A6, c6, rfl, hS6⟩ := slc_form hR.hal.wals
 obtain ⟨A9, c9, rfl, h9⟩ := slc_form h9
 obtain ⟨A10, c10, rfl, h10⟩ := slc_form h10
 have l7 := hS7.1
 have l6 := hS6.1
 have l9 := h9.1
 have l10 := h10.1
 have k7 := hR.c7
 have k6 := hR.c6
 have hb := hR.has
 clear hR
 refine (callsIn_wide (n := 10)).1 ?_
 refine callsIn_of_wp Tryz.func143 rfl trivial ?_ rfl
 simp only [Tryz.ntmps143, nt, Nat.reduceAdd, Nat.reduceSub]
 cases q : ((S.hs.length : Int) != (H.cans.length : Int)) with
 | true =>
  have hE := HE.out
  rw [if_pos (by simp at q; omega)] at hE
  rw [hE]
  gi_wp2
  refine wpIn_wide.2 ?_
  (refine tmX (by kernel_rfl) (by kernel_rfl) ?_); (repeat (first | (refine tmS rfl ?_; simp only [Act.put, List.setIfInBounds_toArray, List.set_cons_succ, List.set_cons_zero]) | (refine tmP rfl rfl rfl (fun K hK => ?_); go_big_quiet_op; refine hK _ ?_; clear hK K) | (refine tmE rfl rfl (fun K hK => ?_); go_big_op; (first | fail | skip); (refine hK _ _ rfl (ext_of_below (by (repeat' first | with_reducible (first | apply bz0 | assumption | apply bz1 | apply bz2 | apply bz3 | apply bz4 | apply bz5) | (simp <;> omega)))) ?_; clear hK K)))); (refine tmN ?_)
  gi_wp2
  refine bodyPost_ret (v := .int .i64 10) (by simp [results, Tryz.results143, go_sem]) rfl (retX rfl (by (repeat' first | with_reducible (first | apply bz0 | assumption | apply bz1 | apply bz2 | apply bz3 | apply bz4 | apply bz5) | (simp <;> omega))))
 | false =>
  have hE := HE.out
  rw [if_neg (by simp at q; omega)] at hE
  have hlen : S.hs.length = H.cans.length := by simp at q; omega
  have q' : ((S.hs.length : Int) == (H.cans.length : Int)) = true := by simp at q ⊢; omega
  gi_wp2
  refine wpIn_wide.2 ?_
  (refine tmX (by kernel_rfl) (by kernel_rfl) ?_); (repeat (first | (refine tmS rfl ?_; simp only [Act.put, List.setIfInBounds_toArray, List.set_cons_succ, List.set_cons_zero]) | (refine tmP rfl rfl rfl (fun K hK => ?_); go_big_quiet_op; refine hK _ ?_; clear hK K) | (refine tmE rfl rfl (fun K hK => ?_); go_big_op; (first | fail | skip); (refine hK _ _ rfl (ext_of_below (by (repeat' first | with_reducible (first | apply bz0 | assumption | apply bz1 | apply bz2 | apply bz3 | apply bz4 | apply bz5) | (simp <;> omega)))) ?_; clear hK K)))); (refine tmN ?_)
  gi_wp2
  generalize hw1 : World.drew _ = w1
  have hB1 : Below w.heap.size w w1 := by rw [← hw1]; (repeat' first | with_reducible (first | apply bz0 | assumption | apply bz1 | apply bz2 | apply bz3 | apply bz4 | apply bz5) | (simp <;> omega))
  have d0 : w1.cell? ⟨w.heap.size, 1, none⟩ = some (.slice A10 S.dr.length c10) := by rw [← hw1]; simp [go_sem]
  clear hw1
  gi_loopw [22] (fun i wr => ∃ k : Nat, i = .int .i64 k ∧ k ≤ S.hs.length ∧ Below w1.heap.size w1 wr ∧ ∀ j, j < k → sthE H S j = 0) (fun i _ => S.hs.length - (intOf i).toNat)
  case atStart => exact ⟨0, rfl, Nat.zero_le _, Below.refl _ _, fun j hj => absurd hj (Nat.not_lt_zero j)⟩
  case round =>
   obtain ⟨k, rfl, hk, hB, hno⟩ := hrel
   have hBw : Below w.heap.size w wr := hB1.trans (hB.lower hB1.size)
   rcases Nat.lt_or_ge k S.hs.length with hlt | hge
   · obtain ⟨g, o, rfl, hg, hcs⟩ := int_at (h9.below hBw) hlt
     have z0 := hcs k hlt
     obtain ⟨g7, o7, rfl, hg7, hcs7⟩ := can_at (hS7.below hBw) (i := k) (by omega)
     obtain ⟨_, _, _, _, _, _, A', c', z6, _⟩ := hcs7 k (by omega)
     replace k7 := cell_below hBw hb k7
     have hb' : wr.Has b := has_of_cell k7
     have hst : Hid (∀ e, sthE H S k = e → e ≠ 0 → setE H S = e) := fun e he hn => by
      have := firstE_stop hlt he hn hno
      rw [hE, this, if_pos hn]
     have hgo : Hid (sthE H S k = 0 → ∀ j, j < k + 1 → sthE H S j = 0) := fun he j hj => by
      rcases Nat.lt_or_ge j k with h' | h'
      · exact hno j h'
      · obtain rfl : j = k := by omega
        exact he
     have hO : Hid (sthE H S k = if intAt S.hs k < 0 then 6 else if ((canAt H.cans k).hs.length : Int) ≤ intAt S.hs k then 6 else 0) := rfl
     have hk7 : k < H.cans.length := by omega
     clear hcs hcs7 hno hE HE h9 h10 hS7 hS6 d0
     generalize intAt S.hs k = n at *
     generalize (canAt H.cans k).hs.length = m at *
     generalize H.cans.length = n7 at *
     generalize S.hs.length = n9 at *
     cases p1 : decide (n < 0) with
     | true =>
      have hz := hidden (hst.out 6 (by rw [hO.out, if_pos (of_decide_eq_true p1)]) (by decide))
      gi_wp2
      refine bodyPost_ret (v := .int .i64 6) (by simp [results, Tryz.results143, go_sem]) rfl (retX (by rw [hz.out]) hBw)
     | false =>
      cases p2 : decide ((m : Int) ≤ n) with
      | true =>
       have hz := hidden (hst.out 6 (by rw [hO.out, if_neg (of_decide_eq_false p1), if_pos (of_decide_eq_true p2)]) (by decide))
       gi_wp2
       refine bodyPost_ret (v := .int .i64 6) (by simp [results, Tryz.results143, go_sem]) rfl (retX (by rw [hz.out]) hBw)
      | false =>
       have hz := hidden (hgo.out (by rw [hO.out, if_neg (of_decide_eq_false p1), if_neg (of_decide_eq_false p2)]))
       gi_wp2
       go_roundw
       case rel => exact ⟨k + 1, by go_num, by omega, hB, hz.out⟩
       case measure => simp [intOf]; omega
   · obtain rfl : k = S.hs.length := by omega
     have hE2 : Hid (setE H S = firstE (stdE H S) S.dr.length) := by unfold Hid; rw [hE, firstE_end hno, if_neg (by simp)]
     replace d0 := cell_below hB (has_of_cell d0) d0
     have gd := has_of_cell d0
     clear hno hE HE
     gi_wp2
     generalize wr = w2 at *
     clear hB
     gi_loopw [47] (fun i wr => ∃ k : Nat, i = .int .i64 k ∧ k ≤ S.dr.length ∧ Below w2.heap.size w2 wr ∧ ∀ j, j < k → stdE H S j = 0) (fun i _ => S.dr.length - (intOf i).toNat)
     case atStart => exact ⟨0, rfl, Nat.zero_le _, Below.refl _ _, fun j hj => absurd hj (Nat.not_lt_zero j)⟩
     case round =>
      obtain ⟨k, rfl, hk, hB, hno⟩ := hrel
      have hBx : Below w.heap.size w wr := hBw.trans (hB.lower hBw.size)
      rcases Nat.lt_or_ge k S.dr.length with hlt | hge
      · obtain ⟨g, o, rfl, hg, hcs⟩ := int_at (h10.below hBx) hlt
        have z0 := hcs k hlt
        have zp := hcs (k - 1) (by omega)
        replace k6 := cell_below hBx hb k6
        replace d0 := cell_below hB gd d0
        have gd' := has_of_cell d0
        have hb' : wr.Has b := has_of_cell k6
        have hst : Hid (∀ e, stdE H S k = e → e ≠ 0 → setE H S = e) := fun e he hn => by
         rw [hE2.out]; exact firstE_stop hlt he hn hno
        have hgo : Hid (stdE H S k = 0 → ∀ j, j < k + 1 → stdE H S j = 0) := fun he j hj => by
         rcases Nat.lt_or_ge j k with h' | h'
         · exact hno j h'
         · obtain rfl : j = k := by omega
           exact he
        have hO : Hid (stdE H S k = if intAt S.dr k < 0 then 6 else if (H.wals.length : Int) ≤ intAt S.dr k then 6 else if (walAt H.wals (intAt S.dr k).toNat).cur.size = 0 then 6 else if 0 < k ∧ intAt S.dr k ≤ intAt S.dr (k - 1) then 9 else 0) := rfl
        have hS6' := hS6.below hBx
        clear hcs hno hE2 h9 h10 hS7 hS6 gd hBw
        generalize intAt S.dr k = n at *
        generalize intAt S.dr (k - 1) = pv at *
        generalize S.dr.length = nd at *
        cases p1 : decide (n < 0) with
        | true =>
         have hz := hidden (hst.out 6 (by rw [hO.out, if_pos (of_decide_eq_true p1)]) (by decide))
         gi_wp2
         refine bodyPost_ret (v := .int .i64 6) (by simp [results, Tryz.results143, go_sem]) rfl (retX (by rw [hz.out]) hBx)
        | false =>
         cases p2 : decide ((H.wals.length : Int) ≤ n) with
         | true =>
          have hz := hidden (hst.out 6 (by rw [hO.out, if_neg (of_decide_eq_false p1), if_pos (of_decide_eq_true p2)]) (by decide))
          gi_wp2
          refine bodyPost_ret (v := .int .i64 6) (by simp [results, Tryz.results143, go_sem]) rfl (retX (by rw [hz.out]) hBx)
         | false =>
          have n0 := of_decide_eq_false p1
          have n1 := of_decide_eq_false p2
          obtain ⟨m, rfl⟩ : ∃ m : Nat, n = m := ⟨n.toNat, by omega⟩
          have hml : m < H.wals.length := by omega
          obtain ⟨g6, o6, rfl, hg6, hcs6⟩ := wal_at hS6' hml
          obtain ⟨_, _, y2⟩ := hcs6 m hml
          have hem := empty_iff (walAt H.wals m).cur
          simp only [Int.toNat_natCast] at hO
          clear hcs6 hS6'
          cases p3 : decide ((walAt H.wals m).cur.size = 0) with
          | true =>
           rw [p3] at hem
           have hz := hidden (hst.out 6 (by rw [hO.out, if_neg n0, if_neg n1, if_pos (of_decide_eq_true p3)]) (by decide))
           gi_wp2
           refine bodyPost_ret (v := .int .i64 6) (by simp [results, Tryz.results143, go_sem]) rfl (retX (by rw [hz.out]) hBx)
          | false =>
           rw [p3] at hem
           have n3 := of_decide_eq_false p3
           rcases Nat.eq_zero_or_pos k with hk0 | hk0
           · have hz := hidden (hgo.out (by rw [hO.out, if_neg n0, if_neg n1, if_neg n3, if_neg (by omega)]))
             subst hk0
             simp only [Nat.add_zero] at z0
             have e00 : decide ((0 : Int) < ((0 : Nat) : Int)) = false := by decide
             gi_wp2
             go_roundw
             case rel => exact ⟨0 + 1, by go_num, by omega, hB, hz.out⟩
             case measure => simp [intOf]; omega
           · obtain ⟨j, rfl⟩ : ∃ j, k = j + 1 := ⟨k - 1, by omega⟩
             simp only [Nat.add_sub_cancel] at zp
             have e1 : IntKind.i64.wrap (((j + 1 : Nat) : Int) - 1) = (j : Int) := by rw [IntWalk.i64_in _ (by omega)]; omega
             have e0 : decide ((0 : Int) < ((j + 1 : Nat) : Int)) = true := by first | (simp; done) | (simp; omega)
             cases p4 : decide ((m : Int) ≤ pv) with
             | true =>
              have hz := hidden (hst.out 9 (by rw [hO.out, if_neg n0, if_neg n1, if_neg n3, if_pos ⟨by omega, of_decide_eq_true p4⟩]) (by decide))
              gi_wp2
              refine bodyPost_ret (v := .int .i64 9) (by simp [results, Tryz.results143, go_sem]) rfl (retX (by rw [hz.out]) hBx)
             | false =>
              have hz := hidden (hgo.out (by rw [hO.out, if_neg n0, if_neg n1, if_neg n3, if_neg (fun h => of_decide_eq_false p4 h.2)]))
              gi_wp2
              go_roundw
              case rel => exact ⟨j + 1 + 1, by go_num, by omega, hB, hz.out⟩
              case measure => simp [intOf]; omega
      · obtain rfl : k = S.dr.length := by omega
        have hz : Hid (setE H S = 0) := by unfold Hid; rw [hE2.out, firstE_end hno]
        gi_wp2
        refine bodyPost_ret (v := .int .i64 0) (by simp [results, Tryz.results143, go_sem]) rfl (retX (by rw [hz.out]) hBx)
end Go.Proofs.YtekieoamelahkaaGreat

/- visitIn. -/
namespace Go.Proofs.YtekieoamelahkaaGreat
open Go.RowKit

def inE (H : Hal) (S : Stg) : Int := if (hallF H).2.2 ≠ 0 then (hallF H).2.2 else setE H S
def setV (v9 v10 : Value) : Value := .agg #[v9, v10]

theorem visitIn_bad {w : World} {H : Hal} {S : Stg} {v4 v5 v6 v7 v8 v9 v10 : Value} (hV : HalVs w v4 v5 v6 v7 v8 H) (h9 : SlcAt encInt w v9 S.hs) (h10 : SlcAt encInt w v10 S.dr) (hE : inE H S ≠ 0) :
 Calls Tryz.prog 87 #[halV H v4 v5 v6 v7 v8, .agg #[v9, v10]] w (RetX w (.tuple #[.pointer none, .int .i64 (inE H S)])) := by
 by_cases h0 : (hallF H).2.2 = 0
 · have hE' : inE H S = setE H S := by unfold inE; rw [if_neg (by simp [h0])]
   have HC := hidden (fun (W : World) (hW : Below w.heap.size w W) => visit_good (hV.below hW) h0)
   have HS := hidden (fun (W : World) (hW : Below w.heap.size w W) (b : Nat) (hR : Room W b H ⟨[], []⟩) => checkSetting_room hR (h9.below hW) (h10.below hW))
   rw [hE']
   rw [hE'] at hE
   generalize setE H S = z at *
   have q4 : (z != 0) = true := by simp [hE]
   have q5 : (z == 0) = false := by simp [hE]
   clear hE' h0
   obtain ⟨_, g4, g5, g6, g7, g8⟩ := hV; obtain ⟨A4, c4, rfl, _⟩ := slc_form g4; obtain ⟨A5, c5, rfl, _⟩ := slc_form g5; obtain ⟨A6, c6, rfl, _⟩ := slc_form g6; obtain ⟨A7, c7, rfl, _⟩ := slc_form g7; obtain ⟨A8, c8, rfl, _⟩ := slc_form g8; obtain ⟨A9, c9, rfl, _⟩ := slc_form h9; obtain ⟨A10, c10, rfl, _⟩ := slc_form h10
   clear g4 g5 g6 g7 g8
   unfold halV at *
   go_enter Tryz.func87, Tryz.ntmps87
   go_wp2_with (first | (go_at_call 77; refine (HC.out _ (by (repeat' first | with_reducible (first | apply bz0 | assumption | apply bz1 | apply bz2 | apply bz3 | apply bz4 | apply bz5) | (simp <;> omega)))).mono ?_; rintro e w1 ⟨hB1, b, hb1, rfl, ⟨t9, t10, hRx⟩, hf1⟩; have hR1 : Room w1 b H ⟨[], []⟩ := ⟨_, _, _, _, _, _, _, hRx⟩; have hBx : Below w.heap.size w w1 := (show Below w.heap.size w _ by (repeat' first | with_reducible (first | apply bz0 | assumption | apply bz1 | apply bz2 | apply bz3 | apply bz4 | apply bz5) | (simp <;> omega))).trans (hB1.lower (by simp; omega)); have y3 := (Sim.of_below (D := 0) hB1).cell (p := ⟨w.heap.size + 1, 0, none⟩) (by simp [go_sem]; rfl); have y4 := (Sim.of_below (D := 0) hB1).cell (p := ⟨w.heap.size + 1, 1, none⟩) (by simp [go_sem]; rfl)) | (go_at_call 143; refine (HS.out _ hBx _ hR1).mono ?_; rintro e w' ⟨rfl, x2, rfl⟩))
   refine bodyPost_ret (v := .tuple #[.pointer none, .int .i64 z]) (by simp [results, Tryz.results87, go_sem]) rfl (retX rfl (hBx.trans ((show Below w1.heap.size w1 _ by (repeat' first | with_reducible (first | apply bz0 | assumption | apply bz1 | apply bz2 | apply bz3 | apply bz4 | apply bz5) | (simp <;> omega))).lower hBx.size)))
 · have hE' : inE H S = (hallF H).2.2 := by unfold inE; rw [if_pos h0]
   have HC := hidden (fun (W : World) (hW : Below w.heap.size w W) => visit_bad (hV.below hW) h0)
   rw [hE']
   generalize (hallF H).2.2 = z at *
   have q4 : (z != 0) = true := by simp [h0]
   have q5 : (z == 0) = false := by simp [h0]
   clear hE'
   obtain ⟨_, g4, g5, g6, g7, g8⟩ := hV; obtain ⟨A4, c4, rfl, _⟩ := slc_form g4; obtain ⟨A5, c5, rfl, _⟩ := slc_form g5; obtain ⟨A6, c6, rfl, _⟩ := slc_form g6; obtain ⟨A7, c7, rfl, _⟩ := slc_form g7; obtain ⟨A8, c8, rfl, _⟩ := slc_form g8; obtain ⟨A9, c9, rfl, _⟩ := slc_form h9; obtain ⟨A10, c10, rfl, _⟩ := slc_form h10
   clear g4 g5 g6 g7 g8
   unfold halV at *
   go_enter Tryz.func87, Tryz.ntmps87
   go_wp2_with (go_at_call 77; refine (HC.out _ (by (repeat' first | with_reducible (first | apply bz0 | assumption | apply bz1 | apply bz2 | apply bz3 | apply bz4 | apply bz5) | (simp <;> omega)))).mono ?_; rintro e w' ⟨rfl, x1, rfl⟩)
   refine bodyPost_ret (v := .tuple #[.pointer none, .int .i64 z]) (by simp [results, Tryz.results87, go_sem]) rfl (retX rfl (by (repeat' first | with_reducible (first | apply bz0 | assumption | apply bz1 | apply bz2 | apply bz3 | apply bz4 | apply bz5) | (simp <;> omega))))

theorem visitIn_good {w : World} {H : Hal} {S : Stg} {v4 v5 v6 v7 v8 v9 v10 : Value} (hV : HalVs w v4 v5 v6 v7 v8 H) (h9 : SlcAt encInt w v9 S.hs) (h10 : SlcAt encInt w v10 S.dr) (hE : inE H S = 0) :
 Calls Tryz.prog 87 #[halV H v4 v5 v6 v7 v8, .agg #[v9, v10]] w (fun e w' => Below w.heap.size w w' ∧ ∃ b, w.heap.size ≤ b ∧ e = .returned (.tuple #[.pointer (some ⟨b, 0, none⟩), .int .i64 0]) ∧ Room w' b H S) := by
 have h0 : (hallF H).2.2 = 0 := by
  unfold inE at hE
  by_cases h : (hallF H).2.2 = 0
  · exact h
  · rw [if_pos h] at hE; exact hE
 have hs : setE H S = 0 := by unfold inE at hE; rwa [if_neg (by simp [h0])] at hE
 have HC := hidden (fun (W : World) (hW : Below w.heap.size w W) => visit_good (hV.below hW) h0)
 have HS := hidden (fun (W : World) (hW : Below w.heap.size w W) (b : Nat) (hR : Room W b H ⟨[], []⟩) => checkSetting_room hR (h9.below hW) (h10.below hW))
 rw [hs] at HS
 have hV' := hV
 have h9' := h9
 have h10' := h10
 obtain ⟨_, g4, g5, g6, g7, g8⟩ := hV'
 obtain ⟨A4, c4, rfl, _⟩ := slc_form g4
 obtain ⟨A5, c5, rfl, _⟩ := slc_form g5
 obtain ⟨A6, c6, rfl, _⟩ := slc_form g6
 obtain ⟨A7, c7, rfl, _⟩ := slc_form g7
 obtain ⟨A8, c8, rfl, _⟩ := slc_form g8
 obtain ⟨A9, c9, rfl, _⟩ := slc_form h9'
 obtain ⟨A10, c10, rfl, _⟩ := slc_form h10'
 unfold halV at *
 go_enter Tryz.func87, Tryz.ntmps87
 go_wp2_with (first | (go_at_call 77; refine (HC.out _ (by (repeat' first | with_reducible (first | apply bz0 | assumption | apply bz1 | apply bz2 | apply bz3 | apply bz4 | apply bz5) | (simp <;> omega)))).mono ?_; rintro e w1 ⟨hB1, b, hb1, rfl, ⟨t9, t10, hRx⟩, hf1⟩; have hR1 : Room w1 b H ⟨[], []⟩ := ⟨_, _, _, _, _, _, _, hRx⟩; have hBx : Below w.heap.size w w1 := (show Below w.heap.size w _ by (repeat' first | with_reducible (first | apply bz0 | assumption | apply bz1 | apply bz2 | apply bz3 | apply bz4 | apply bz5) | (simp <;> omega))).trans (hB1.lower (by simp; omega)); have y3 := (Sim.of_below (D := 0) hB1).cell (p := ⟨w.heap.size + 1, 0, none⟩) (by simp [go_sem]; rfl); have y4 := (Sim.of_below (D := 0) hB1).cell (p := ⟨w.heap.size + 1, 1, none⟩) (by simp [go_sem]; rfl); have j0 := hRx.c0; have j1 := hRx.c1; have j2 := hRx.c2; have j3 := hRx.c3; have j4 := hRx.c4; have j5 := hRx.c5; have j6 := hRx.c6; have j7 := hRx.c7; have j8 := hRx.c8; have j9 := hRx.c9; have j10 := hRx.c10; have jb := hRx.has; clear hRx; have f9 := hf1 9; have f10 := hf1 10; have gy := has_of_cell y3) | (go_at_call 143; refine (HS.out _ hBx _ hR1).mono ?_; rintro e w' ⟨rfl, x2, rfl⟩))
 have hbw : w.heap.size ≤ b := Nat.le_trans (by simp; omega) hb1
 have hgs := hBx.size
 generalize hZ : World.setCell _ _ _ = Z
 have BZ : Below w.heap.size w Z := by rw [← hZ]; exact hBx.trans (by (repeat' first | with_reducible (first | apply bz0 | assumption | apply bz1 | apply bz2 | apply bz3 | apply bz4 | apply bz5) | (simp <;> omega)))
 refine bodyPost_ret (v := .tuple #[.pointer (some ⟨b, 0, none⟩), .int .i64 0]) (by simp [results, Tryz.results87, go_sem]) rfl ⟨BZ, b, hbw, rfl, ?_⟩
 refine ⟨_, _, _, _, _, _, _, ⟨?_, ?_, ?_, ?_, ?_, ?_, ?_, ?_, ?_, ?_, ?_, ?_, hV.below BZ, h9.below BZ, h10.below BZ⟩⟩
 · rw [← hZ]; simp [jb]
 · rw [← hZ]; simp [go_sem, j0, jb]
 · rw [← hZ]; simp [go_sem, j1, jb]
 · rw [← hZ]; simp [go_sem, j2, jb]
 · rw [← hZ]; simp [go_sem, j3, jb]
 · rw [← hZ]; simp [go_sem, j4, jb]
 · rw [← hZ]; simp [go_sem, j5, jb]
 · rw [← hZ]; simp [go_sem, j6, jb]
 · rw [← hZ]; simp [go_sem, j7, jb]
 · rw [← hZ]; simp [go_sem, j8, jb]
 · rw [← hZ]; simp [go_sem, j9, j10, jb]
 · rw [← hZ]; simp [go_sem, j9, j10, jb]
end Go.Proofs.YtekieoamelahkaaGreat

/- The greatest common divisor of a number above 0 and others. -/
namespace Go.Proofs.YtekieoamelahkaaGreat
open Go.RowKit Go.Shelf
attribute [local go_sem] Oper.semAt_some

def dvTo (D : Int) (xs : List Int) : Nat → Int
 | 0 => D
 | k + 1 => (Int.gcd (dvTo D xs k) (intAt xs k) : Int)
theorem gcd_step (d n : Int) : Int.gcd (n.tmod d).natAbs d = Int.gcd d n := by
 unfold Int.gcd
 rw [Int.natAbs_natCast, Int.natAbs_tmod, ← Nat.gcd_rec]
theorem dvTo_bd {D : Int} {xs : List Int} (hD : 0 < D) : ∀ k, 0 < dvTo D xs k ∧ dvTo D xs k ≤ D
 | 0 => ⟨hD, Int.le_refl _⟩
 | k + 1 => by
  obtain ⟨h1, h2⟩ := dvTo_bd (xs := xs) hD k
  have hg : 0 < Int.gcd (dvTo D xs k) (intAt xs k) := by
   unfold Int.gcd
   exact Nat.gcd_pos_of_pos_left _ (by omega)
  have hl : (Int.gcd (dvTo D xs k) (intAt xs k) : Int) ≤ dvTo D xs k := Int.le_of_dvd h1 (Int.gcd_dvd_left ..)
  unfold dvTo
  omega

theorem divisor_any (D : Int) (hD : 0 < D ∧ D ≤ 4000000000000000) (xs : List Int) (hx : ∀ k, k < xs.length → -4000000000000000000 ≤ intAt xs k ∧ intAt xs k ≤ 4000000000000000000) (A : Option Addr) (c : Nat) (w : World) (hS : SlcAt encInt w (.slice A xs.length c) xs) :
 Calls Tryz.prog 149 #[.int .i64 D, .slice A xs.length c] w (RetX w (.int .i64 (dvTo D xs xs.length))) := by
 have hl := hS.1
 refine (callsIn_wide (n := 10)).1 ?_
 refine callsIn_of_wp Tryz.func149 rfl trivial ?_ rfl
 simp only [Tryz.ntmps149, nt, Nat.reduceAdd, Nat.reduceSub]
 gi_wp2
 gi_loopw [0, 9] (fun dv i wr => ∃ k : Nat, i = .int .i64 k ∧ k ≤ xs.length ∧ dv = .int .i64 (dvTo D xs k) ∧ Below w.heap.size w wr) (fun _ i _ => xs.length - (intOf i).toNat)
 case atStart => exact ⟨0, rfl, Nat.zero_le _, rfl, Below.refl _ _⟩
 case round =>
  obtain ⟨k, rfl, hk, rfl, hB⟩ := hrel
  replace hS := hS.below hB
  rcases Nat.lt_or_ge k xs.length with hlt | hge
  · obtain ⟨g, o, rfl, hg, hcs⟩ := int_at hS hlt
    have k0 := hcs k hlt
    have hxk := hx k hlt
    have hbd := dvTo_bd (xs := xs) hD.1 k
    have hG : Hid (dvTo D xs (k + 1) = (Int.gcd (dvTo D xs k) (intAt xs k) : Int)) := rfl
    clear hcs hS
    generalize dvTo D xs k = d0 at *
    generalize intAt xs k = n0 at *
    generalize hGG : dvTo D xs (k + 1) = G at *
    gi_wp2
    generalize wr = w2 at *
    gi_loopw [0, 6] (fun dv nv wr => ∃ d n : Int, dv = .int .i64 d ∧ nv = .int .i64 n ∧ (0 < d ∧ d ≤ D) ∧ (-4000000000000000000 ≤ n ∧ n ≤ 4000000000000000000) ∧ (Int.gcd d n : Int) = G ∧ Below w2.heap.size w2 wr) (fun dv _ _ => (intOf dv).toNat)
    case atStart => exact ⟨d0, n0, rfl, rfl, hbd, hxk, hG.out.symm, Below.refl _ _⟩
    case round =>
     obtain ⟨d, n, rfl, rfl, hd, hn, hg2, hB2⟩ := hrel
     have hdn : d ≠ 0 := by omega
     have ht1 := Int.tmod_lt_of_pos n hd.1
     have ht2 := Int.lt_tmod_of_pos n hd.1
     have hstep := gcd_step d n
     have hzero : n.tmod d = 0 → (Int.gcd d n : Int) = d := fun h => by
      rw [h] at hstep
      simp only [Int.natAbs_zero] at hstep
      have e : Int.gcd ((0 : Nat) : Int) d = d.natAbs := by unfold Int.gcd; simp
      rw [e] at hstep
      omega
     have hz := hidden hzero
     have hs := hidden hstep
     clear hzero hstep
     have hne1 : d ≠ -1 := by omega
     have hm : Hid (((max (n.tmod d) (-(n.tmod d)) : Int)) = ((n.tmod d).natAbs : Int)) := by unfold Hid; omega
     cases q : (n.tmod d != 0) with
     | true =>
      gi_wp2
      (refine ⟨trivial, ?_⟩; ((with_reducible refine (callsIn_wide.2 (size_any _ _ (by omega) (by omega))).mono ?_); rintro e w' ⟨rfl, rfl⟩))
      gi_wp2
      go_roundw
      case rel => 
       have q' : n.tmod d ≠ 0 := by simpa using q
       refine ⟨_, d, rfl, rfl, ⟨by omega, by omega⟩, by omega, ?_, hB2⟩
       rw [hm.out, hs.out]; exact hg2
      case measure =>
       have q' : n.tmod d ≠ 0 := by simpa using q
       simp [intOf]; omega
     | false =>
      have hd2 := hidden ((hz.out (by simpa using q)).symm.trans hg2)
      gi_wp2
      go_roundw
      case rel => exact ⟨k + 1, by go_num, by omega, by rw [hd2.out, hGG], hB.trans (hB2.lower hB.size)⟩
      case measure => simp [intOf]; omega
  · obtain rfl : k = xs.length := by omega
    gi_wp2
    refine bodyPost_ret (v := .int .i64 (dvTo D xs xs.length)) (by simp [results, Tryz.results149, go_sem]) rfl (retX rfl hB)
end Go.Proofs.YtekieoamelahkaaGreat

/- pointError, lowest. -/
namespace Go.Proofs.YtekieoamelahkaaGreat
open Go.RowKit

def dvP (x y z d : Int) : Int := dvTo d [x, y, z] 3
def ptE (x y z d : Int) : Int := if d ≤ 0 then 3 else if 1 < dvP x y z d then 3 else if 100000 < d then 2 else if beyondB (5000 * d) [x, y, z] then 2 else 0
theorem three_bd {B x y z : Int} (hx : -B ≤ x ∧ x ≤ B) (hy : -B ≤ y ∧ y ≤ B) (hz : -B ≤ z ∧ z ≤ B) : ∀ k, k < [x, y, z].length → -B ≤ intAt [x, y, z] k ∧ intAt [x, y, z] k ≤ B := by
 intro k hk
 have : k = 0 ∨ k = 1 ∨ k = 2 := by simp at hk; omega
 rcases this with rfl | rfl | rfl
 · exact hx
 · exact hy
 · exact hz

theorem pointError_any (x y z d : Int) (w : World) (hd : d ≤ 100000000000000) (hx : -4000000000000000000 ≤ x ∧ x ≤ 4000000000000000000) (hy : -4000000000000000000 ≤ y ∧ y ≤ 4000000000000000000) (hz : -4000000000000000000 ≤ z ∧ z ≤ 4000000000000000000) :
 Calls Tryz.prog 111 #[.agg #[.int .i64 x, .int .i64 y, .int .i64 z, .int .i64 d]] w (RetX w (.int .i64 (ptE x y z d))) := by
 have HE : Hid (ptE x y z d = if d ≤ 0 then 3 else if 1 < dvP x y z d then 3 else if 100000 < d then 2 else if beyondB (5000 * d) [x, y, z] then 2 else 0) := rfl
 cases q0 : decide (d ≤ 0) with
 | true =>
  have hE := HE.out
  rw [if_pos (of_decide_eq_true q0)] at hE
  rw [hE]
  clear HE hE
  go_enter Tryz.func111, Tryz.ntmps111
  go_wp2
  go_ret
  refine retX_int rfl ?_
  (repeat' first | with_reducible (first | apply bz0 | assumption | apply bz1 | apply bz2 | apply bz3 | apply bz4 | apply bz5) | (simp <;> omega))
 | false =>
  have d0 := of_decide_eq_false q0
  have hE := HE.out
  rw [if_neg d0] at hE
  have HD := hidden (fun (W : World) (B : Nat) (h0 : W.cell? ⟨B, 0, none⟩ = some (.int .i64 x)) (h1 : W.cell? ⟨B, 1, none⟩ = some (.int .i64 y)) (h2 : W.cell? ⟨B, 2, none⟩ = some (.int .i64 z)) => divisor_any d ⟨by omega, by omega⟩ [x, y, z] (three_bd hx hy hz) (some ⟨B, 0, none⟩) 3 W (slc3 h0 h1 h2))
  have hDd : Hid (dvTo d [x, y, z] [x, y, z].length = dvP x y z d) := rfl
  rw [hDd.out] at HD
  clear HE hDd
  generalize dvP x y z d = g at *
  generalize ptE x y z d = E at *
  cases q1 : decide (1 < g) with
  | true =>
   rw [if_pos (of_decide_eq_true q1)] at hE
   subst hE
   go_enter Tryz.func111, Tryz.ntmps111
   go_wp2_with (go_at_call 149; refine (HD.out _ _ (by simp [go_sem]) (by simp [go_sem]) (by simp [go_sem])).mono ?_; rintro e w' ⟨rfl, u1, rfl⟩)
   go_ret
   refine retX_int rfl ?_
   (repeat' first | with_reducible (first | apply bz0 | assumption | apply bz1 | apply bz2 | apply bz3 | apply bz4 | apply bz5) | (simp <;> omega))
  | false =>
   rw [if_neg (of_decide_eq_false q1)] at hE
   cases q2 : decide (100000 < d) with
   | true =>
    rw [if_pos (of_decide_eq_true q2)] at hE
    subst hE
    go_enter Tryz.func111, Tryz.ntmps111
    go_wp2_with (go_at_call 149; refine (HD.out _ _ (by simp [go_sem]) (by simp [go_sem]) (by simp [go_sem])).mono ?_; rintro e w' ⟨rfl, u1, rfl⟩)
    go_ret
    refine retX_int rfl ?_
    (repeat' first | with_reducible (first | apply bz0 | assumption | apply bz1 | apply bz2 | apply bz3 | apply bz4 | apply bz5) | (simp <;> omega))
   | false =>
    have d1 := of_decide_eq_false q2
    rw [if_neg d1] at hE
    have e1 : IntKind.i64.wrap (5000 * d) = 5000 * d := IntWalk.i64_in _ (by omega)
    have HY := hidden (fun (W : World) (B : Nat) (h0 : W.cell? ⟨B, 0, none⟩ = some (.int .i64 x)) (h1 : W.cell? ⟨B, 1, none⟩ = some (.int .i64 y)) (h2 : W.cell? ⟨B, 2, none⟩ = some (.int .i64 z)) => beyond_any (5000 * d) (by omega) [x, y, z] (some ⟨B, 0, none⟩) 3 W (slc3 h0 h1 h2))
    cases q3 : beyondB (5000 * d) [x, y, z]
    all_goals
     rw [q3] at hE HY
     simp only [if_true, Bool.false_eq_true, if_false] at hE
     subst hE
     go_enter Tryz.func111, Tryz.ntmps111
     go_wp2_with (first | (go_at_call 149; refine (HD.out _ _ (by simp [go_sem]) (by simp [go_sem]) (by simp [go_sem])).mono ?_; rintro e w' ⟨rfl, u1, rfl⟩) | (go_at_call 105; refine (HY.out _ _ (by simp [go_sem]) (by simp [go_sem]) (by simp [go_sem])).mono ?_; rintro e w' ⟨rfl, u2, rfl⟩))
     go_ret
     refine retX_int rfl ?_
     (repeat' first | with_reducible (first | apply bz0 | assumption | apply bz1 | apply bz2 | apply bz3 | apply bz4 | apply bz5) | (simp <;> omega))

theorem lowest_any (x y z d : Int) (w : World) (hd : 0 < d ∧ d ≤ 4000000000000000) (hx : -4000000000000000000 ≤ x ∧ x ≤ 4000000000000000000) (hy : -4000000000000000000 ≤ y ∧ y ≤ 4000000000000000000) (hz : -4000000000000000000 ≤ z ∧ z ≤ 4000000000000000000) :
 Calls Tryz.prog 120 #[.agg #[.int .i64 x, .int .i64 y, .int .i64 z, .int .i64 d]] w (RetX w (.agg #[.int .i64 (x.tdiv (dvP x y z d)), .int .i64 (y.tdiv (dvP x y z d)), .int .i64 (z.tdiv (dvP x y z d)), .int .i64 (d / (dvP x y z d))])) := by
 have HD := hidden (fun (W : World) (B : Nat) (h0 : W.cell? ⟨B, 0, none⟩ = some (.int .i64 x)) (h1 : W.cell? ⟨B, 1, none⟩ = some (.int .i64 y)) (h2 : W.cell? ⟨B, 2, none⟩ = some (.int .i64 z)) => divisor_any d hd [x, y, z] (three_bd hx hy hz) (some ⟨B, 0, none⟩) 3 W (slc3 h0 h1 h2))
 have hDd : Hid (dvTo d [x, y, z] [x, y, z].length = dvP x y z d) := rfl
 have hg := (dvTo_bd (xs := [x, y, z]) hd.1 3).1
 rw [hDd.out] at HD
 clear hDd
 change 0 < dvP x y z d at hg
 generalize dvP x y z d = g at *
 have g0 : g ≠ 0 := by omega
 have g1 : g ≠ -1 := by omega
 have g2 : (g == 0) = false := by simp [g0]
 go_enter Tryz.func120, Tryz.ntmps120
 go_wp2_with (go_at_call 149; refine (HD.out _ _ (by simp [go_sem]) (by simp [go_sem]) (by simp [go_sem])).mono ?_; rintro e w' ⟨rfl, u1, rfl⟩)
 (refine wp_region_tameH (w.heap.size + 1) (by kernel_rfl) (by kernel_rfl) ?_); (repeat (first | (refine tmS rfl ?_; simp only [Act.put, List.setIfInBounds_toArray, List.set_cons_succ, List.set_cons_zero]) | (refine tmP rfl rfl rfl (fun K hK => ?_); go_big_quiet_op; refine hK _ ?_; clear hK K) | (refine tmE rfl rfl (fun K hK => ?_); go_big_op; (first | fail | skip); (refine hK _ _ rfl (hole_of (by (repeat' (first | (with_reducible exact HoleRel.refl _ _ _) | (with_reducible assumption) | (with_reducible refine HoleRel.swap ?_ _ _) | (with_reducible refine HoleRel.drew ?_) | (with_reducible refine HoleRel.drewN ?_ _) | (with_reducible refine HoleRel.setCell ?_ ?_ _) | (with_reducible refine HoleRel.putObj ?_ ?_ _) | (with_reducible refine HoleRel.alloc ?_ ?_ _) | (with_reducible refine HoleRel.ext ?_ ?_ _) | (exact Or.inl rfl) | (simp; done) | (simp; omega))))) ?_; clear hK K)))); (refine tmN ?_)
 go_wp2
 refine bodyPost_ret (v := .agg #[.int .i64 (x.tdiv g), .int .i64 (y.tdiv g), .int .i64 (z.tdiv g), .int .i64 (d / g)]) (by simp [results, Tryz.results120, go_sem]) rfl (retX rfl ?_)
 (repeat' first | with_reducible (first | apply bz0 | assumption | apply bz1 | apply bz2 | apply bz3 | apply bz4 | apply bz5) | (simp <;> omega))
end Go.Proofs.YtekieoamelahkaaGreat
