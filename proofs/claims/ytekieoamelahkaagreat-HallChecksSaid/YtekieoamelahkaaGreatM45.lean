/- The reference's check of a wall: wallErr. -/
import Derived.Test.YtekieoamelahkaaGreatM44
import Derived.Test.YtekieoamelahkaaGreatM36
set_option linter.unusedVariables false
set_option linter.unusedSimpArgs false
namespace Go.Proofs.YtekieoamelahkaaGreat
open Go.RowKit Go.Shelf
attribute [local go_sem] Oper.semAt_some

theorem fs0_iff (nm : ByteArray) : hasName fs0 nm = ((nm.toList == [102, 108, 111, 111, 114]) || (nm.toList == [99, 101, 105, 108, 105, 110, 103])) := by
 have h1 : (nm.toList == [102, 108, 111, 111, 114]) = (nm == floorN) := by
  rw [← nm_eq]
  have : floorN.toList = [102, 108, 111, 111, 114] := by rw [ByteArray.toList_eq]; rfl
  rw [this]
  exact BEq.comm
 have h2 : (nm.toList == [99, 101, 105, 108, 105, 110, 103]) = (nm == ceilN) := by
  rw [← nm_eq]
  have : ceilN.toList = [99, 101, 105, 108, 105, 110, 103] := by rw [ByteArray.toList_eq]; rfl
  rw [this]
  exact BEq.comm
 rw [h1, h2]
 unfold hasName fs0
 simp
set_option maxRecDepth 100000 in set_option maxHeartbeats 8000000 in
theorem wallErr_any {w : World} {H : Hal} {v4 v5 v6 v7 v8 : Value} (hV : HalVs w v4 v5 v6 v7 v8 H) (hC : CorsIn H) (hN : H.wals.length = H.cors.length) (i : Nat) (hi : i < H.wals.length) :
 Calls Tryz.prog 82 #[halV H v4 v5 v6 v7 v8, .int .i64 i] w (RetX w (.int .i64 (wallEk H (msOf H) fs0 i))) := by
 have hic : i < H.cors.length := by omega
 have HL := hidden (fun (W : World) (hW : Below w.heap.size w W) => LineOf_any (hV.below hW) hC i hic)
 have HM := hidden (fun (W : World) (hW : Below w.heap.size w W) (nm : ByteArray) => refMaterial_any (hV.below hW) nm)
 have HE : Hid (wallEk H (msOf H) fs0 i = wallE (msOf H) (fs0 ++ walNames H i) (walAt H.wals i) (corAt H.cors i).x (corAt H.cors i).y (corAt H.cors (nxt H.cors.length i)).x (corAt H.cors (nxt H.cors.length i)).y) := rfl
 have HT := hidden (fun (j : Nat) (hj : j < i) (h : ((walAt H.wals j).name.toList == (walAt H.wals i).name.toList) = true) => wal_stop hi hj h)
 have HU := hidden (fun (h : ∀ j, j < i → ((walAt H.wals j).name.toList == (walAt H.wals i).name.toList) = false) => wal_end hi h)
 have HN := hidden (fun (W : World) => refIsName_any (walAt H.wals i).name (wal_sized hV.sized i hi) W)
 have hdx : Hid (lnDX H i = (corAt H.cors (nxt H.cors.length i)).x - (corAt H.cors i).x) := rfl
 have hdy : Hid (lnDY H i = (corAt H.cors (nxt H.cors.length i)).y - (corAt H.cors i).y) := rfl
 have hbd := ln_bd hC hic
 clear hC hN
 obtain ⟨_, g4, g5, g6, g7, g8⟩ := hV
 obtain ⟨A4, c4, rfl, _⟩ := slc_form g4
 obtain ⟨A5, c5, rfl, _⟩ := slc_form g5
 obtain ⟨A6, c6, rfl, hS6⟩ := slc_form g6
 obtain ⟨A7, c7, rfl, _⟩ := slc_form g7
 obtain ⟨A8, c8, rfl, _⟩ := slc_form g8
 have l6 := hS6.1
 clear g4 g5 g6 g7 g8
 obtain ⟨g, o, rfl, hg, hcs⟩ := wal_at hS6 hi
 obtain ⟨k0, k1, k2⟩ := hcs i hi
 unfold halV at *
 generalize hSi : walAt H.wals i = si at *
 obtain ⟨nm, mt, cu⟩ := si
 simp only at *
 refine (callsIn_wide (n := 10)).1 ?_
 refine callsIn_of_wp Tryz.func82 rfl trivial ?_ rfl
 simp only [Tryz.ntmps82, nt, Nat.reduceAdd, Nat.reduceSub]
 cases p0 : nameB nm with
 | false =>
  have hz : Hid (wallEk H (msOf H) fs0 i = 4) := by unfold Hid; rw [HE.out]; unfold wallE; rw [if_pos p0]
  rw [p0] at HN
  gi_wp2
  (refine ⟨trivial, ?_⟩; ((with_reducible refine (callsIn_wide.2 (HN.out _)).mono ?_); rintro e w' ⟨rfl, x1, rfl⟩))
  gi_wp2
  refine bodyPost_ret (v := .int .i64 4) (by simp [results, Tryz.results82, go_sem]) rfl (retX (by rw [hz.out]) (by (repeat' first | with_reducible (first | apply bz0 | assumption | apply bz1 | apply bz2 | apply bz3 | apply bz4 | apply bz5) | (simp <;> omega))))
 | true =>
  rw [p0] at HN
  gi_wp2
  (refine ⟨trivial, ?_⟩; ((with_reducible refine (callsIn_wide.2 (HN.out _)).mono ?_); rintro e w' ⟨rfl, x1, rfl⟩))
  gi_wp2
  generalize hX : World.ext _ x1 = X
  have x0 : X.cell? ⟨w.heap.size, 0, none⟩ = some (.string H.name) := by rw [← hX]; simp [go_sem]
  have x1' : X.cell? ⟨w.heap.size, 1, none⟩ = some (.int .i64 H.height) := by rw [← hX]; simp [go_sem]
  have x2 : X.cell? ⟨w.heap.size, 2, none⟩ = some (.string H.floor) := by rw [← hX]; simp [go_sem]
  have x3 : X.cell? ⟨w.heap.size, 3, none⟩ = some (.string H.ceil) := by rw [← hX]; simp [go_sem]
  have x4 : X.cell? ⟨w.heap.size, 4, none⟩ = some (.slice A4 H.mats.length c4) := by rw [← hX]; simp [go_sem]
  have x5 : X.cell? ⟨w.heap.size, 5, none⟩ = some (.slice A5 H.cors.length c5) := by rw [← hX]; simp [go_sem]
  have x6 : X.cell? ⟨w.heap.size, 6, none⟩ = some (.slice (some ⟨g, o, none⟩) H.wals.length c6) := by rw [← hX]; simp [go_sem]
  have x7 : X.cell? ⟨w.heap.size, 7, none⟩ = some (.slice A7 H.cans.length c7) := by rw [← hX]; simp [go_sem]
  have x8 : X.cell? ⟨w.heap.size, 8, none⟩ = some (.slice A8 H.seas.length c8) := by rw [← hX]; simp [go_sem]
  have y0 : X.cell? ⟨w.heap.size + 1, 0, none⟩ = some (.string nm) := by rw [← hX]; simp [go_sem]
  have y1 : X.cell? ⟨w.heap.size + 1, 1, none⟩ = some (.string mt) := by rw [← hX]; simp [go_sem]
  have y2 : X.cell? ⟨w.heap.size + 1, 2, none⟩ = some (.string cu) := by rw [← hX]; simp [go_sem]
  have BX : Below w.heap.size w X := by rw [← hX]; (repeat' first | with_reducible (first | apply bz0 | assumption | apply bz1 | apply bz2 | apply bz3 | apply bz4 | apply bz5) | (simp <;> omega))
  have gx := has_of_cell x0
  have gy := has_of_cell y0
  clear hX k0 k1 k2 hcs hg HN
  gi_loopw [6] (fun i' wr => ∃ k : Nat, i' = .int .i64 k ∧ k ≤ i ∧ Below X.heap.size X wr ∧ ∀ j, j < k → ((walAt H.wals j).name.toList == nm.toList) = false) (fun i' _ => i - (intOf i').toNat)
  case atStart => exact ⟨0, rfl, Nat.zero_le _, Below.refl _ _, fun j hj => absurd hj (Nat.not_lt_zero j)⟩
  case round =>
   obtain ⟨k, rfl, hk, hB, hno⟩ := hrel
   have hBw : Below w.heap.size w wr := BX.trans (hB.lower BX.size)
   have hgs := hBw.size
   replace x0 := cell_below hB gx x0
   replace x1' := cell_below hB gx x1'
   replace x2 := cell_below hB gx x2
   replace x3 := cell_below hB gx x3
   replace x4 := cell_below hB gx x4
   replace x5 := cell_below hB gx x5
   replace x6 := cell_below hB gx x6
   replace x7 := cell_below hB gx x7
   replace x8 := cell_below hB gx x8
   replace y0 := cell_below hB gy y0
   replace y1 := cell_below hB gy y1
   replace y2 := cell_below hB gy y2
   replace gx := has_of_cell x0
   replace gy := has_of_cell y0
   rcases Nat.lt_or_ge k i with hlt | hge
   · have hkl : k < H.wals.length := by omega
     obtain ⟨g', o', hgo, hg, hcs⟩ := wal_at (hS6.below hBw) hkl
     cases hgo
     obtain ⟨k0, _, _⟩ := hcs k hkl
     have hst := hidden (HT.out k hlt)
     have hgo : Hid (((walAt H.wals k).name.toList == nm.toList) = false → ∀ j, j < k + 1 → ((walAt H.wals j).name.toList == nm.toList) = false) := fun he j hj => by
      rcases Nat.lt_or_ge j k with h' | h'
      · exact hno j h'
      · obtain rfl : j = k := by omega
        exact he
     clear hcs hS6 hno HT HU HL HM
     generalize (walAt H.wals k).name = n0 at *
     cases q : (n0.toList == nm.toList) with
     | true =>
      have hz : Hid (wallEk H (msOf H) fs0 i = 5) := by unfold Hid; rw [HE.out]; unfold wallE; rw [if_neg (by simp [p0]), if_pos (by rw [has_app, hst.out q]; simp)]
      clear HE hst
      gi_wp2
      refine wpIn_wide.2 ?_
      (refine tmX (by kernel_rfl) (by kernel_rfl) ?_); (repeat (first | (refine tmS rfl ?_; simp only [Act.put, List.setIfInBounds_toArray, List.set_cons_succ, List.set_cons_zero]) | (refine tmP rfl rfl rfl (fun K hK => ?_); go_big_quiet_op; refine hK _ ?_; clear hK K) | (refine tmE rfl rfl (fun K hK => ?_); go_big_op; (first | fail | skip); (refine hK _ _ rfl (ext_of_below (by (repeat' first | with_reducible (first | apply bz0 | assumption | apply bz1 | apply bz2 | apply bz3 | apply bz4 | apply bz5) | (simp <;> omega)))) ?_; clear hK K)))); (refine tmN ?_)
      gi_wp2
      refine bodyPost_ret (v := .int .i64 5) (by simp [results, Tryz.results82, go_sem]) rfl (retX (by rw [hz.out]) (hBw.trans ((show Below wr.heap.size wr _ by (repeat' first | with_reducible (first | apply bz0 | assumption | apply bz1 | apply bz2 | apply bz3 | apply bz4 | apply bz5) | (simp <;> omega))).lower hgs)))
     | false =>
      have hz := hidden (hgo.out q)
      clear HE hst
      gi_wp2
      refine wpIn_wide.2 ?_
      (refine tmX (by kernel_rfl) (by kernel_rfl) ?_); (repeat (first | (refine tmS rfl ?_; simp only [Act.put, List.setIfInBounds_toArray, List.set_cons_succ, List.set_cons_zero]) | (refine tmP rfl rfl rfl (fun K hK => ?_); go_big_quiet_op; refine hK _ ?_; clear hK K) | (refine tmE rfl rfl (fun K hK => ?_); go_big_op; (first | fail | skip); (refine hK _ _ rfl (ext_of_below (by (repeat' first | with_reducible (first | apply bz0 | assumption | apply bz1 | apply bz2 | apply bz3 | apply bz4 | apply bz5) | (simp <;> omega)))) ?_; clear hK K)))); (refine tmN ?_)
      gi_wp2
      exact ⟨⟨k + 1, by simp, by omega, hB.trans ((show Below wr.heap.size wr _ by (repeat' first | with_reducible (first | apply bz0 | assumption | apply bz1 | apply bz2 | apply bz3 | apply bz4 | apply bz5) | (simp <;> omega))).lower hB.size), hz.out⟩, by simp [intOf]; omega⟩
   · obtain rfl : k = i := by omega
     have hU := HU.out hno
     clear HU HT hno hS6
     have hE := HE.out
     unfold wallE at hE
     rw [if_neg (by simp [p0]), has_app, hU, Bool.or_false, fs0_iff, noth_line, right_line] at hE
     simp only at hE
     rw [← hdx.out, ← hdy.out] at hE
     have hm1 := has_mat (H := H) (nm := mt)
     have hm2 := has_mat (H := H) (nm := cu)
     have HM1 := hidden (fun (W : World) (hW : Below w.heap.size w W) => HM.out W hW mt)
     have HM2 := hidden (fun (W : World) (hW : Below w.heap.size w W) => HM.out W hW cu)
     clear HE hU hdx hdy HM
     generalize hasName (msOf H) mt = h1 at *
     generalize hasName (msOf H) cu = h2 at *
     generalize matI H mt = a1 at *
     generalize matI H cu = a2 at *
     generalize lnDX H k = DX at *
     generalize lnDY H k = DY at *
     generalize lnX H k = X0 at *
     generalize lnY H k = Y0 at *
     cases q1 : (nm.toList == [102, 108, 111, 111, 114]) with
     | true =>
      rw [q1] at hE
      simp only [Bool.true_or, if_true] at hE
      clear HL HM1 HM2 hm1 hm2
      gi_wp2
      refine bodyPost_ret (v := .int .i64 5) (by simp [results, Tryz.results82, go_sem]) rfl (retX (by rw [hE]) (hBw.trans ((show Below wr.heap.size wr _ by (repeat' first | with_reducible (first | apply bz0 | assumption | apply bz1 | apply bz2 | apply bz3 | apply bz4 | apply bz5) | (simp <;> omega))).lower hgs)))
     | false =>
      cases q2 : (nm.toList == [99, 101, 105, 108, 105, 110, 103]) with
      | true =>
       rw [q1, q2] at hE
       simp only [Bool.or_true, if_true] at hE
       clear HL HM1 HM2 hm1 hm2
       gi_wp2
       refine bodyPost_ret (v := .int .i64 5) (by simp [results, Tryz.results82, go_sem]) rfl (retX (by rw [hE]) (hBw.trans ((show Below wr.heap.size wr _ by (repeat' first | with_reducible (first | apply bz0 | assumption | apply bz1 | apply bz2 | apply bz3 | apply bz4 | apply bz5) | (simp <;> omega))).lower hgs)))
      | false =>
       rw [q1, q2] at hE
       simp only [Bool.or_self, Bool.false_eq_true, if_false] at hE
       cases h1 with
       | false =>
        simp only [if_true, Bool.not_false] at hE hm1
        clear HL HM2 hm2
        gi_wp2
        (refine ⟨trivial, ?_⟩; ((with_reducible refine (callsIn_wide.2 (HM1.out _ ?hk)).mono ?_); (case hk => (repeat' first | with_reducible (first | apply bz0 | assumption | apply bz1 | apply bz2 | apply bz3 | apply bz4 | apply bz5) | (simp <;> omega))); rintro e w' ⟨rfl, z1, rfl⟩))
        gi_wp2
        all_goals first | (exfalso; exact undef_ne _ (by assumption)) | skip
        refine ⟨trivial, ?_⟩
        gi_wp2
        all_goals first | (exfalso; exact undef_ne _ (by assumption)) | skip
        refine bodyPost_ret (v := .int .i64 6) (by simp [results, Tryz.results82, go_sem]) rfl (retX (by rw [hE]) (hBw.trans ((show Below wr.heap.size wr _ by (repeat' first | with_reducible (first | apply bz0 | assumption | apply bz1 | apply bz2 | apply bz3 | apply bz4 | apply bz5) | (simp <;> omega))).lower hgs)))
       | true =>
        simp only [Bool.true_eq_false, if_false, Bool.not_true] at hE hm1
        have hem := empty_iff cu
        cases q3 : decide (cu.size = 0) with
        | false =>
         rw [q3] at hem
         have q3' : cu.size ≠ 0 := of_decide_eq_false q3
         cases h2 with
         | false =>
          rw [if_pos ⟨q3', rfl⟩] at hE
          simp only [Bool.not_false] at hm2
          have HZ := hidden hE
          clear HL hE
          gi_wp2
          (refine ⟨trivial, ?_⟩; ((with_reducible refine (callsIn_wide.2 (HM1.out _ ?hk)).mono ?_); (case hk => (repeat' first | with_reducible (first | apply bz0 | assumption | apply bz1 | apply bz2 | apply bz3 | apply bz4 | apply bz5) | (simp <;> omega))); rintro e w' ⟨rfl, z1, rfl⟩))
          gi_wp2
          (refine ⟨trivial, ?_⟩; ((with_reducible refine (callsIn_wide.2 (HM2.out _ ?hk)).mono ?_); (case hk => (repeat' first | with_reducible (first | apply bz0 | assumption | apply bz1 | apply bz2 | apply bz3 | apply bz4 | apply bz5) | (simp <;> omega))); rintro e w' ⟨rfl, z2, rfl⟩))
          gi_wp2
          all_goals first | (exfalso; exact undef_ne _ (by assumption)) | skip
          refine bodyPost_ret (v := .int .i64 6) (by simp [results, Tryz.results82, go_sem]) rfl (retX (by rw [HZ.out]) (hBw.trans ((show Below wr.heap.size wr _ by (repeat' first | with_reducible (first | apply bz0 | assumption | apply bz1 | apply bz2 | apply bz3 | apply bz4 | apply bz5) | (simp <;> omega))).lower hgs)))
         | true =>
          rw [if_neg (by simp)] at hE
          simp only [Bool.not_true] at hm2
          have HSx := hidden (fun W => Size_any DX W (by omega))
          have HSy := hidden (fun W => Size_any DY W (by omega))
          have cs : (DX = 0 ∧ DY = 0) ∨ (DX = 0 ∧ DY ≠ 0) ∨ (DX ≠ 0 ∧ DY = 0) ∨ (DX ≠ 0 ∧ DY ≠ 0 ∧ sizeI DX ≠ sizeI DY) ∨ (DX ≠ 0 ∧ DY ≠ 0 ∧ sizeI DX = sizeI DY) := by omega
          clear hbd
          rcases cs with ⟨rfl, rfl⟩ | ⟨rfl, d2⟩ | ⟨d1, rfl⟩ | ⟨d1, d2, d3⟩ | ⟨d1, d2, d3⟩
          · replace hE : wallEk H (msOf H) fs0 k = 11 := by rw [hE]; simp
            have HZ := hidden hE
            clear hE
            gi_wp2
            (refine ⟨trivial, ?_⟩; ((with_reducible refine (callsIn_wide.2 (HM1.out _ ?hk)).mono ?_); (case hk => (repeat' first | with_reducible (first | apply bz0 | assumption | apply bz1 | apply bz2 | apply bz3 | apply bz4 | apply bz5) | (simp <;> omega))); rintro e w' ⟨rfl, z1, rfl⟩))
            gi_wp2
            (refine ⟨trivial, ?_⟩; ((with_reducible refine (callsIn_wide.2 (HM2.out _ ?hk)).mono ?_); (case hk => (repeat' first | with_reducible (first | apply bz0 | assumption | apply bz1 | apply bz2 | apply bz3 | apply bz4 | apply bz5) | (simp <;> omega))); rintro e w' ⟨rfl, z2, rfl⟩))
            gi_wp2
            (refine ⟨trivial, ?_⟩; ((with_reducible refine (callsIn_wide.2 (HL.out _ ?hk)).mono ?_); (case hk => (repeat' first | with_reducible (first | apply bz0 | assumption | apply bz1 | apply bz2 | apply bz3 | apply bz4 | apply bz5) | (simp <;> omega))); rintro e w' ⟨rfl, z3, rfl⟩))
            gi_wp2
            refine bodyPost_ret (v := .int .i64 11) (by simp [results, Tryz.results82, go_sem]) rfl (retX (by rw [HZ.out]) (hBw.trans ((show Below wr.heap.size wr _ by (repeat' first | with_reducible (first | apply bz0 | assumption | apply bz1 | apply bz2 | apply bz3 | apply bz4 | apply bz5) | (simp <;> omega))).lower hgs)))
          · replace hE : wallEk H (msOf H) fs0 k = 0 := by rw [hE]; simp [d2]
            have HZ := hidden hE
            have e2 : (DY == 0) = false := by simp [d2]
            have e4 : (DY != 0) = true := by simp [d2]
            clear hE
            gi_wp2
            (refine ⟨trivial, ?_⟩; ((with_reducible refine (callsIn_wide.2 (HM1.out _ ?hk)).mono ?_); (case hk => (repeat' first | with_reducible (first | apply bz0 | assumption | apply bz1 | apply bz2 | apply bz3 | apply bz4 | apply bz5) | (simp <;> omega))); rintro e w' ⟨rfl, z1, rfl⟩))
            gi_wp2
            (refine ⟨trivial, ?_⟩; ((with_reducible refine (callsIn_wide.2 (HM2.out _ ?hk)).mono ?_); (case hk => (repeat' first | with_reducible (first | apply bz0 | assumption | apply bz1 | apply bz2 | apply bz3 | apply bz4 | apply bz5) | (simp <;> omega))); rintro e w' ⟨rfl, z2, rfl⟩))
            gi_wp2
            (refine ⟨trivial, ?_⟩; ((with_reducible refine (callsIn_wide.2 (HL.out _ ?hk)).mono ?_); (case hk => (repeat' first | with_reducible (first | apply bz0 | assumption | apply bz1 | apply bz2 | apply bz3 | apply bz4 | apply bz5) | (simp <;> omega))); rintro e w' ⟨rfl, z3, rfl⟩))
            gi_wp2
            refine wpIn_wide.2 ?_
            (refine tmX (by kernel_rfl) (by kernel_rfl) ?_); (repeat (first | (refine tmS rfl ?_; simp only [Act.put, List.setIfInBounds_toArray, List.set_cons_succ, List.set_cons_zero]) | (refine tmP rfl rfl rfl (fun K hK => ?_); go_big_quiet_op; refine hK _ ?_; clear hK K) | (refine tmE rfl rfl (fun K hK => ?_); go_big_op; (first | fail | skip); (refine hK _ _ rfl (ext_of_below (by (repeat' first | with_reducible (first | apply bz0 | assumption | apply bz1 | apply bz2 | apply bz3 | apply bz4 | apply bz5) | (simp <;> omega)))) ?_; clear hK K)))); (refine tmN ?_)
            gi_wp2
            refine bodyPost_ret (v := .int .i64 0) (by simp [results, Tryz.results82, go_sem]) rfl (retX (by rw [HZ.out]) (hBw.trans ((show Below wr.heap.size wr _ by (repeat' first | with_reducible (first | apply bz0 | assumption | apply bz1 | apply bz2 | apply bz3 | apply bz4 | apply bz5) | (simp <;> omega))).lower hgs)))
          · replace hE : wallEk H (msOf H) fs0 k = 0 := by rw [hE]; simp [d1]
            have HZ := hidden hE
            have e1 : (DX == 0) = false := by simp [d1]
            have e3 : (DX != 0) = true := by simp [d1]
            clear hE
            gi_wp2
            (refine ⟨trivial, ?_⟩; ((with_reducible refine (callsIn_wide.2 (HM1.out _ ?hk)).mono ?_); (case hk => (repeat' first | with_reducible (first | apply bz0 | assumption | apply bz1 | apply bz2 | apply bz3 | apply bz4 | apply bz5) | (simp <;> omega))); rintro e w' ⟨rfl, z1, rfl⟩))
            gi_wp2
            (refine ⟨trivial, ?_⟩; ((with_reducible refine (callsIn_wide.2 (HM2.out _ ?hk)).mono ?_); (case hk => (repeat' first | with_reducible (first | apply bz0 | assumption | apply bz1 | apply bz2 | apply bz3 | apply bz4 | apply bz5) | (simp <;> omega))); rintro e w' ⟨rfl, z2, rfl⟩))
            gi_wp2
            (refine ⟨trivial, ?_⟩; ((with_reducible refine (callsIn_wide.2 (HL.out _ ?hk)).mono ?_); (case hk => (repeat' first | with_reducible (first | apply bz0 | assumption | apply bz1 | apply bz2 | apply bz3 | apply bz4 | apply bz5) | (simp <;> omega))); rintro e w' ⟨rfl, z3, rfl⟩))
            gi_wp2
            refine wpIn_wide.2 ?_
            (refine tmX (by kernel_rfl) (by kernel_rfl) ?_); (repeat (first | (refine tmS rfl ?_; simp only [Act.put, List.setIfInBounds_toArray, List.set_cons_succ, List.set_cons_zero]) | (refine tmP rfl rfl rfl (fun K hK => ?_); go_big_quiet_op; refine hK _ ?_; clear hK K) | (refine tmE rfl rfl (fun K hK => ?_); go_big_op; (first | fail | skip); (refine hK _ _ rfl (ext_of_below (by (repeat' first | with_reducible (first | apply bz0 | assumption | apply bz1 | apply bz2 | apply bz3 | apply bz4 | apply bz5) | (simp <;> omega)))) ?_; clear hK K)))); (refine tmN ?_)
            gi_wp2
            refine bodyPost_ret (v := .int .i64 0) (by simp [results, Tryz.results82, go_sem]) rfl (retX (by rw [HZ.out]) (hBw.trans ((show Below wr.heap.size wr _ by (repeat' first | with_reducible (first | apply bz0 | assumption | apply bz1 | apply bz2 | apply bz3 | apply bz4 | apply bz5) | (simp <;> omega))).lower hgs)))
          · replace hE : wallEk H (msOf H) fs0 k = 15 := by rw [hE]; simp [d1, d2, d3]
            have HZ := hidden hE
            have e1 : (DX == 0) = false := by simp [d1]
            have e2 : (DY == 0) = false := by simp [d2]
            have e3 : (DX != 0) = true := by simp [d1]
            have e4 : (DY != 0) = true := by simp [d2]
            have e5 : (sizeI DX != sizeI DY) = true := by simp [d3]
            clear hE d3
            generalize sizeI DX = s1 at *
            generalize sizeI DY = s2 at *
            gi_wp2
            (refine ⟨trivial, ?_⟩; ((with_reducible refine (callsIn_wide.2 (HM1.out _ ?hk)).mono ?_); (case hk => (repeat' first | with_reducible (first | apply bz0 | assumption | apply bz1 | apply bz2 | apply bz3 | apply bz4 | apply bz5) | (simp <;> omega))); rintro e w' ⟨rfl, z1, rfl⟩))
            gi_wp2
            (refine ⟨trivial, ?_⟩; ((with_reducible refine (callsIn_wide.2 (HM2.out _ ?hk)).mono ?_); (case hk => (repeat' first | with_reducible (first | apply bz0 | assumption | apply bz1 | apply bz2 | apply bz3 | apply bz4 | apply bz5) | (simp <;> omega))); rintro e w' ⟨rfl, z2, rfl⟩))
            gi_wp2
            (refine ⟨trivial, ?_⟩; ((with_reducible refine (callsIn_wide.2 (HL.out _ ?hk)).mono ?_); (case hk => (repeat' first | with_reducible (first | apply bz0 | assumption | apply bz1 | apply bz2 | apply bz3 | apply bz4 | apply bz5) | (simp <;> omega))); rintro e w' ⟨rfl, z3, rfl⟩))
            gi_wp2
            refine wpIn_wide.2 ?_
            (refine tmX (by kernel_rfl) (by kernel_rfl) ?_); (repeat (first | (refine tmS rfl ?_; simp only [Act.put, List.setIfInBounds_toArray, List.set_cons_succ, List.set_cons_zero]) | (refine tmP rfl rfl rfl (fun K hK => ?_); go_big_quiet_op; refine hK _ ?_; clear hK K) | (refine tmE rfl rfl (fun K hK => ?_); go_big_op; (first | (go_at_call 96; first | ((with_reducible refine (HSx.out _).mono ?_); rintro e w' ⟨rfl, z5, rfl⟩) | ((with_reducible refine (HSy.out _).mono ?_); rintro e w' ⟨rfl, z6, rfl⟩)) | skip); (refine hK _ _ rfl (ext_of_below (by (repeat' first | with_reducible (first | apply bz0 | assumption | apply bz1 | apply bz2 | apply bz3 | apply bz4 | apply bz5) | (simp <;> omega)))) ?_; clear hK K)))); (refine tmN ?_)
            gi_wp2
            refine bodyPost_ret (v := .int .i64 15) (by simp [results, Tryz.results82, go_sem]) rfl (retX (by rw [HZ.out]) (hBw.trans ((show Below wr.heap.size wr _ by (repeat' first | with_reducible (first | apply bz0 | assumption | apply bz1 | apply bz2 | apply bz3 | apply bz4 | apply bz5) | (simp <;> omega))).lower hgs)))
          · replace hE : wallEk H (msOf H) fs0 k = 0 := by rw [hE]; simp [d1, d2, d3]
            have HZ := hidden hE
            have e1 : (DX == 0) = false := by simp [d1]
            have e2 : (DY == 0) = false := by simp [d2]
            have e3 : (DX != 0) = true := by simp [d1]
            have e4 : (DY != 0) = true := by simp [d2]
            have e5 : (sizeI DX != sizeI DY) = false := by simp [d3]
            clear hE d3
            generalize sizeI DX = s1 at *
            generalize sizeI DY = s2 at *
            gi_wp2
            (refine ⟨trivial, ?_⟩; ((with_reducible refine (callsIn_wide.2 (HM1.out _ ?hk)).mono ?_); (case hk => (repeat' first | with_reducible (first | apply bz0 | assumption | apply bz1 | apply bz2 | apply bz3 | apply bz4 | apply bz5) | (simp <;> omega))); rintro e w' ⟨rfl, z1, rfl⟩))
            gi_wp2
            (refine ⟨trivial, ?_⟩; ((with_reducible refine (callsIn_wide.2 (HM2.out _ ?hk)).mono ?_); (case hk => (repeat' first | with_reducible (first | apply bz0 | assumption | apply bz1 | apply bz2 | apply bz3 | apply bz4 | apply bz5) | (simp <;> omega))); rintro e w' ⟨rfl, z2, rfl⟩))
            gi_wp2
            (refine ⟨trivial, ?_⟩; ((with_reducible refine (callsIn_wide.2 (HL.out _ ?hk)).mono ?_); (case hk => (repeat' first | with_reducible (first | apply bz0 | assumption | apply bz1 | apply bz2 | apply bz3 | apply bz4 | apply bz5) | (simp <;> omega))); rintro e w' ⟨rfl, z3, rfl⟩))
            gi_wp2
            refine wpIn_wide.2 ?_
            (refine tmX (by kernel_rfl) (by kernel_rfl) ?_); (repeat (first | (refine tmS rfl ?_; simp only [Act.put, List.setIfInBounds_toArray, List.set_cons_succ, List.set_cons_zero]) | (refine tmP rfl rfl rfl (fun K hK => ?_); go_big_quiet_op; refine hK _ ?_; clear hK K) | (refine tmE rfl rfl (fun K hK => ?_); go_big_op; (first | (go_at_call 96; first | ((with_reducible refine (HSx.out _).mono ?_); rintro e w' ⟨rfl, z5, rfl⟩) | ((with_reducible refine (HSy.out _).mono ?_); rintro e w' ⟨rfl, z6, rfl⟩)) | skip); (refine hK _ _ rfl (ext_of_below (by (repeat' first | with_reducible (first | apply bz0 | assumption | apply bz1 | apply bz2 | apply bz3 | apply bz4 | apply bz5) | (simp <;> omega)))) ?_; clear hK K)))); (refine tmN ?_)
            gi_wp2
            refine bodyPost_ret (v := .int .i64 0) (by simp [results, Tryz.results82, go_sem]) rfl (retX (by rw [HZ.out]) (hBw.trans ((show Below wr.heap.size wr _ by (repeat' first | with_reducible (first | apply bz0 | assumption | apply bz1 | apply bz2 | apply bz3 | apply bz4 | apply bz5) | (simp <;> omega))).lower hgs)))
        | true =>
         rw [q3] at hem
         have q3' : cu.size = 0 := of_decide_eq_true q3
         rw [if_neg (fun h => h.1 q3')] at hE
         clear hm2 HM2
         have HSx := hidden (fun W => Size_any DX W (by omega))
         have HSy := hidden (fun W => Size_any DY W (by omega))
         have cs : (DX = 0 ∧ DY = 0) ∨ (DX = 0 ∧ DY ≠ 0) ∨ (DX ≠ 0 ∧ DY = 0) ∨ (DX ≠ 0 ∧ DY ≠ 0 ∧ sizeI DX ≠ sizeI DY) ∨ (DX ≠ 0 ∧ DY ≠ 0 ∧ sizeI DX = sizeI DY) := by omega
         clear hbd
         rcases cs with ⟨rfl, rfl⟩ | ⟨rfl, d2⟩ | ⟨d1, rfl⟩ | ⟨d1, d2, d3⟩ | ⟨d1, d2, d3⟩
         · replace hE : wallEk H (msOf H) fs0 k = 11 := by rw [hE]; simp
           have HZ := hidden hE
           clear hE
           gi_wp2
           (refine ⟨trivial, ?_⟩; ((with_reducible refine (callsIn_wide.2 (HM1.out _ ?hk)).mono ?_); (case hk => (repeat' first | with_reducible (first | apply bz0 | assumption | apply bz1 | apply bz2 | apply bz3 | apply bz4 | apply bz5) | (simp <;> omega))); rintro e w' ⟨rfl, z1, rfl⟩))
           gi_wp2
           refine ⟨trivial, ?_⟩
           gi_wp2
           (refine ⟨trivial, ?_⟩; ((with_reducible refine (callsIn_wide.2 (HL.out _ ?hk)).mono ?_); (case hk => (repeat' first | with_reducible (first | apply bz0 | assumption | apply bz1 | apply bz2 | apply bz3 | apply bz4 | apply bz5) | (simp <;> omega))); rintro e w' ⟨rfl, z2, rfl⟩))
           gi_wp2
           refine bodyPost_ret (v := .int .i64 11) (by simp [results, Tryz.results82, go_sem]) rfl (retX (by rw [HZ.out]) (hBw.trans ((show Below wr.heap.size wr _ by (repeat' first | with_reducible (first | apply bz0 | assumption | apply bz1 | apply bz2 | apply bz3 | apply bz4 | apply bz5) | (simp <;> omega))).lower hgs)))
         · replace hE : wallEk H (msOf H) fs0 k = 0 := by rw [hE]; simp [d2]
           have HZ := hidden hE
           have e2 : (DY == 0) = false := by simp [d2]
           have e4 : (DY != 0) = true := by simp [d2]
           clear hE
           gi_wp2
           (refine ⟨trivial, ?_⟩; ((with_reducible refine (callsIn_wide.2 (HM1.out _ ?hk)).mono ?_); (case hk => (repeat' first | with_reducible (first | apply bz0 | assumption | apply bz1 | apply bz2 | apply bz3 | apply bz4 | apply bz5) | (simp <;> omega))); rintro e w' ⟨rfl, z1, rfl⟩))
           gi_wp2
           refine ⟨trivial, ?_⟩
           gi_wp2
           (refine ⟨trivial, ?_⟩; ((with_reducible refine (callsIn_wide.2 (HL.out _ ?hk)).mono ?_); (case hk => (repeat' first | with_reducible (first | apply bz0 | assumption | apply bz1 | apply bz2 | apply bz3 | apply bz4 | apply bz5) | (simp <;> omega))); rintro e w' ⟨rfl, z2, rfl⟩))
           gi_wp2
           refine wpIn_wide.2 ?_
           (refine tmX (by kernel_rfl) (by kernel_rfl) ?_); (repeat (first | (refine tmS rfl ?_; simp only [Act.put, List.setIfInBounds_toArray, List.set_cons_succ, List.set_cons_zero]) | (refine tmP rfl rfl rfl (fun K hK => ?_); go_big_quiet_op; refine hK _ ?_; clear hK K) | (refine tmE rfl rfl (fun K hK => ?_); go_big_op; (first | fail | skip); (refine hK _ _ rfl (ext_of_below (by (repeat' first | with_reducible (first | apply bz0 | assumption | apply bz1 | apply bz2 | apply bz3 | apply bz4 | apply bz5) | (simp <;> omega)))) ?_; clear hK K)))); (refine tmN ?_)
           gi_wp2
           refine bodyPost_ret (v := .int .i64 0) (by simp [results, Tryz.results82, go_sem]) rfl (retX (by rw [HZ.out]) (hBw.trans ((show Below wr.heap.size wr _ by (repeat' first | with_reducible (first | apply bz0 | assumption | apply bz1 | apply bz2 | apply bz3 | apply bz4 | apply bz5) | (simp <;> omega))).lower hgs)))
         · replace hE : wallEk H (msOf H) fs0 k = 0 := by rw [hE]; simp [d1]
           have HZ := hidden hE
           have e1 : (DX == 0) = false := by simp [d1]
           have e3 : (DX != 0) = true := by simp [d1]
           clear hE
           gi_wp2
           (refine ⟨trivial, ?_⟩; ((with_reducible refine (callsIn_wide.2 (HM1.out _ ?hk)).mono ?_); (case hk => (repeat' first | with_reducible (first | apply bz0 | assumption | apply bz1 | apply bz2 | apply bz3 | apply bz4 | apply bz5) | (simp <;> omega))); rintro e w' ⟨rfl, z1, rfl⟩))
           gi_wp2
           refine ⟨trivial, ?_⟩
           gi_wp2
           (refine ⟨trivial, ?_⟩; ((with_reducible refine (callsIn_wide.2 (HL.out _ ?hk)).mono ?_); (case hk => (repeat' first | with_reducible (first | apply bz0 | assumption | apply bz1 | apply bz2 | apply bz3 | apply bz4 | apply bz5) | (simp <;> omega))); rintro e w' ⟨rfl, z2, rfl⟩))
           gi_wp2
           refine wpIn_wide.2 ?_
           (refine tmX (by kernel_rfl) (by kernel_rfl) ?_); (repeat (first | (refine tmS rfl ?_; simp only [Act.put, List.setIfInBounds_toArray, List.set_cons_succ, List.set_cons_zero]) | (refine tmP rfl rfl rfl (fun K hK => ?_); go_big_quiet_op; refine hK _ ?_; clear hK K) | (refine tmE rfl rfl (fun K hK => ?_); go_big_op; (first | fail | skip); (refine hK _ _ rfl (ext_of_below (by (repeat' first | with_reducible (first | apply bz0 | assumption | apply bz1 | apply bz2 | apply bz3 | apply bz4 | apply bz5) | (simp <;> omega)))) ?_; clear hK K)))); (refine tmN ?_)
           gi_wp2
           refine bodyPost_ret (v := .int .i64 0) (by simp [results, Tryz.results82, go_sem]) rfl (retX (by rw [HZ.out]) (hBw.trans ((show Below wr.heap.size wr _ by (repeat' first | with_reducible (first | apply bz0 | assumption | apply bz1 | apply bz2 | apply bz3 | apply bz4 | apply bz5) | (simp <;> omega))).lower hgs)))
         · replace hE : wallEk H (msOf H) fs0 k = 15 := by rw [hE]; simp [d1, d2, d3]
           have HZ := hidden hE
           have e1 : (DX == 0) = false := by simp [d1]
           have e2 : (DY == 0) = false := by simp [d2]
           have e3 : (DX != 0) = true := by simp [d1]
           have e4 : (DY != 0) = true := by simp [d2]
           have e5 : (sizeI DX != sizeI DY) = true := by simp [d3]
           clear hE d3
           generalize sizeI DX = s1 at *
           generalize sizeI DY = s2 at *
           gi_wp2
           (refine ⟨trivial, ?_⟩; ((with_reducible refine (callsIn_wide.2 (HM1.out _ ?hk)).mono ?_); (case hk => (repeat' first | with_reducible (first | apply bz0 | assumption | apply bz1 | apply bz2 | apply bz3 | apply bz4 | apply bz5) | (simp <;> omega))); rintro e w' ⟨rfl, z1, rfl⟩))
           gi_wp2
           refine ⟨trivial, ?_⟩
           gi_wp2
           (refine ⟨trivial, ?_⟩; ((with_reducible refine (callsIn_wide.2 (HL.out _ ?hk)).mono ?_); (case hk => (repeat' first | with_reducible (first | apply bz0 | assumption | apply bz1 | apply bz2 | apply bz3 | apply bz4 | apply bz5) | (simp <;> omega))); rintro e w' ⟨rfl, z2, rfl⟩))
           gi_wp2
           refine wpIn_wide.2 ?_
           (refine tmX (by kernel_rfl) (by kernel_rfl) ?_); (repeat (first | (refine tmS rfl ?_; simp only [Act.put, List.setIfInBounds_toArray, List.set_cons_succ, List.set_cons_zero]) | (refine tmP rfl rfl rfl (fun K hK => ?_); go_big_quiet_op; refine hK _ ?_; clear hK K) | (refine tmE rfl rfl (fun K hK => ?_); go_big_op; (first | (go_at_call 96; first | ((with_reducible refine (HSx.out _).mono ?_); rintro e w' ⟨rfl, z5, rfl⟩) | ((with_reducible refine (HSy.out _).mono ?_); rintro e w' ⟨rfl, z6, rfl⟩)) | skip); (refine hK _ _ rfl (ext_of_below (by (repeat' first | with_reducible (first | apply bz0 | assumption | apply bz1 | apply bz2 | apply bz3 | apply bz4 | apply bz5) | (simp <;> omega)))) ?_; clear hK K)))); (refine tmN ?_)
           gi_wp2
           refine bodyPost_ret (v := .int .i64 15) (by simp [results, Tryz.results82, go_sem]) rfl (retX (by rw [HZ.out]) (hBw.trans ((show Below wr.heap.size wr _ by (repeat' first | with_reducible (first | apply bz0 | assumption | apply bz1 | apply bz2 | apply bz3 | apply bz4 | apply bz5) | (simp <;> omega))).lower hgs)))
         · replace hE : wallEk H (msOf H) fs0 k = 0 := by rw [hE]; simp [d1, d2, d3]
           have HZ := hidden hE
           have e1 : (DX == 0) = false := by simp [d1]
           have e2 : (DY == 0) = false := by simp [d2]
           have e3 : (DX != 0) = true := by simp [d1]
           have e4 : (DY != 0) = true := by simp [d2]
           have e5 : (sizeI DX != sizeI DY) = false := by simp [d3]
           clear hE d3
           generalize sizeI DX = s1 at *
           generalize sizeI DY = s2 at *
           gi_wp2
           (refine ⟨trivial, ?_⟩; ((with_reducible refine (callsIn_wide.2 (HM1.out _ ?hk)).mono ?_); (case hk => (repeat' first | with_reducible (first | apply bz0 | assumption | apply bz1 | apply bz2 | apply bz3 | apply bz4 | apply bz5) | (simp <;> omega))); rintro e w' ⟨rfl, z1, rfl⟩))
           gi_wp2
           refine ⟨trivial, ?_⟩
           gi_wp2
           (refine ⟨trivial, ?_⟩; ((with_reducible refine (callsIn_wide.2 (HL.out _ ?hk)).mono ?_); (case hk => (repeat' first | with_reducible (first | apply bz0 | assumption | apply bz1 | apply bz2 | apply bz3 | apply bz4 | apply bz5) | (simp <;> omega))); rintro e w' ⟨rfl, z2, rfl⟩))
           gi_wp2
           refine wpIn_wide.2 ?_
           (refine tmX (by kernel_rfl) (by kernel_rfl) ?_); (repeat (first | (refine tmS rfl ?_; simp only [Act.put, List.setIfInBounds_toArray, List.set_cons_succ, List.set_cons_zero]) | (refine tmP rfl rfl rfl (fun K hK => ?_); go_big_quiet_op; refine hK _ ?_; clear hK K) | (refine tmE rfl rfl (fun K hK => ?_); go_big_op; (first | (go_at_call 96; first | ((with_reducible refine (HSx.out _).mono ?_); rintro e w' ⟨rfl, z5, rfl⟩) | ((with_reducible refine (HSy.out _).mono ?_); rintro e w' ⟨rfl, z6, rfl⟩)) | skip); (refine hK _ _ rfl (ext_of_below (by (repeat' first | with_reducible (first | apply bz0 | assumption | apply bz1 | apply bz2 | apply bz3 | apply bz4 | apply bz5) | (simp <;> omega)))) ?_; clear hK K)))); (refine tmN ?_)
           gi_wp2
           refine bodyPost_ret (v := .int .i64 0) (by simp [results, Tryz.results82, go_sem]) rfl (retX (by rw [HZ.out]) (hBw.trans ((show Below wr.heap.size wr _ by (repeat' first | with_reducible (first | apply bz0 | assumption | apply bz1 | apply bz2 | apply bz3 | apply bz4 | apply bz5) | (simp <;> omega))).lower hgs)))
end Go.Proofs.YtekieoamelahkaaGreat

/- The reference's Edges of a canopy. -/
namespace Go.Proofs.YtekieoamelahkaaGreat
open Go.RowKit Go.Shelf
attribute [local go_sem] Oper.semAt_some

set_option maxRecDepth 100000 in set_option maxHeartbeats 4000000 in
theorem Edges_any (na ma : ByteArray) (a b c d : Int) (v : Value) (hv : ∃ A n c, v = .slice A n c) (w : World)
 (h1 : -5000 ≤ a ∧ a ≤ 5000) (h2 : -5000 ≤ b ∧ b ≤ 5000) (h3 : -5000 ≤ c ∧ c ≤ 5000) (h4 : -5000 ≤ d ∧ d ≤ 5000) :
 Calls Tryz.prog 140 #[canV na ma a b c d v] w (RetX w (.agg #[.int .i64 a, .int .i64 b, .int .i64 (c - a), .int .i64 0, .int .i64 c, .int .i64 b, .int .i64 0, .int .i64 (d - b), .int .i64 c, .int .i64 d, .int .i64 (-(c - a)), .int .i64 0, .int .i64 a, .int .i64 d, .int .i64 0, .int .i64 (-(d - b))])) := by
 obtain ⟨A7, n7, c7, rfl⟩ := hv
 have e1 : IntKind.i64.wrap (c - a) = c - a := IntWalk.i64_in _ (by omega)
 have e2 : IntKind.i64.wrap (d - b) = d - b := IntWalk.i64_in _ (by omega)
 have e3 : IntKind.i64.wrap (-(c - a)) = -(c - a) := IntWalk.i64_in _ (by omega)
 have e4 : IntKind.i64.wrap (-(d - b)) = -(d - b) := IntWalk.i64_in _ (by omega)
 unfold canV
 refine (callsIn_wide (n := 10)).1 ?_
 refine callsIn_of_wp Tryz.func140 rfl trivial ?_ rfl
 simp only [Tryz.ntmps140, nt, Nat.reduceAdd, Nat.reduceSub]
 gi_wp2
 refine wpIn_wide.2 ?_
 (refine tmX (by kernel_rfl) (by kernel_rfl) ?_); (repeat (first | (refine tmS rfl ?_; simp only [Act.put, List.setIfInBounds_toArray, List.set_cons_succ, List.set_cons_zero]) | (refine tmP rfl rfl rfl (fun K hK => ?_); go_big_quiet_op; refine hK _ ?_; clear hK K) | (refine tmE rfl rfl (fun K hK => ?_); go_big_op; (first | fail | skip); (refine hK _ _ rfl (ext_of_below (by (repeat' first | with_reducible (first | apply bz0 | assumption | apply bz1 | apply bz2 | apply bz3 | apply bz4 | apply bz5) | (simp <;> omega)))) ?_; clear hK K)))); (refine tmN ?_)
 gi_wp2
 refine bodyPost_ret (v := .agg #[.int .i64 a, .int .i64 b, .int .i64 (c - a), .int .i64 0, .int .i64 c, .int .i64 b, .int .i64 0, .int .i64 (d - b), .int .i64 c, .int .i64 d, .int .i64 (-(c - a)), .int .i64 0, .int .i64 a, .int .i64 d, .int .i64 0, .int .i64 (-(d - b))]) (by simp [results, Tryz.results140, go_sem]) rfl (retX rfl (by (repeat' first | with_reducible (first | apply bz0 | assumption | apply bz1 | apply bz2 | apply bz3 | apply bz4 | apply bz5) | (simp <;> omega))))
end Go.Proofs.YtekieoamelahkaaGreat
