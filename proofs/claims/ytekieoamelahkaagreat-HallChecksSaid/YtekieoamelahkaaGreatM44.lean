/- The reference's check of a seat: seatErr. -/
import Derived.Test.YtekieoamelahkaaGreatM39
import Derived.Test.YtekieoamelahkaaGreatM22
set_option linter.unusedVariables false
set_option linter.unusedSimpArgs false
namespace Go.Proofs.YtekieoamelahkaaGreat
open Go.RowKit Go.Shelf
attribute [local go_sem] Oper.semAt_some

set_option maxRecDepth 100000 in set_option maxHeartbeats 4000000 in
theorem seatErr_any {w : World} {H : Hal} {v4 v5 v6 v7 v8 : Value} (hV : HalVs w v4 v5 v6 v7 v8 H) (hC : CorsIn H) (hL : LinesOk H) (hN : H.wals.length = H.cors.length) (hh : -5000 ≤ H.height ∧ H.height ≤ 5000) (i : Nat) (hi : i < H.seas.length) :
 Calls Tryz.prog 85 #[halV H v4 v5 v6 v7 v8, .int .i64 i] w (RetX w (.int .i64 (seaE H i))) := by
 have HI := hidden (fun (W : World) (hW : Below w.heap.size w W) (px py pz : Int) (hp : -1000000000000000 ≤ px ∧ px ≤ 1000000000000000) (hq : -1000000000000000 ≤ py ∧ py ≤ 1000000000000000) => refIsInside_any (hV.below hW) hC hL hN hh px py pz 1 hp hq (by decide))
 have HE : Hid (seaE H i = if nameB (seaAt H.seas i).name = false then 4 else if hasName (seaNames H i) (seaAt H.seas i).name = true then 5 else insideE H (seaAt H.seas i).x (seaAt H.seas i).y (seaAt H.seas i).z) := rfl
 have HJ := hidden (insideE_ref hL (seaAt H.seas i).x (seaAt H.seas i).y (seaAt H.seas i).z)
 have HT := hidden (fun (j : Nat) (hj : j < i) (h : ((seaAt H.seas j).name.toList == (seaAt H.seas i).name.toList) = true) => sea_stop hi hj h)
 have HU := hidden (fun (h : ∀ j, j < i → ((seaAt H.seas j).name.toList == (seaAt H.seas i).name.toList) = false) => sea_end hi h)
 have HN := hidden (fun (W : World) => refIsName_any (seaAt H.seas i).name (sea_sized hV.sized i hi) W)
 clear hC hL hN hh
 obtain ⟨_, g4, g5, g6, g7, g8⟩ := hV
 obtain ⟨A4, c4, rfl, _⟩ := slc_form g4
 obtain ⟨A5, c5, rfl, _⟩ := slc_form g5
 obtain ⟨A6, c6, rfl, _⟩ := slc_form g6
 obtain ⟨A7, c7, rfl, _⟩ := slc_form g7
 obtain ⟨A8, c8, rfl, hS8⟩ := slc_form g8
 have l8 := hS8.1
 clear g4 g5 g6 g7 g8
 obtain ⟨g, o, rfl, hg, hcs⟩ := sea_at hS8 hi
 obtain ⟨k0, k1, k2, k3⟩ := hcs i hi
 unfold halV at *
 generalize hSi : seaAt H.seas i = si at *
 obtain ⟨nm, sx, sy, sz⟩ := si
 simp only at *
 refine (callsIn_wide (n := 10)).1 ?_
 refine callsIn_of_wp Tryz.func85 rfl trivial ?_ rfl
 simp only [Tryz.ntmps85, nt, Nat.reduceAdd, Nat.reduceSub]
 cases p0 : nameB nm with
 | false =>
  have hz : Hid (seaE H i = 4) := by unfold Hid; rw [HE.out, p0]; rfl
  rw [p0] at HN
  gi_wp2
  (refine ⟨trivial, ?_⟩; ((with_reducible refine (callsIn_wide.2 (HN.out _)).mono ?_); rintro e w' ⟨rfl, x1, rfl⟩))
  gi_wp2
  refine bodyPost_ret (v := .int .i64 4) (by simp [results, Tryz.results85, go_sem]) rfl (retX (by rw [hz.out]) (by (repeat' first | with_reducible (first | apply bz0 | assumption | apply bz1 | apply bz2 | apply bz3 | apply bz4 | apply bz5) | (simp <;> omega))))
 | true =>
  rw [p0] at HN HE
  simp only [Bool.true_eq_false, if_false] at HE
  gi_wp2
  (refine ⟨trivial, ?_⟩; ((with_reducible refine (callsIn_wide.2 (HN.out _)).mono ?_); rintro e w' ⟨rfl, x1, rfl⟩))
  gi_wp2
  generalize hX : World.ext _ x1 = X
  have x0 : X.cell? ⟨w.heap.size, 0, none⟩ = some (.string H.name) := by rw [← hX]; simp [go_sem]
  have x1' : X.cell? ⟨w.heap.size, 1, none⟩ = some (.int .i64 H.height) := by rw [← hX]; simp [go_sem]
  have x2 : X.cell? ⟨w.heap.size, 2, none⟩ = some (.string H.floor) := by rw [← hX]; simp [go_sem]
  have x3 : X.cell? ⟨w.heap.size, 3, none⟩ = some (.string H.ceil) := by rw [← hX]; simp [go_sem]
  have x4 : X.cell? ⟨w.heap.size, 4, none⟩ = some (.slice A4 H.mats.length c4) := by rw [← hX]; simp [go_sem]
  have x5 : X.cell? ⟨w.heap.size, 5, none⟩ = some (.slice A5 H.cors.length c5) := by rw [← hX]; simp [go_sem]
  have x6 : X.cell? ⟨w.heap.size, 6, none⟩ = some (.slice A6 H.wals.length c6) := by rw [← hX]; simp [go_sem]
  have x7 : X.cell? ⟨w.heap.size, 7, none⟩ = some (.slice A7 H.cans.length c7) := by rw [← hX]; simp [go_sem]
  have x8 : X.cell? ⟨w.heap.size, 8, none⟩ = some (.slice (some ⟨g, o, none⟩) H.seas.length c8) := by rw [← hX]; simp [go_sem]
  have y0 : X.cell? ⟨w.heap.size + 1, 0, none⟩ = some (.string nm) := by rw [← hX]; simp [go_sem]
  have y1 : X.cell? ⟨w.heap.size + 1, 1, none⟩ = some (.int .i64 sx) := by rw [← hX]; simp [go_sem]
  have y2 : X.cell? ⟨w.heap.size + 1, 2, none⟩ = some (.int .i64 sy) := by rw [← hX]; simp [go_sem]
  have y3 : X.cell? ⟨w.heap.size + 1, 3, none⟩ = some (.int .i64 sz) := by rw [← hX]; simp [go_sem]
  have BX : Below w.heap.size w X := by rw [← hX]; (repeat' first | with_reducible (first | apply bz0 | assumption | apply bz1 | apply bz2 | apply bz3 | apply bz4 | apply bz5) | (simp <;> omega))
  have gx := has_of_cell x0
  have gy := has_of_cell y0
  clear hX k0 k1 k2 k3 hcs hg HN
  gi_loopw [6] (fun i' wr => ∃ k : Nat, i' = .int .i64 k ∧ k ≤ i ∧ Below X.heap.size X wr ∧ ∀ j, j < k → ((seaAt H.seas j).name.toList == nm.toList) = false) (fun i' _ => i - (intOf i').toNat)
  case atStart => exact ⟨0, rfl, Nat.zero_le _, Below.refl _ _, fun j hj => absurd hj (Nat.not_lt_zero j)⟩
  case round =>
   obtain ⟨k, rfl, hk, hB, hno⟩ := hrel
   have hBw : Below w.heap.size w wr := BX.trans (hB.lower BX.size)
   have hgs := hBw.size
   replace x0 := cell_below hB gx x0
   replace x1' := cell_below hB gx x1'
   replace x2 := cell_below hB gx x2
   replace x3 := cell_below hB gx x3
   replace x4 := cell_below hB gx x4
   replace x5 := cell_below hB gx x5
   replace x6 := cell_below hB gx x6
   replace x7 := cell_below hB gx x7
   replace x8 := cell_below hB gx x8
   replace y0 := cell_below hB gy y0
   replace y1 := cell_below hB gy y1
   replace y2 := cell_below hB gy y2
   replace y3 := cell_below hB gy y3
   replace gx := has_of_cell x0
   replace gy := has_of_cell y0
   rcases Nat.lt_or_ge k i with hlt | hge
   · have hkl : k < H.seas.length := by omega
     obtain ⟨g', o', hgo, hg, hcs⟩ := sea_at (hS8.below hBw) hkl
     cases hgo
     obtain ⟨k0, _, _, _⟩ := hcs k hkl
     have hst := hidden (HT.out k hlt)
     have hgo : Hid (((seaAt H.seas k).name.toList == nm.toList) = false → ∀ j, j < k + 1 → ((seaAt H.seas j).name.toList == nm.toList) = false) := fun he j hj => by
      rcases Nat.lt_or_ge j k with h' | h'
      · exact hno j h'
      · obtain rfl : j = k := by omega
        exact he
     clear hcs hS8 hno HT HU HI HJ
     generalize (seaAt H.seas k).name = n0 at *
     cases q : (n0.toList == nm.toList) with
     | true =>
      have hz : Hid (seaE H i = 5) := by unfold Hid; rw [HE.out, if_pos (hst.out q)]
      clear HE hst
      gi_wp2
      refine wpIn_wide.2 ?_
      (refine tmX (by kernel_rfl) (by kernel_rfl) ?_); (repeat (first | (refine tmS rfl ?_; simp only [Act.put, List.setIfInBounds_toArray, List.set_cons_succ, List.set_cons_zero]) | (refine tmP rfl rfl rfl (fun K hK => ?_); go_big_quiet_op; refine hK _ ?_; clear hK K) | (refine tmE rfl rfl (fun K hK => ?_); go_big_op; (first | fail | skip); (refine hK _ _ rfl (ext_of_below (by (repeat' first | with_reducible (first | apply bz0 | assumption | apply bz1 | apply bz2 | apply bz3 | apply bz4 | apply bz5) | (simp <;> omega)))) ?_; clear hK K)))); (refine tmN ?_)
      gi_wp2
      refine bodyPost_ret (v := .int .i64 5) (by simp [results, Tryz.results85, go_sem]) rfl (retX (by rw [hz.out]) (hBw.trans ((show Below wr.heap.size wr _ by (repeat' first | with_reducible (first | apply bz0 | assumption | apply bz1 | apply bz2 | apply bz3 | apply bz4 | apply bz5) | (simp <;> omega))).lower hgs)))
     | false =>
      have hz := hidden (hgo.out q)
      clear HE hst
      gi_wp2
      refine wpIn_wide.2 ?_
      (refine tmX (by kernel_rfl) (by kernel_rfl) ?_); (repeat (first | (refine tmS rfl ?_; simp only [Act.put, List.setIfInBounds_toArray, List.set_cons_succ, List.set_cons_zero]) | (refine tmP rfl rfl rfl (fun K hK => ?_); go_big_quiet_op; refine hK _ ?_; clear hK K) | (refine tmE rfl rfl (fun K hK => ?_); go_big_op; (first | fail | skip); (refine hK _ _ rfl (ext_of_below (by (repeat' first | with_reducible (first | apply bz0 | assumption | apply bz1 | apply bz2 | apply bz3 | apply bz4 | apply bz5) | (simp <;> omega)))) ?_; clear hK K)))); (refine tmN ?_)
      gi_wp2
      exact ⟨⟨k + 1, by simp, by omega, hB.trans ((show Below wr.heap.size wr _ by (repeat' first | with_reducible (first | apply bz0 | assumption | apply bz1 | apply bz2 | apply bz3 | apply bz4 | apply bz5) | (simp <;> omega))).lower hB.size), hz.out⟩, by simp [intOf]; omega⟩
   · obtain rfl : k = i := by omega
     have hE := HE.out
     rw [if_neg (by rw [HU.out hno]; simp), HJ.out] at hE
     clear HE HU HT HJ hno hS8
     have HPx := hidden (fun W => isPlace_any sx W)
     have HPy := hidden (fun W => isPlace_any sy W)
     have HPz := hidden (fun W => isPlace_any sz W)
     have HQ := hidden (fun W => refPointOf_any sx sy sz W)
     have bnd : wiB sx (-5000) 5000 = true → wiB sy (-5000) 5000 = true → (-1000000000000000 ≤ sx ∧ sx ≤ 1000000000000000) ∧ (-1000000000000000 ≤ sy ∧ sy ≤ 1000000000000000) := by
      intro h1 h2
      simp [wiB] at h1 h2
      omega
     generalize wiB sx (-5000) 5000 = bx at *
     generalize wiB sy (-5000) 5000 = by' at *
     generalize wiB sz (-5000) 5000 = bz at *
     have cs : (bx = false) ∨ (bx = true ∧ by' = false) ∨ (bx = true ∧ by' = true ∧ bz = false) ∨ (bx = true ∧ by' = true ∧ bz = true) := by cases bx <;> cases by' <;> cases bz <;> simp
     rcases cs with rfl | ⟨rfl, rfl⟩ | ⟨rfl, rfl, rfl⟩ | ⟨rfl, rfl, rfl⟩
     · simp only [Bool.false_and, Bool.false_eq_true, if_false] at hE
       clear HI bnd
       gi_wp2
       (refine ⟨trivial, ?_⟩; ((with_reducible refine (callsIn_wide.2 (HPx.out _)).mono ?_); rintro e w' ⟨rfl, z1, rfl⟩))
       gi_wp2
       refine ⟨trivial, ?_⟩
       gi_wp2
       refine ⟨trivial, ?_⟩
       gi_wp2
       refine bodyPost_ret (v := .int .i64 2) (by simp [results, Tryz.results85, go_sem]) rfl (retX (by rw [hE]) (hBw.trans ((show Below wr.heap.size wr _ by (repeat' first | with_reducible (first | apply bz0 | assumption | apply bz1 | apply bz2 | apply bz3 | apply bz4 | apply bz5) | (simp <;> omega))).lower hgs)))
     · simp only [Bool.false_and, Bool.and_false, Bool.false_eq_true, if_false] at hE
       clear HI bnd
       gi_wp2
       (refine ⟨trivial, ?_⟩; ((with_reducible refine (callsIn_wide.2 (HPx.out _)).mono ?_); rintro e w' ⟨rfl, z1, rfl⟩))
       gi_wp2
       (refine ⟨trivial, ?_⟩; ((with_reducible refine (callsIn_wide.2 (HPy.out _)).mono ?_); rintro e w' ⟨rfl, z2, rfl⟩))
       gi_wp2
       refine ⟨trivial, ?_⟩
       gi_wp2
       refine bodyPost_ret (v := .int .i64 2) (by simp [results, Tryz.results85, go_sem]) rfl (retX (by rw [hE]) (hBw.trans ((show Below wr.heap.size wr _ by (repeat' first | with_reducible (first | apply bz0 | assumption | apply bz1 | apply bz2 | apply bz3 | apply bz4 | apply bz5) | (simp <;> omega))).lower hgs)))
     · simp only [Bool.false_and, Bool.and_false, Bool.false_eq_true, if_false] at hE
       clear HI bnd
       gi_wp2
       (refine ⟨trivial, ?_⟩; ((with_reducible refine (callsIn_wide.2 (HPx.out _)).mono ?_); rintro e w' ⟨rfl, z1, rfl⟩))
       gi_wp2
       (refine ⟨trivial, ?_⟩; ((with_reducible refine (callsIn_wide.2 (HPy.out _)).mono ?_); rintro e w' ⟨rfl, z2, rfl⟩))
       gi_wp2
       (refine ⟨trivial, ?_⟩; ((with_reducible refine (callsIn_wide.2 (HPz.out _)).mono ?_); rintro e w' ⟨rfl, z3, rfl⟩))
       gi_wp2
       refine bodyPost_ret (v := .int .i64 2) (by simp [results, Tryz.results85, go_sem]) rfl (retX (by rw [hE]) (hBw.trans ((show Below wr.heap.size wr _ by (repeat' first | with_reducible (first | apply bz0 | assumption | apply bz1 | apply bz2 | apply bz3 | apply bz4 | apply bz5) | (simp <;> omega))).lower hgs)))
     · simp only [Bool.and_self, if_true] at hE
       obtain ⟨b1, b2⟩ := bnd rfl rfl
       have HIk := hidden (fun (W : World) (hW : Below w.heap.size w W) => HI.out W hW sx sy sz b1 b2)
       clear HI bnd b1 b2
       generalize (betweenB H.height sz 1 && inplB H sx sy 1) = u at *
       cases u
       · simp only [Bool.false_eq_true, if_true, if_false] at hE
         gi_wp2
         (refine ⟨trivial, ?_⟩; ((with_reducible refine (callsIn_wide.2 (HPx.out _)).mono ?_); rintro e w' ⟨rfl, z1, rfl⟩))
         gi_wp2
         (refine ⟨trivial, ?_⟩; ((with_reducible refine (callsIn_wide.2 (HPy.out _)).mono ?_); rintro e w' ⟨rfl, z2, rfl⟩))
         gi_wp2
         (refine ⟨trivial, ?_⟩; ((with_reducible refine (callsIn_wide.2 (HPz.out _)).mono ?_); rintro e w' ⟨rfl, z3, rfl⟩))
         gi_wp2
         refine wpIn_wide.2 ?_
         (refine tmX (by kernel_rfl) (by kernel_rfl) ?_); (repeat (first | (refine tmS rfl ?_; simp only [Act.put, List.setIfInBounds_toArray, List.set_cons_succ, List.set_cons_zero]) | (refine tmP rfl rfl rfl (fun K hK => ?_); go_big_quiet_op; refine hK _ ?_; clear hK K) | (refine tmE rfl rfl (fun K hK => ?_); go_big_op; (first | (go_at_call 51; refine (HQ.out _).mono ?_; rintro e w' ⟨rfl, z4, rfl⟩) | (go_at_call 54; refine (HIk.out _ (by (repeat' first | with_reducible (first | apply bz0 | assumption | apply bz1 | apply bz2 | apply bz3 | apply bz4 | apply bz5) | (simp <;> omega)))).mono ?_; rintro e w' ⟨rfl, z5, rfl⟩) | skip); (refine hK _ _ rfl (ext_of_below (by (repeat' first | with_reducible (first | apply bz0 | assumption | apply bz1 | apply bz2 | apply bz3 | apply bz4 | apply bz5) | (simp <;> omega)))) ?_; clear hK K)))); (refine tmN ?_)
         gi_wp2
         refine bodyPost_ret (v := .int .i64 24) (by simp [results, Tryz.results85, go_sem]) rfl (retX (by rw [hE]) (hBw.trans ((show Below wr.heap.size wr _ by (repeat' first | with_reducible (first | apply bz0 | assumption | apply bz1 | apply bz2 | apply bz3 | apply bz4 | apply bz5) | (simp <;> omega))).lower hgs)))
       · simp only [Bool.false_eq_true, if_true, if_false] at hE
         gi_wp2
         (refine ⟨trivial, ?_⟩; ((with_reducible refine (callsIn_wide.2 (HPx.out _)).mono ?_); rintro e w' ⟨rfl, z1, rfl⟩))
         gi_wp2
         (refine ⟨trivial, ?_⟩; ((with_reducible refine (callsIn_wide.2 (HPy.out _)).mono ?_); rintro e w' ⟨rfl, z2, rfl⟩))
         gi_wp2
         (refine ⟨trivial, ?_⟩; ((with_reducible refine (callsIn_wide.2 (HPz.out _)).mono ?_); rintro e w' ⟨rfl, z3, rfl⟩))
         gi_wp2
         refine wpIn_wide.2 ?_
         (refine tmX (by kernel_rfl) (by kernel_rfl) ?_); (repeat (first | (refine tmS rfl ?_; simp only [Act.put, List.setIfInBounds_toArray, List.set_cons_succ, List.set_cons_zero]) | (refine tmP rfl rfl rfl (fun K hK => ?_); go_big_quiet_op; refine hK _ ?_; clear hK K) | (refine tmE rfl rfl (fun K hK => ?_); go_big_op; (first | (go_at_call 51; refine (HQ.out _).mono ?_; rintro e w' ⟨rfl, z4, rfl⟩) | (go_at_call 54; refine (HIk.out _ (by (repeat' first | with_reducible (first | apply bz0 | assumption | apply bz1 | apply bz2 | apply bz3 | apply bz4 | apply bz5) | (simp <;> omega)))).mono ?_; rintro e w' ⟨rfl, z5, rfl⟩) | skip); (refine hK _ _ rfl (ext_of_below (by (repeat' first | with_reducible (first | apply bz0 | assumption | apply bz1 | apply bz2 | apply bz3 | apply bz4 | apply bz5) | (simp <;> omega)))) ?_; clear hK K)))); (refine tmN ?_)
         gi_wp2
         refine bodyPost_ret (v := .int .i64 0) (by simp [results, Tryz.results85, go_sem]) rfl (retX (by rw [hE]) (hBw.trans ((show Below wr.heap.size wr _ by (repeat' first | with_reducible (first | apply bz0 | assumption | apply bz1 | apply bz2 | apply bz3 | apply bz4 | apply bz5) | (simp <;> omega))).lower hgs)))
end Go.Proofs.YtekieoamelahkaaGreat

/- The reference's check of a wall: plain facts. -/
namespace Go.Proofs.YtekieoamelahkaaGreat
open Go.RowKit Go.Shelf

theorem has_mat {H : Hal} {nm : ByteArray} : decide (matI H nm < 0) = !hasName (msOf H) nm := by
 unfold matI hasName msOf
 cases q : (List.range H.mats.length).find? (fun k => (matAt H.mats k).name.toList == nm.toList) with
 | none =>
  have h : (H.mats.map (·.name)).any (fun n => nm == n) = false := by
   rw [List.any_eq_false]
   intro x hx
   rw [List.mem_map] at hx
   obtain ⟨m, hm, rfl⟩ := hx
   obtain ⟨j, hj, rfl⟩ := List.getElem_of_mem hm
   have := List.find?_eq_none.1 q j (by simpa using hj)
   have e : matAt H.mats j = H.mats[j] := by unfold matAt; rw [List.getElem?_eq_getElem hj]; rfl
   rw [e, nm_eq] at this
   exact this
  simp [h]
 | some k =>
  have hk := List.find?_some q
  have hm := List.mem_of_find?_eq_some q
  have hk2 : k < H.mats.length := by simpa using hm
  have e : matAt H.mats k = H.mats[k] := by unfold matAt; rw [List.getElem?_eq_getElem hk2]; rfl
  have h : (H.mats.map (·.name)).any (fun n => nm == n) = true := by
   rw [List.any_eq_true]
   refine ⟨H.mats[k].name, List.mem_map.2 ⟨_, List.getElem_mem hk2, rfl⟩, ?_⟩
   rw [← nm_eq, ← e]
   exact hk
  rw [h]
  simp
theorem wal_stop {H : Hal} {i j : Nat} {nm : ByteArray} (hi : i < H.wals.length) (hj : j < i) (h : ((walAt H.wals j).name.toList == nm.toList) = true) : hasName (walNames H i) nm = true := by
 unfold hasName walNames
 rw [List.any_eq_true]
 have hjl : j < H.wals.length := by omega
 refine ⟨(walAt H.wals j).name, ?_, by rw [← nm_eq]; exact h⟩
 rw [List.mem_map]
 refine ⟨walAt H.wals j, ?_, rfl⟩
 have : walAt H.wals j = H.wals[j] := by unfold walAt; rw [List.getElem?_eq_getElem hjl]; rfl
 rw [this, List.mem_take_iff_getElem]
 exact ⟨j, by omega, rfl⟩
theorem wal_end {H : Hal} {i : Nat} {nm : ByteArray} (hi : i < H.wals.length) (h : ∀ j, j < i → ((walAt H.wals j).name.toList == nm.toList) = false) : hasName (walNames H i) nm = false := by
 unfold hasName walNames
 rw [List.any_eq_false]
 intro x hx
 rw [List.mem_map] at hx
 obtain ⟨s, hs, rfl⟩ := hx
 rw [List.mem_take_iff_getElem] at hs
 obtain ⟨j, hj, rfl⟩ := hs
 have hjl : j < H.wals.length := by omega
 have : walAt H.wals j = H.wals[j] := by unfold walAt; rw [List.getElem?_eq_getElem hjl]; rfl
 have := h j (by omega)
 rw [nm_eq] at this
 simp_all
theorem has_app (a b : List ByteArray) (n : ByteArray) : hasName (a ++ b) n = (hasName a n || hasName b n) := by
 unfold hasName; rw [List.any_append]
theorem right_line (a b c d : Int) : rightB a b c d = !(decide (c - a ≠ 0) && (decide (d - b ≠ 0) && decide (sizeI (c - a) ≠ sizeI (d - b)))) := by
 unfold rightB sizeI
 rw [Bool.eq_iff_iff]
 simp
 omega
theorem noth_line (a b c d : Int) : nothingB a b c d = (decide (c - a = 0) && decide (d - b = 0)) := by
 unfold nothingB
 rw [Bool.eq_iff_iff]
 simp
 omega
theorem line_ok {H : Hal} (hC : CorsIn H) {i : Nat} (hi : i < H.cors.length) (hz : nothingB (corAt H.cors i).x (corAt H.cors i).y (corAt H.cors (nxt H.cors.length i)).x (corAt H.cors (nxt H.cors.length i)).y = false) (hr : rightB (corAt H.cors i).x (corAt H.cors i).y (corAt H.cors (nxt H.cors.length i)).x (corAt H.cors (nxt H.cors.length i)).y = true) : LineOk (lnDX H i) (lnDY H i) := by
 have b1 := hC i hi
 have b2 := hC _ (nxt_lt hi)
 unfold lnDX lnDY LineOk
 simp [nothingB] at hz
 simp [rightB] at hr
 omega
theorem lines_ok {H : Hal} (h : HallOk H) : LinesOk H := by
 intro i hi
 have hw := h.wals i hi
 unfold wallEk wallE at hw
 split at hw
 · exact absurd hw (by decide)
 split at hw
 · exact absurd hw (by decide)
 split at hw
 · exact absurd hw (by decide)
 split at hw
 · exact absurd hw (by decide)
 split at hw
 · exact absurd hw (by decide)
 split at hw
 · exact absurd hw (by decide)
 rename_i h5 h6
 exact line_ok h.cors hi (by simpa using h5) (by simpa using h6)
end Go.Proofs.YtekieoamelahkaaGreat
