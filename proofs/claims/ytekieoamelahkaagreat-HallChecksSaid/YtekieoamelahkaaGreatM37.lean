/- The reference's TwiceArea. -/
import Derived.Test.YtekieoamelahkaaGreatM36
import Derived.Test.YtekieoamelahkaaGreatM34
set_option maxRecDepth 100000
set_option maxHeartbeats 1000000
set_option linter.unusedVariables false
set_option linter.unusedSimpArgs false
namespace Go.Proofs.YtekieoamelahkaaGreat
open Go.RowKit Go.Shelf
attribute [local go_sem] Oper.semAt_some

set_option maxRecDepth 100000 in set_option maxHeartbeats 4000000 in
theorem refTwiceArea_any {w : World} {H : Hal} {v4 v5 v6 v7 v8 : Value} (hV : HalVs w v4 v5 v6 v7 v8 H) (hC : CorsIn H) (hN : H.cors.length ≤ 1000) :
 Calls Tryz.prog 26 #[halV H v4 v5 v6 v7 v8] w (RetX w (.int .i64 (areaTo H H.cors.length))) := by
 have HD := hidden (fun (i : Nat) (hi : i < H.cors.length) => And.intro (hC i hi) (hC _ (nxt_lt hi)))
 have HA := hidden (fun (k : Nat) (hk : k ≤ H.cors.length) => areaTo_bd hC k hk)
 clear hC
 obtain ⟨_, g4, g5, g6, g7, g8⟩ := hV
 obtain ⟨A4, c4, rfl, _⟩ := slc_form g4
 obtain ⟨A5, c5, rfl, hS⟩ := slc_form g5
 obtain ⟨A6, c6, rfl, _⟩ := slc_form g6
 obtain ⟨A7, c7, rfl, _⟩ := slc_form g7
 obtain ⟨A8, c8, rfl, _⟩ := slc_form g8
 clear g4 g5 g6 g7 g8
 unfold halV at *
 refine (callsIn_wide (n := 10)).1 ?_
 refine callsIn_of_wp Tryz.func26 rfl trivial ?_ rfl
 simp only [Tryz.ntmps26, nt, Nat.reduceAdd, Nat.reduceSub]
 gi_wp2
 generalize hX : World.alloc _ _ = X
 have x5 : X.cell? ⟨w.heap.size, 5, none⟩ = some (.slice A5 H.cors.length c5) := by rw [← hX]; simp [go_sem]
 have BX : Below w.heap.size w X := by rw [← hX]; (repeat' first | with_reducible (first | apply bz0 | assumption | apply bz1 | apply bz2 | apply bz3 | apply bz4 | apply bz5) | (simp <;> omega))
 have gx := has_of_cell x5
 clear hX
 gi_loopw [3, 4] (fun u i wr => ∃ k : Nat, u = .int .i64 (areaTo H k) ∧ i = .int .i64 k ∧ k ≤ H.cors.length ∧ Below X.heap.size X wr) (fun _ i _ => H.cors.length - (intOf i).toNat)
 case atStart => exact ⟨0, rfl, rfl, Nat.zero_le _, Below.refl _ _⟩
 case round =>
  obtain ⟨k, rfl, rfl, hk, hB⟩ := hrel
  have hBw : Below w.heap.size w wr := BX.trans (hB.lower BX.size)
  have hgs := hBw.size
  replace x5 := cell_below hB gx x5
  replace gx := has_of_cell x5
  rcases Nat.lt_or_ge k H.cors.length with hlt | hge
  · obtain ⟨g, o, rfl, hg, hcs⟩ := cor_at (hS.below hBw) hlt
    have hj := nxt_lt hlt
    have e2 := nxt_mod hlt
    have k1 := hcs k hlt
    have k2 := hcs _ hj
    obtain ⟨b1, b2⟩ := HD.out k hlt
    have s1 := HA.out k hk
    have s2 := HA.out (k + 1) hlt
    have hI : Hid (areaTo H (k + 1) = areaTo H k + ((corAt H.cors k).x * (corAt H.cors (nxt H.cors.length k)).y - (corAt H.cors (nxt H.cors.length k)).x * (corAt H.cors k).y)) := rfl
    rw [hI.out] at s2
    clear hcs hS HD HA
    generalize hs' : areaTo H (k + 1) = s' at *
    generalize areaTo H k = s at *
    generalize corAt H.cors k = C1 at *
    generalize corAt H.cors (nxt H.cors.length k) = C2 at *
    generalize nxt H.cors.length k = j at *
    generalize H.cors.length = n at *
    obtain ⟨a1, a2⟩ := k1
    obtain ⟨a3, a4⟩ := k2
    obtain ⟨C1x, C1y⟩ := C1
    obtain ⟨C2x, C2y⟩ := C2
    simp only at *
    have e1 : IntKind.i64.wrap ((k : Int) + 1) = (k : Int) + 1 := IntWalk.i64_in _ (by omega)
    have m1 := mul_sz b1.1 b2.2 (by omega) (by omega)
    have m2 := mul_sz b2.1 b1.2 (by omega) (by omega)
    have e3 : IntKind.i64.wrap (C1x * C2y) = C1x * C2y := IntWalk.i64_in _ (by omega)
    have e4 : IntKind.i64.wrap (C2x * C1y) = C2x * C1y := IntWalk.i64_in _ (by omega)
    have e5 : IntKind.i64.wrap (s + C1x * C2y) = s + C1x * C2y := IntWalk.i64_in _ (by omega)
    have e6 : IntKind.i64.wrap (s + C1x * C2y - C2x * C1y) = s + C1x * C2y - C2x * C1y := IntWalk.i64_in _ (by omega)
    have hR : Hid (s' = s + C1x * C2y - C2x * C1y) := by unfold Hid; rw [hI.out]; omega
    clear hI
    gi_wp2
    refine wpIn_wide.2 ?_
    (refine wp_region_tree (by kernel_rfl) ?_)
    (refine tree_pure 0 rfl (by kernel_rfl) (by kernel_rfl) (by kernel_rfl) rfl rfl rfl (fun K hK => ?_)); go_big_quiet_op; refine hK _ ?_; clear hK K
    (refine tree_pure 1 rfl (by kernel_rfl) (by kernel_rfl) (by kernel_rfl) rfl rfl rfl (fun K hK => ?_)); go_big_quiet_op; refine hK _ ?_; clear hK K
    (refine tree_pure 2 rfl (by kernel_rfl) (by kernel_rfl) (by kernel_rfl) rfl rfl rfl (fun K hK => ?_)); go_big_quiet_op; refine hK _ ?_; clear hK K
    (refine tree_pure 3 rfl (by kernel_rfl) (by kernel_rfl) (by kernel_rfl) rfl rfl rfl (fun K hK => ?_)); go_big_quiet_op; refine hK _ ?_; clear hK K
    (refine tree_pure 4 rfl (by kernel_rfl) (by kernel_rfl) (by kernel_rfl) rfl rfl rfl (fun K hK => ?_)); go_big_quiet_op; refine hK _ ?_; clear hK K
    (refine tree_pure 5 rfl (by kernel_rfl) (by kernel_rfl) (by kernel_rfl) rfl rfl rfl (fun K hK => ?_)); go_big_quiet_op; refine hK _ ?_; clear hK K
    (refine tree_pure 6 rfl (by kernel_rfl) (by kernel_rfl) (by kernel_rfl) rfl rfl rfl (fun K hK => ?_)); go_big_quiet_op; refine hK _ ?_; clear hK K
    (refine tree_pure 7 rfl (by kernel_rfl) (by kernel_rfl) (by kernel_rfl) rfl rfl rfl (fun K hK => ?_)); go_big_quiet_op; refine hK _ ?_; clear hK K
    (refine tree_pure 8 rfl (by kernel_rfl) (by kernel_rfl) (by kernel_rfl) rfl rfl rfl (fun K hK => ?_)); go_big_quiet_op; refine hK _ ?_; clear hK K
    (refine tree_pure 9 rfl (by kernel_rfl) (by kernel_rfl) (by kernel_rfl) rfl rfl rfl (fun K hK => ?_)); go_big_quiet_op; refine hK _ ?_; clear hK K
    (refine tree_pure 10 rfl (by kernel_rfl) (by kernel_rfl) (by kernel_rfl) rfl rfl rfl (fun K hK => ?_)); go_big_quiet_op; refine hK _ ?_; clear hK K
    (refine tree_pure 11 rfl (by kernel_rfl) (by kernel_rfl) (by kernel_rfl) rfl rfl rfl (fun K hK => ?_)); go_big_quiet_op; refine hK _ ?_; clear hK K
    (refine tree_pure 12 rfl (by kernel_rfl) (by kernel_rfl) (by kernel_rfl) rfl rfl rfl (fun K hK => ?_)); go_big_quiet_op; refine hK _ ?_; clear hK K
    (refine tree_pure 13 rfl (by kernel_rfl) (by kernel_rfl) (by kernel_rfl) rfl rfl rfl (fun K hK => ?_)); go_big_quiet_op; refine hK _ ?_; clear hK K
    (refine tree_pure 14 rfl (by kernel_rfl) (by kernel_rfl) (by kernel_rfl) rfl rfl rfl (fun K hK => ?_)); go_big_quiet_op; refine hK _ ?_; clear hK K
    refine tree_all [15, 16] (by kernel_rfl) (by decide) ?_
    intro i hi
    simp only [List.mem_cons, List.not_mem_nil, or_false] at hi
    rcases hi with rfl | rfl
    · (refine tree_eff 15 rfl rfl rfl (fun K hK => ?_)); go_big_op; (first | fail | skip); (refine hK _ _ rfl (ext_of_below (by (repeat' first | with_reducible (first | apply bz0 | assumption | apply bz1 | apply bz2 | apply bz3 | apply bz4 | apply bz5) | (simp <;> omega)))) ?_; clear hK K)
      refine tree_all [16] (by kernel_rfl) (by decide) ?_
      intro i hi
      simp only [List.mem_cons, List.not_mem_nil, or_false] at hi
      subst hi
      (refine tree_eff 16 rfl rfl rfl (fun K hK => ?_)); go_big_op; (first | fail | skip); (refine hK _ _ rfl (ext_of_below (by (repeat' first | with_reducible (first | apply bz0 | assumption | apply bz1 | apply bz2 | apply bz3 | apply bz4 | apply bz5) | (simp <;> omega)))) ?_; clear hK K)
      refine tree_all [17] (by kernel_rfl) (by decide) ?_
      intro i hi
      simp only [List.mem_cons, List.not_mem_nil, or_false] at hi
      subst hi
      (refine tree_eff 17 rfl rfl rfl (fun K hK => ?_)); go_big_op; (first | fail | skip); (refine hK _ _ rfl (ext_of_below (by (repeat' first | with_reducible (first | apply bz0 | assumption | apply bz1 | apply bz2 | apply bz3 | apply bz4 | apply bz5) | (simp <;> omega)))) ?_; clear hK K)
      refine tree_all [18] (by kernel_rfl) (by decide) ?_
      intro i hi
      simp only [List.mem_cons, List.not_mem_nil, or_false] at hi
      subst hi
      (refine tree_eff 18 rfl rfl rfl (fun K hK => ?_)); go_big_op; (first | fail | skip); (refine hK _ _ rfl (ext_of_below (by (repeat' first | with_reducible (first | apply bz0 | assumption | apply bz1 | apply bz2 | apply bz3 | apply bz4 | apply bz5) | (simp <;> omega)))) ?_; clear hK K)
      refine tree_done (by kernel_rfl) ?_
      (gi_wp2; exact ⟨⟨k + 1, by rw [hs', hR.out], by simp, by omega, hB.trans ((show Below wr.heap.size wr _ by (repeat' first | with_reducible (first | apply bz0 | assumption | apply bz1 | apply bz2 | apply bz3 | apply bz4 | apply bz5) | (simp <;> omega))).lower hB.size)⟩, by simp [intOf]; omega⟩)
    · (refine tree_eff 16 rfl rfl rfl (fun K hK => ?_)); go_big_op; (first | fail | skip); (refine hK _ _ rfl (ext_of_below (by (repeat' first | with_reducible (first | apply bz0 | assumption | apply bz1 | apply bz2 | apply bz3 | apply bz4 | apply bz5) | (simp <;> omega)))) ?_; clear hK K)
      refine tree_all [15] (by kernel_rfl) (by decide) ?_
      intro i hi
      simp only [List.mem_cons, List.not_mem_nil, or_false] at hi
      subst hi
      (refine tree_eff 15 rfl rfl rfl (fun K hK => ?_)); go_big_op; (first | fail | skip); (refine hK _ _ rfl (ext_of_below (by (repeat' first | with_reducible (first | apply bz0 | assumption | apply bz1 | apply bz2 | apply bz3 | apply bz4 | apply bz5) | (simp <;> omega)))) ?_; clear hK K)
      refine tree_all [17] (by kernel_rfl) (by decide) ?_
      intro i hi
      simp only [List.mem_cons, List.not_mem_nil, or_false] at hi
      subst hi
      (refine tree_eff 17 rfl rfl rfl (fun K hK => ?_)); go_big_op; (first | fail | skip); (refine hK _ _ rfl (ext_of_below (by (repeat' first | with_reducible (first | apply bz0 | assumption | apply bz1 | apply bz2 | apply bz3 | apply bz4 | apply bz5) | (simp <;> omega)))) ?_; clear hK K)
      refine tree_all [18] (by kernel_rfl) (by decide) ?_
      intro i hi
      simp only [List.mem_cons, List.not_mem_nil, or_false] at hi
      subst hi
      (refine tree_eff 18 rfl rfl rfl (fun K hK => ?_)); go_big_op; (first | fail | skip); (refine hK _ _ rfl (ext_of_below (by (repeat' first | with_reducible (first | apply bz0 | assumption | apply bz1 | apply bz2 | apply bz3 | apply bz4 | apply bz5) | (simp <;> omega)))) ?_; clear hK K)
      refine tree_done (by kernel_rfl) ?_
      (gi_wp2; exact ⟨⟨k + 1, by rw [hs', hR.out], by simp, by omega, hB.trans ((show Below wr.heap.size wr _ by (repeat' first | with_reducible (first | apply bz0 | assumption | apply bz1 | apply bz2 | apply bz3 | apply bz4 | apply bz5) | (simp <;> omega))).lower hB.size)⟩, by simp [intOf]; omega⟩)
  · obtain rfl : k = H.cors.length := by omega
    clear HD HA
    generalize areaTo H H.cors.length = s at *
    gi_wp2
    refine bodyPost_ret (v := .int .i64 s) (by simp [results, Tryz.results26, go_sem]) rfl (retX rfl hBw)
end Go.Proofs.YtekieoamelahkaaGreat

/- SettingAt, of the hall of the examples. -/
namespace Go.Proofs.YtekieoamelahkaaGreat
open Go.RowKit Go.Shelf
attribute [local go_sem] Oper.semAt_some

theorem box_SettingAt {w : World} {v4 v5 v6 v7 v8 : Value} (hV : HalVs w v4 v5 v6 v7 v8 boxH) :
 Calls Tryz.prog 31 #[halV boxH v4 v5 v6 v7 v8, .int .i64 1] w (fun e w' => Below w.heap.size w w' ∧ ∃ g1 c1 g3 c3, e = .returned (.tuple #[.agg #[.slice (some ⟨g1, 0, none⟩) 1 c1, .slice (some ⟨g3, 0, none⟩) 1 c3], .int .i64 0]) ∧ w.heap.size ≤ g1 ∧ w.heap.size ≤ g3 ∧ w'.cell? ⟨g1, 0, none⟩ = some (.int .i64 0) ∧ w'.cell? ⟨g3, 0, none⟩ = some (.int .i64 1)) := by
 have HC := hidden (fun (W : World) (hW : Below w.heap.size w W) => visit_good (hV.below hW) box_ok)
 have HN := hidden (fun (W : World) (b : Nat) (hR : Room W b boxH ⟨[], []⟩) => countSettings_any hR (by rw [box_curt]; decide) (by
  intro k hk
  have hk : k ≤ 1 := hk
  obtain rfl | rfl : k = 0 ∨ k = 1 := by omega
  all_goals decide +kernel))
 rw [box_count] at HN
 have HS := hidden (fun (W : World) (b : Nat) (hR : Room W b boxH ⟨[], []⟩) => box_settingAt hR)
 obtain ⟨_, g4, g5, g6, g7, g8⟩ := hV
 obtain ⟨A4, c4, rfl, _⟩ := slc_form g4
 obtain ⟨A5, c5, rfl, _⟩ := slc_form g5
 obtain ⟨A6, c6, rfl, _⟩ := slc_form g6
 obtain ⟨A7, c7, rfl, _⟩ := slc_form g7
 obtain ⟨A8, c8, rfl, _⟩ := slc_form g8
 clear g4 g5 g6 g7 g8
 unfold halV at *
 refine (callsIn_wide (n := 10)).1 ?_
 refine callsIn_of_wp Tryz.func31 rfl trivial ?_ rfl
 simp only [Tryz.ntmps31, nt, Nat.reduceAdd, Nat.reduceSub]
 generalize boxH.mats.length = n4 at *
 generalize boxH.cors.length = n5 at *
 generalize boxH.wals.length = n6 at *
 generalize boxH.cans.length = n7 at *
 generalize boxH.seas.length = n8 at *
 gi_wp2
 (refine ⟨trivial, ?_⟩; ((with_reducible refine (callsIn_wide.2 (HC.out _ ?hk)).mono ?_); (case hk => (repeat' first | with_reducible (first | apply bz0 | assumption | apply bz1 | apply bz2 | apply bz3 | apply bz4 | apply bz5) | (simp <;> omega))); rintro e w1 ⟨hB1, b, hb1, rfl, ⟨u9, u10, hR0⟩, _⟩))
 have hR1 : Room w1 b boxH ⟨[], []⟩ := ⟨_, _, _, _, _, _, _, hR0⟩
 clear hR0
 generalize hY : World.alloc _ _ = Y at *
 have y0 : Y.cell? ⟨w.heap.size + 1, 0, none⟩ = some (.slice none 0 0) := by rw [← hY]; simp [go_sem]
 have y1 : Y.cell? ⟨w.heap.size + 1, 1, none⟩ = some (.slice none 0 0) := by rw [← hY]; simp [go_sem]
 have yf : ∀ i, Y.frozen? ⟨w.heap.size + 1, i, none⟩ = false := by intro i; rw [← hY]; simp [go_sem]
 have BY : Below w.heap.size w Y := by rw [← hY]; (repeat' first | with_reducible (first | apply bz0 | assumption | apply bz1 | apply bz2 | apply bz3 | apply bz4 | apply bz5) | (simp <;> omega))
 have gy := has_of_cell y0
 replace yf : ∀ i, w1.frozen? ⟨w.heap.size + 1, i, none⟩ = false := fun i => (World.frozen?_of_block (w := Y) (hB1.block (w.heap.size + 1) gy)).trans (yf i)
 replace y0 := cell_below hB1 gy y0
 replace y1 := cell_below hB1 gy y1
 replace gy := has_of_cell y0
 have BX : Below w.heap.size w w1 := BY.trans (hB1.lower BY.size)
 have hgs := BX.size
 have hlt : w.heap.size + 1 < w1.heap.size := gy
 clear hY HC
 gi_wp2
 (refine ⟨trivial, ?_⟩; ((with_reducible refine (callsIn_wide.2 (HN.out _ _ hR1)).mono ?_); rintro e w2 ⟨rfl, x2, rfl⟩))
 gi_wp2
 (refine ⟨trivial, ?_⟩; ((with_reducible refine (callsIn_wide.2 (HS.out _ _ (hR1.below ?hk))).mono ?_); (case hk => (repeat' first | with_reducible (first | apply bz0 | assumption | apply bz1 | apply bz2 | apply bz3 | apply bz4 | apply bz5) | (simp <;> omega))); rintro e w3 ⟨hB3, g1, k1, g3, k3, rfl, l1, l3, q1, q3⟩))
 have B3 : Below w1.heap.size w1 w3 := (show Below w1.heap.size w1 (w1.ext x2) by (repeat' first | with_reducible (first | apply bz0 | assumption | apply bz1 | apply bz2 | apply bz3 | apply bz4 | apply bz5) | (simp <;> omega))).trans (hB3.lower (by simp))
 have hle : w1.heap.size ≤ (w1.ext x2).heap.size := by simp
 replace yf : ∀ i, w3.frozen? ⟨w.heap.size + 1, i, none⟩ = false := fun i => (World.frozen?_of_block (w := w1) (B3.block (w.heap.size + 1) gy)).trans (yf i)
 replace y0 := cell_below B3 gy y0
 replace y1 := cell_below B3 gy y1
 have BZ : Below w.heap.size w w3 := BX.trans (B3.lower BX.size)
 have n1 : g1 ≠ w.heap.size + 1 := by omega
 have n3 : g3 ≠ w.heap.size + 1 := by omega
 have m1 : w.heap.size ≤ g1 := by omega
 have m3 : w.heap.size ≤ g3 := by omega
 clear HN HS hR1 hB1 hB3 B3
 gi_wp2
 generalize hT : w3.setCell ⟨w.heap.size + 1, 0, none⟩ _ = T
 have t0 : T.cell? ⟨w.heap.size + 1, 0, none⟩ = some (.slice (some ⟨g1, 0, none⟩) 1 k1) := by rw [← hT]; simp [go_sem, y0]
 have t1 : T.cell? ⟨w.heap.size + 1, 1, none⟩ = some (.slice none 0 0) := by rw [← hT]; simp [go_sem, y1]
 have tc : T.cell? ⟨g1, 0, none⟩ = some (.int .i64 0) := by rw [← hT]; simp [go_sem, n1, q1]
 have td : T.cell? ⟨g3, 0, none⟩ = some (.int .i64 1) := by rw [← hT]; simp [go_sem, n3, q3]
 have BT : Below w.heap.size w T := by rw [← hT]; exact BZ.setCell (by simp) _
 clear hT
 generalize hF : T.setCell ⟨w.heap.size + 1, 1, none⟩ _ = F
 have f0 : F.cell? ⟨w.heap.size + 1, 0, none⟩ = some (.slice (some ⟨g1, 0, none⟩) 1 k1) := by rw [← hF]; simp [go_sem, t0]
 have f1 : F.cell? ⟨w.heap.size + 1, 1, none⟩ = some (.slice (some ⟨g3, 0, none⟩) 1 k3) := by rw [← hF]; simp [go_sem, t1]
 have fc : F.cell? ⟨g1, 0, none⟩ = some (.int .i64 0) := by rw [← hF]; simp [go_sem, n1, tc]
 have fd : F.cell? ⟨g3, 0, none⟩ = some (.int .i64 1) := by rw [← hF]; simp [go_sem, n3, td]
 have BF : Below w.heap.size w F := by rw [← hF]; exact BT.setCell (by simp) _
 clear hF
 refine bodyPost_ret (v := .tuple #[.agg #[.slice (some ⟨g1, 0, none⟩) 1 k1, .slice (some ⟨g3, 0, none⟩) 1 k3], .int .i64 0]) (by simp [results, Tryz.results31, go_sem, f0, f1]) rfl ⟨BF, _, _, _, _, rfl, m1, m3, fc, fd⟩
end Go.Proofs.YtekieoamelahkaaGreat
