/- surface, at a canopy. -/
import Derived.Test.YtekieoamelahkaaGreatM31
import Derived.Test.YtekieoamelahkaaGreatM24
set_option maxRecDepth 100000
set_option maxHeartbeats 1000000
set_option linter.unusedVariables false
set_option linter.unusedSimpArgs false
namespace Go.Proofs.YtekieoamelahkaaGreat
open Go.RowKit Go.Shelf
attribute [local go_sem] Oper.semAt_some

theorem surface_canopy {w : World} {bp : Nat} {H : Hal} {S : Stg} (hR : Room w bp H S) (i : Nat) (hi : i < H.cans.length) (t1 : i < S.hs.length) (t2 : 0 ≤ intAt S.hs i) (t3 : intAt S.hs i < (canAt H.cans i).hs.length) (hc : CanOk H (canAt H.cans i)) :
 Calls Tryz.prog 104 #[.pointer (some ⟨bp, 0, none⟩), .int .i64 ((H.wals.length : Int) + 2 + i)] w (RetX w (surfV 2 (canZ H S i) (canAt H.cans i).mat
  ((max (canAt H.cans i).f.x (canAt H.cans i).t.x - min (canAt H.cans i).f.x (canAt H.cans i).t.x) * (max (canAt H.cans i).f.y (canAt H.cans i).t.y - min (canAt H.cans i).f.y (canAt H.cans i).t.y))
  ((max (canAt H.cans i).f.x (canAt H.cans i).t.x - min (canAt H.cans i).f.x (canAt H.cans i).t.x) * (max (canAt H.cans i).f.y (canAt H.cans i).t.y - min (canAt H.cans i).f.y (canAt H.cans i).t.y)) 2
  (.func (.func 180) #[.agg #[.int .i64 (min (canAt H.cans i).f.x (canAt H.cans i).t.x), .int .i64 (min (canAt H.cans i).f.y (canAt H.cans i).t.y), .int .i64 (max (canAt H.cans i).f.x (canAt H.cans i).t.x), .int .i64 (max (canAt H.cans i).f.y (canAt H.cans i).t.y)]] #[]))) := by
 have HW := hidden (fun (W : World) (hW : Below w.heap.size w W) => canopy_room (hR.below hW) i hi t1 t2 t3 hc)
 obtain ⟨v4, v5, v6, v7, v8, u9, u10, hR⟩ := hR
 obtain ⟨A7, c7, rfl, hS7⟩ := slc_form hR.hal.cans
 obtain ⟨A6, c6, rfl, hS6⟩ := slc_form hR.hal.wals
 have l6 := hS6.1
 have l7 := hS7.1
 have h6 := hR.c6
 have hbp := hR.has
 clear hR hS6 hS7 t1 t2 t3 hc
 have e1 : IntKind.i64.wrap ((H.wals.length : Int) + 1) = (H.wals.length : Int) + 1 := IntWalk.i64_in _ (by omega)
 have e2 : IntKind.i64.wrap ((H.wals.length : Int) + 2 + i - H.wals.length) = (i : Int) + 2 := by rw [IntWalk.i64_in _ (by omega)]; omega
 have e3 : IntKind.i64.wrap ((i : Int) + 2 - 2) = (i : Int) := by rw [IntWalk.i64_in _ (by omega)]; omega
 have q1 : ((H.wals.length : Int) + 2 + i == (H.wals.length : Int)) = false := by simp; omega
 have q2 : ((H.wals.length : Int) + 2 + i == (H.wals.length : Int) + 1) = false := by simp; omega
 have q3 : decide ((H.wals.length : Int) + 2 + i < (H.wals.length : Int)) = false := by simp; omega
 generalize (max (canAt H.cans i).f.x (canAt H.cans i).t.x - min (canAt H.cans i).f.x (canAt H.cans i).t.x) * (max (canAt H.cans i).f.y (canAt H.cans i).t.y - min (canAt H.cans i).f.y (canAt H.cans i).t.y) = lo at *
 generalize canZ H S i = z at *
 generalize canAt H.cans i = C at *
 obtain ⟨Cn, Cm, Cf, Ct, Ch⟩ := C
 simp only at *
 generalize min Cf.x Ct.x = a0 at *
 generalize min Cf.y Ct.y = a1 at *
 generalize max Cf.x Ct.x = a2 at *
 generalize max Cf.y Ct.y = a3 at *
 generalize H.wals.length = nw at *
 unfold surfV at *
 refine (callsIn_wide (n := 10)).1 ?_; refine callsIn_of_wp Tryz.func104 rfl trivial ?_ rfl; simp only [Tryz.ntmps104, nt, Nat.reduceAdd, Nat.reduceSub]
 gi_wp2
 (refine ⟨trivial, ?_⟩; ((with_reducible refine (callsIn_wide.2 (HW.out _ ?hk)).mono ?_); (case hk => (repeat' first | with_reducible (first | apply bz0 | assumption | apply bz1 | apply bz2 | apply bz3 | apply bz4 | apply bz5) | (simp <;> omega))); rintro e w1 ⟨rfl, x1, rfl⟩))
 have h7 := (Seven.new w).kept (W' := (w.alloc (.cells #[.int .i64 0, .int .i64 0, .string ⟨#[]⟩, .int .i64 0, .int .i64 0, .int .i64 0, .nilFunc] 151)).ext x1) (by (repeat' first | with_reducible (first | apply bz0 | assumption | apply bz1 | apply bz2 | apply bz3 | apply bz4 | apply bz5) | (simp <;> omega)))
 gi_wp2_with (refine Oper.wpIn_store rfl (store_surf _ _ _ _ _ _ _ _ _ _ _ h7) ?_)
 obtain ⟨z0, z1, z2, z3, z4, z5, z6⟩ := set7_cells 2 z Cm lo lo 2 180 #[.agg #[.int .i64 a0, .int .i64 a1, .int .i64 a2, .int .i64 a3]] #[] h7
 refine bodyPost_ret (v := .agg #[.int .i64 2, .int .i64 z, .string Cm, .int .i64 lo, .int .i64 lo, .int .i64 2, .func (.func 180) #[.agg #[.int .i64 a0, .int .i64 a1, .int .i64 a2, .int .i64 a3]] #[]]) ?_ rfl (retX rfl (set7_below (by (repeat' first | with_reducible (first | apply bz0 | assumption | apply bz1 | apply bz2 | apply bz3 | apply bz4 | apply bz5) | (simp <;> omega))) (Nat.le_refl _)))
 simp [results, Tryz.results104, go_sem, z0, z1, z2, z3, z4, z5, z6]
end Go.Proofs.YtekieoamelahkaaGreat

/- IsFree, of a setting and points that are right. -/
namespace Go.Proofs.YtekieoamelahkaaGreat
open Go.RowKit Go.Shelf
attribute [local go_sem] Oper.semAt_some

theorem IsFree_good {w : World} {H : Hal} {S : Stg} {v4 v5 v6 v7 v8 v9 v10 : Value} (hV : HalVs w v4 v5 v6 v7 v8 H) (h9 : SlcAt encInt w v9 S.hs) (h10 : SlcAt encInt w v10 S.dr) (hE : inE H S = 0)
 (x1 y1 z1 d1 x2 y2 z2 d2 : Int) (hd1 : 0 ≤ d1 ∧ d1 ≤ 100000) (hd2 : 0 ≤ d2 ∧ d2 ≤ 100000) (hx1 : -500000000 ≤ x1 ∧ x1 ≤ 500000000) (hy1 : -500000000 ≤ y1 ∧ y1 ≤ 500000000) (hz1 : -500000000 ≤ z1 ∧ z1 ≤ 500000000) (hx2 : -500000000 ≤ x2 ∧ x2 ≤ 500000000) (hy2 : -500000000 ≤ y2 ∧ y2 ≤ 500000000) (hz2 : -500000000 ≤ z2 ∧ z2 ≤ 500000000)
 (hp1 : ptE x1 y1 z1 d1 = 0) (hp2 : ptE x2 y2 z2 d2 = 0) (hne : (x1 == x2 && (y1 == y2 && (z1 == z2 && d1 == d2))) = false) :
 Calls Tryz.prog 55 #[halV H v4 v5 v6 v7 v8, .agg #[v9, v10], .agg #[.int .i64 x1, .int .i64 y1, .int .i64 z1, .int .i64 d1, .int .i64 x2, .int .i64 y2, .int .i64 z2, .int .i64 d2]] w (RetX w (.tuple #[.bool (freeB H S x1 y1 z1 d1 x2 y2 z2 d2), .int .i64 0])) := by
 have HC := hidden (fun (W : World) (hW : Below w.heap.size w W) => visitIn_good (hV.below hW) (h9.below hW) (h10.below hW) hE)
 obtain ⟨hf, _⟩ := inE_parts hE
 have hok := hall_ok hf
 have hm := hok.n12
 have hh2 := hok.h2
 have hh5 := hok.h5
 have hnc := hok.nc
 have HP1 := hidden (fun W => pointError_any x1 y1 z1 d1 W (by omega) (by omega) (by omega) (by omega))
 have HP2 := hidden (fun W => pointError_any x2 y2 z2 d2 W (by omega) (by omega) (by omega) (by omega))
 rw [hp1] at HP1
 rw [hp2] at HP2
 have HF := hidden (fun (W : World) (b : Nat) (hR : Room W b H S) => isFree_room hR hok.cors (by omega) ⟨by omega, by omega⟩ x1 y1 z1 d1 x2 y2 z2 d2 hd1 hd2 hx1 hy1 hz1 hx2 hy2 hz2 (by omega) (canZ_in hE) (fun i hi => ⟨(hok.can hi).fx, (hok.can hi).fy, (hok.can hi).tx, (hok.can hi).ty⟩))
 obtain ⟨_, g4, g5, g6, g7, g8⟩ := hV
 obtain ⟨A4, c4, rfl, _⟩ := slc_form g4
 obtain ⟨A5, c5, rfl, _⟩ := slc_form g5
 obtain ⟨A6, c6, rfl, _⟩ := slc_form g6
 obtain ⟨A7, c7, rfl, _⟩ := slc_form g7
 obtain ⟨A8, c8, rfl, _⟩ := slc_form g8
 obtain ⟨A9, c9, rfl, _⟩ := slc_form h9
 obtain ⟨A10, c10, rfl, _⟩ := slc_form h10
 generalize freeB H S x1 y1 z1 d1 x2 y2 z2 d2 = q at *
 clear hd1 hd2 hx1 hy1 hz1 hx2 hy2 hz2 hp1 hp2 hok hm hh2 hh5 hnc g4 g5 g6 g7 g8 h9 h10
 unfold halV at *
 refine (callsIn_wide (n := 10)).1 ?_
 refine callsIn_of_wp Tryz.func55 rfl trivial ?_ rfl
 simp only [Tryz.ntmps55, nt, Nat.reduceAdd, Nat.reduceSub]
 gi_wp2
 (refine ⟨trivial, ?_⟩; ((with_reducible refine (callsIn_wide.2 (HC.out _ ?hk)).mono ?_); (case hk => (repeat' first | with_reducible (first | apply bz0 | assumption | apply bz1 | apply bz2 | apply bz3 | apply bz4 | apply bz5) | (simp <;> omega))); rintro e w1 ⟨hB1, b, hb1, rfl, hR1⟩))
 generalize hY : World.alloc _ _ = Y at *
 have y0 : Y.cell? ⟨w.heap.size + 2, 0, none⟩ = some (.int .i64 x1) := by rw [← hY]; simp [go_sem]
 have y1' : Y.cell? ⟨w.heap.size + 2, 1, none⟩ = some (.int .i64 y1) := by rw [← hY]; simp [go_sem]
 have y2' : Y.cell? ⟨w.heap.size + 2, 2, none⟩ = some (.int .i64 z1) := by rw [← hY]; simp [go_sem]
 have y3 : Y.cell? ⟨w.heap.size + 2, 3, none⟩ = some (.int .i64 d1) := by rw [← hY]; simp [go_sem]
 have y4 : Y.cell? ⟨w.heap.size + 2, 4, none⟩ = some (.int .i64 x2) := by rw [← hY]; simp [go_sem]
 have y5 : Y.cell? ⟨w.heap.size + 2, 5, none⟩ = some (.int .i64 y2) := by rw [← hY]; simp [go_sem]
 have y6 : Y.cell? ⟨w.heap.size + 2, 6, none⟩ = some (.int .i64 z2) := by rw [← hY]; simp [go_sem]
 have y7 : Y.cell? ⟨w.heap.size + 2, 7, none⟩ = some (.int .i64 d2) := by rw [← hY]; simp [go_sem]
 have BY : Below w.heap.size w Y := by rw [← hY]; (repeat' first | with_reducible (first | apply bz0 | assumption | apply bz1 | apply bz2 | apply bz3 | apply bz4 | apply bz5) | (simp <;> omega))
 have gy := has_of_cell y0
 replace y0 := cell_below hB1 gy y0
 replace y1' := cell_below hB1 gy y1'
 replace y2' := cell_below hB1 gy y2'
 replace y3 := cell_below hB1 gy y3
 replace y4 := cell_below hB1 gy y4
 replace y5 := cell_below hB1 gy y5
 replace y6 := cell_below hB1 gy y6
 replace y7 := cell_below hB1 gy y7
 replace gy := has_of_cell y0
 have BX : Below w.heap.size w w1 := BY.trans (hB1.lower BY.size)
 have hgs := BX.size
 clear hY
 gi_wp2
 (refine ⟨trivial, ?_⟩; ((with_reducible refine (callsIn_wide.2 (HP1.out _)).mono ?_); rintro e w' ⟨rfl, x11, rfl⟩))
 gi_wp2
 (refine ⟨trivial, ?_⟩; ((with_reducible refine (callsIn_wide.2 (HP2.out _)).mono ?_); rintro e w' ⟨rfl, x12, rfl⟩))
 gi_wp2
 · exfalso; simp_all
 all_goals
  subst_vars
  (refine ⟨trivial, ?_⟩; ((with_reducible refine (callsIn_wide.2 (HF.out _ _ (hR1.below ?hk))).mono ?_); (case hk => (repeat' first | with_reducible (first | apply bz0 | assumption | apply bz1 | apply bz2 | apply bz3 | apply bz4 | apply bz5) | (simp <;> omega))); rintro e w' ⟨rfl, x13, rfl⟩))
  gi_wp2
  refine bodyPost_ret (v := .tuple #[.bool q, .int .i64 0]) (by simp [results, Tryz.results55, go_sem]) rfl (retX rfl (BX.trans ((show Below w1.heap.size w1 _ by (repeat' first | with_reducible (first | apply bz0 | assumption | apply bz1 | apply bz2 | apply bz3 | apply bz4 | apply bz5) | (simp <;> omega))).lower hgs)))
end Go.Proofs.YtekieoamelahkaaGreat
