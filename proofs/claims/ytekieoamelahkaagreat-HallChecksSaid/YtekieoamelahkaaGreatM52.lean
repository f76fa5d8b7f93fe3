/- HallChecks: the walk. -/
import Derived.Test.YtekieoamelahkaaGreatM40
import Derived.Test.YtekieoamelahkaaGreatM42
import Derived.Test.YtekieoamelahkaaGreatM43
import Derived.Test.YtekieoamelahkaaGreatM51
import Derived.Test.YtekieoamelahkaaGreatM38
set_option linter.unusedVariables false
set_option linter.unusedSimpArgs false
namespace Go.Proofs.YtekieoamelahkaaGreat
open Go.RowKit Go.Shelf
attribute [local go_sem] Oper.semAt_some

set_option maxRecDepth 100000 in set_option maxHeartbeats 8000000 in
theorem HallChecks_any {w : World} {H : Hal} {v4 v5 v6 v7 v8 : Value} (hV : HalW w v4 v5 v6 v7 v8 H) :
 Calls Tryz.prog 3 #[halV H v4 v5 v6 v7 v8] w (fun e w' => e = .returned (.bool true) ∧ Below w.heap.size w w') := by
 have HF := hidden (fun (W : World) (hW : Below w.heap.size w W) => Few_any (hV.below hW))
 have HG := hidden (fun (h : fewB H = true) => hV.few h)
 obtain ⟨g4, g5, g6, g7, g8⟩ := hV
 obtain ⟨A4, c4, rfl, _⟩ := slcW_form g4
 obtain ⟨A5, c5, rfl, _⟩ := slcW_form g5
 obtain ⟨A6, c6, rfl, _⟩ := slcW_form g6
 obtain ⟨A7, c7, rfl, _⟩ := slcW_form g7
 obtain ⟨A8, c8, rfl, _⟩ := slcW_form g8
 clear g4 g5 g6 g7 g8
 unfold halV at HF
 refine (callsIn_wide (n := 10)).1 ?_
 refine callsIn_of_wp Tryz.func3 rfl trivial ?_ rfl
 unfold halV
 simp only [Tryz.ntmps3, nt, Nat.reduceAdd, Nat.reduceSub]
 gi_wp2
 (refine ⟨trivial, ?_⟩; ((with_reducible refine (callsIn_wide.2 (awake_true _)).mono ?_); rintro e w' ⟨rfl, za, rfl⟩))
 gi_wp2
 cases hf : fewB H with
 | false =>
  rw [hf] at HF
  (refine ⟨trivial, ?_⟩; ((with_reducible refine (callsIn_wide.2 (HF.out _ ?hk)).mono ?_); (case hk => (repeat' first | with_reducible (first | apply bz0 | assumption | apply bz1 | apply bz2 | apply bz3 | apply bz4 | apply bz5) | (simp <;> omega))); rintro e w' ⟨rfl, zf, rfl⟩))
  gi_wp2
  exact bodyPost_ret (v := .bool true) (by simp [results, Tryz.results3, go_sem]) rfl ⟨rfl, by (repeat' first | with_reducible (first | apply bz0 | assumption | apply bz1 | apply bz2 | apply bz3 | apply bz4 | apply bz5) | (simp <;> omega))⟩
 | true =>
  rw [hf] at HF
  have hVs := HG.out hf
  have HCo := hidden (fun (W : World) (hW : Below w.heap.size w W) => Copy_any (hVs.below hW))
  have HRc := hidden (fun (W : World) (hW : Below w.heap.size w W) => refCheckHall_any (hVs.below hW))
  have HRs := hidden (fun (hw : H.wals.length ≤ 1000) (hc : H.cans.length ≤ 1000) (W : World) (hW : Below w.heap.size w W) => refSurfaces_any (hVs.below hW) hw hc)
  have HCh : Hid (∀ (W : World) (u4 u5 u6 u7 u8 : Value), HalVs W u4 u5 u6 u7 u8 H → Calls Tryz.prog 17 #[halV H u4 u5 u6 u7 u8] W (RetX W (markV (hallF H)))) := fun W _ _ _ _ _ h => CheckHall_any h
  have HSb : Hid (∀ (W : World) (u4 u5 u6 u7 u8 : Value), (hallF H).2.2 ≠ 0 → HalVs W u4 u5 u6 u7 u8 H → Calls Tryz.prog 19 #[halV H u4 u5 u6 u7 u8] W (RetX W (.tuple #[.slice none 0 0, .int .i64 (hallF H).2.2]))) := fun W _ _ _ _ _ hE h => Surfaces_bad h hE
  have HSg : Hid (∀ (W : World) (u4 u5 u6 u7 u8 : Value), (hallF H).2.2 = 0 → HalVs W u4 u5 u6 u7 u8 H → H.wals.length ≤ 1000 → H.cans.length ≤ 1000 → Calls Tryz.prog 19 #[halV H u4 u5 u6 u7 u8] W (fun e w' => Below W.heap.size W w' ∧ ∃ v, e = .returned (.tuple #[v, .int .i64 0]) ∧ SlcAt encStr w' v (surfN H))) := fun W _ _ _ _ _ hE h hw hc => Surfaces_good h hE hw hc
  have hwl : H.wals.length ≤ 1000 ∧ H.cans.length ≤ 1000 := by
   unfold fewB at hf
   simp only [Bool.and_eq_true] at hf
   have := few_sizes hf.1
   omega
  clear HG hVs
  unfold halV markV at *
  generalize hallF H = F at *
  obtain ⟨fl, fn, z⟩ := F
  simp only at *
  (refine ⟨trivial, ?_⟩; ((with_reducible refine (callsIn_wide.2 (HF.out _ ?hk)).mono ?_); (case hk => (repeat' first | with_reducible (first | apply bz0 | assumption | apply bz1 | apply bz2 | apply bz3 | apply bz4 | apply bz5) | (simp <;> omega))); rintro e w' ⟨rfl, zf, rfl⟩))
  clear HF hf
  gi_wp2
  generalize hWb : World.ext _ zf = Wb
  have x0 : Wb.cell? ⟨w.heap.size, 0, none⟩ = some (.string H.name) := by rw [← hWb]; simp [go_sem]
  have x1 : Wb.cell? ⟨w.heap.size, 1, none⟩ = some (.int .i64 H.height) := by rw [← hWb]; simp [go_sem]
  have x2 : Wb.cell? ⟨w.heap.size, 2, none⟩ = some (.string H.floor) := by rw [← hWb]; simp [go_sem]
  have x3 : Wb.cell? ⟨w.heap.size, 3, none⟩ = some (.string H.ceil) := by rw [← hWb]; simp [go_sem]
  have x4 : Wb.cell? ⟨w.heap.size, 4, none⟩ = some (.slice A4 H.mats.length c4) := by rw [← hWb]; simp [go_sem]
  have x5 : Wb.cell? ⟨w.heap.size, 5, none⟩ = some (.slice A5 H.cors.length c5) := by rw [← hWb]; simp [go_sem]
  have x6 : Wb.cell? ⟨w.heap.size, 6, none⟩ = some (.slice A6 H.wals.length c6) := by rw [← hWb]; simp [go_sem]
  have x7 : Wb.cell? ⟨w.heap.size, 7, none⟩ = some (.slice A7 H.cans.length c7) := by rw [← hWb]; simp [go_sem]
  have x8 : Wb.cell? ⟨w.heap.size, 8, none⟩ = some (.slice A8 H.seas.length c8) := by rw [← hWb]; simp [go_sem]
  have BWb : Below w.heap.size w Wb := by rw [← hWb]; (repeat' first | with_reducible (first | apply bz0 | assumption | apply bz1 | apply bz2 | apply bz3 | apply bz4 | apply bz5) | (simp <;> omega))
  clear hWb
  have gx := has_of_cell x0
  (refine ⟨trivial, ?_⟩; ((with_reducible refine (callsIn_wide.2 (HCo.out _ BWb)).mono ?_); rintro e w1 ⟨hB1, u4, u5, u6, u7, u8, rfl, hV1⟩))
  have C1 : Below w.heap.size w w1 := BWb.trans (hB1.lower BWb.size)
  replace x0 := cell_below hB1 gx x0
  replace x1 := cell_below hB1 gx x1
  replace x2 := cell_below hB1 gx x2
  replace x3 := cell_below hB1 gx x3
  replace x4 := cell_below hB1 gx x4
  replace x5 := cell_below hB1 gx x5
  replace x6 := cell_below hB1 gx x6
  replace x7 := cell_below hB1 gx x7
  replace x8 := cell_below hB1 gx x8
  replace gx := has_of_cell x0
  clear hB1 BWb
  gi_wp2
  (refine ⟨trivial, ?_⟩; ((with_reducible refine (callsIn_wide.2 (HCh.out _ _ _ _ _ _ hV1)).mono ?_); rintro e w' ⟨rfl, z1, rfl⟩))
  gi_wp2
  have l1 := C1.size
  generalize hWm : World.alloc _ _ = Wm
  have BWm : Below w.heap.size w Wm := by rw [← hWm]; (repeat' first | with_reducible (first | apply bz0 | assumption | apply bz1 | apply bz2 | apply bz3 | apply bz4 | apply bz5) | (simp <;> omega))
  have BWm1 : Below w1.heap.size w1 Wm := by rw [← hWm]; (repeat' first | with_reducible (first | apply bz0 | assumption | apply bz1 | apply bz2 | apply bz3 | apply bz4 | apply bz5) | (simp <;> omega))
  have n0 : Wm.cell? ⟨w1.heap.size + z1.heap.size, 0, none⟩ = some (.int .i64 fl) := by rw [← hWm]; simp [go_sem]
  have n1 : Wm.cell? ⟨w1.heap.size + z1.heap.size, 1, none⟩ = some (.int .i64 fn) := by rw [← hWm]; simp [go_sem]
  generalize w1.heap.size + z1.heap.size = M at *
  clear hWm
  have gn := has_of_cell n0
  replace x0 := cell_below BWm1 gx x0
  replace x1 := cell_below BWm1 gx x1
  replace x2 := cell_below BWm1 gx x2
  replace x3 := cell_below BWm1 gx x3
  replace x4 := cell_below BWm1 gx x4
  replace x5 := cell_below BWm1 gx x5
  replace x6 := cell_below BWm1 gx x6
  replace x7 := cell_below BWm1 gx x7
  replace x8 := cell_below BWm1 gx x8
  replace gx := has_of_cell x0
  clear BWm1 hV1 C1 l1
  (refine ⟨trivial, ?_⟩; ((with_reducible refine (callsIn_wide.2 (HCo.out _ BWm)).mono ?_); rintro e w2 ⟨hB2, t4, t5, t6, t7, t8, rfl, hV2⟩))
  have C2 : Below w.heap.size w w2 := BWm.trans (hB2.lower BWm.size)
  replace x0 := cell_below hB2 gx x0
  replace x1 := cell_below hB2 gx x1
  replace x2 := cell_below hB2 gx x2
  replace x3 := cell_below hB2 gx x3
  replace x4 := cell_below hB2 gx x4
  replace x5 := cell_below hB2 gx x5
  replace x6 := cell_below hB2 gx x6
  replace x7 := cell_below hB2 gx x7
  replace x8 := cell_below hB2 gx x8
  replace n0 := cell_below hB2 gn n0
  replace n1 := cell_below hB2 gn n1
  replace gx := has_of_cell x0
  replace gn := has_of_cell n0
  clear hB2 BWm HCo HCh
  gi_wp2
  by_cases hz : z = 0
  · subst hz
    (refine ⟨trivial, ?_⟩; ((with_reducible refine (callsIn_wide.2 (HSg.out _ _ _ _ _ _ rfl hV2 hwl.1 hwl.2)).mono ?_); rintro e w3 ⟨hB3, v, rfl, hSv⟩))
    have C3 : Below w.heap.size w w3 := C2.trans (hB3.lower C2.size)
    replace x0 := cell_below hB3 gx x0
    replace x1 := cell_below hB3 gx x1
    replace x2 := cell_below hB3 gx x2
    replace x3 := cell_below hB3 gx x3
    replace x4 := cell_below hB3 gx x4
    replace x5 := cell_below hB3 gx x5
    replace x6 := cell_below hB3 gx x6
    replace x7 := cell_below hB3 gx x7
    replace x8 := cell_below hB3 gx x8
    replace n0 := cell_below hB3 gn n0
    replace n1 := cell_below hB3 gn n1
    replace gx := has_of_cell x0
    replace gn := has_of_cell n0
    obtain ⟨Dv, ev, rfl, hSv'⟩ := slc_form hSv
    clear hB3 C2 hV2 HSg HSb hSv
    gi_wp2
    (refine ⟨trivial, ?_⟩; ((with_reducible refine (callsIn_wide.2 (HRc.out _ ?hk)).mono ?_); (case hk => (repeat' first | with_reducible (first | apply bz0 | assumption | apply bz1 | apply bz2 | apply bz3 | apply bz4 | apply bz5) | (simp <;> omega))); rintro e w' ⟨rfl, z3, rfl⟩))
    gi_wp2
    have l3 := C3.size
    (refine ⟨trivial, ?_⟩; ((with_reducible refine (callsIn_wide.2 (HRs.out hwl.1 hwl.2 _ ?hk)).mono ?_); (case hk => (repeat' first | with_reducible (first | apply bz0 | assumption | apply bz1 | apply bz2 | apply bz3 | apply bz4 | apply bz5) | (simp <;> omega))); rintro e w4 ⟨hB4, v2, rfl, hS2⟩))
    obtain ⟨Ev, fv, rfl, hS2'⟩ := slc_form hS2
    have hT := Texts_any (surfN H) (surfN H) _ _ _ _ w4 ((hSv'.below (show Below w3.heap.size w3 _ by (repeat' first | with_reducible (first | apply bz0 | assumption | apply bz1 | apply bz2 | apply bz3 | apply bz4 | apply bz5) | (simp <;> omega)))).below hB4) hS2'
    rw [decide_eq_true (rfl : surfN H = surfN H)] at hT
    have C4 : Below w.heap.size w w4 := (show Below w.heap.size w _ by (repeat' first | with_reducible (first | apply bz0 | assumption | apply bz1 | apply bz2 | apply bz3 | apply bz4 | apply bz5) | (simp <;> omega))).trans (hB4.lower (by simp; omega))
    clear hS2 hS2' hSv' hB4
    gi_wp2
    (refine ⟨trivial, ?_⟩; ((with_reducible refine (callsIn_wide.2 hT).mono ?_); rintro e w' ⟨rfl, z4, rfl⟩))
    gi_wp2
    exact bodyPost_ret (v := .bool true) (by simp [results, Tryz.results3, go_sem]) rfl ⟨rfl, by have := C4.size; (repeat' first | with_reducible (first | apply bz0 | assumption | apply bz1 | apply bz2 | apply bz3 | apply bz4 | apply bz5) | (simp <;> omega))⟩
  · (refine ⟨trivial, ?_⟩; ((with_reducible refine (callsIn_wide.2 (HSb.out _ _ _ _ _ _ hz hV2)).mono ?_); rintro e w' ⟨rfl, z2, rfl⟩))
    have l2 := C2.size
    have q1 : (z != 0) = true := by simp [hz]
    have q2 : (z == 0) = false := by simp [hz]
    clear hV2 HSg HSb
    gi_wp2
    (refine ⟨trivial, ?_⟩; ((with_reducible refine (callsIn_wide.2 (HRc.out _ ?hk)).mono ?_); (case hk => (repeat' first | with_reducible (first | apply bz0 | assumption | apply bz1 | apply bz2 | apply bz3 | apply bz4 | apply bz5) | (simp <;> omega))); rintro e w' ⟨rfl, z3, rfl⟩))
    gi_wp2
    trace_state
    exact bodyPost_ret (v := .bool true) (by simp [results, Tryz.results3, go_sem]) rfl ⟨rfl, by (repeat' first | with_reducible (first | apply bz0 | assumption | apply bz1 | apply bz2 | apply bz3 | apply bz4 | apply bz5) | (simp <;> omega))⟩
end Go.Proofs.YtekieoamelahkaaGreat
