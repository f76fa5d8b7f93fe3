/- The reference's InBounds and Edges of a canopy. -/
import Derived.Test.YtekieoamelahkaaGreatM36
import Derived.Test.YtekieoamelahkaaGreatM26
import Derived.Test.YtekieoamelahkaaGreatM48
import Derived.Test.YtekieoamelahkaaGreatM49
import Derived.Test.YtekieoamelahkaaGreatM45
import Derived.Test.YtekieoamelahkaaGreatM38
import Derived.Test.YtekieoamelahkaaGreatM35
set_option linter.unusedVariables false
set_option linter.unusedSimpArgs false
namespace Go.Proofs.YtekieoamelahkaaGreat
open Go.RowKit Go.Shelf
attribute [local go_sem] Oper.semAt_some

set_option maxRecDepth 100000 in set_option maxHeartbeats 4000000 in
theorem InBounds_any (na ma : ByteArray) (a b c d : Int) (v : Value) (hv : ∃ A n c, v = .slice A n c) (px py pz e : Int) (w : World)
 (h1 : -5000 ≤ a ∧ a ≤ 5000) (h2 : -5000 ≤ b ∧ b ≤ 5000) (h3 : -5000 ≤ c ∧ c ≤ 5000) (h4 : -5000 ≤ d ∧ d ≤ 5000) (hx : a ≠ c) (hy : b ≠ d) (he : 0 ≤ e ∧ e ≤ 100000000000) :
 Calls Tryz.prog 141 #[canV na ma a b c d v, .agg #[.int .i64 px, .int .i64 py, .int .i64 pz, .int .i64 e]] w (RetX w (.bool (inBd a b c d px py e))) := by
 obtain ⟨A7, n7, c7, rfl⟩ := hv
 have hI : Hid (inBd a b c d px py e = (wiB px (min a c * e) (max a c * e) && wiB py (min b d * e) (max b d * e))) := rfl
 have m1 := mul_bd (a := a) (A := 5000) ⟨by omega, by omega⟩ he (by omega)
 have m2 := mul_bd (a := b) (A := 5000) ⟨by omega, by omega⟩ he (by omega)
 have m3 := mul_bd (a := c) (A := 5000) ⟨by omega, by omega⟩ he (by omega)
 have m4 := mul_bd (a := d) (A := 5000) ⟨by omega, by omega⟩ he (by omega)
 have e1 : IntKind.i64.wrap (a * e) = a * e := IntWalk.i64_in _ (by omega)
 have e2 : IntKind.i64.wrap (b * e) = b * e := IntWalk.i64_in _ (by omega)
 have e3 : IntKind.i64.wrap (c * e) = c * e := IntWalk.i64_in _ (by omega)
 have e4 : IntKind.i64.wrap (d * e) = d * e := IntWalk.i64_in _ (by omega)
 rw [hI.out]
 clear hI m1 m2 m3 m4 h1 h2 h3 h4 he
 unfold canV
 rcases Int.lt_or_gt_of_ne hx with gx | gx <;> rcases Int.lt_or_gt_of_ne hy with gy | gy
 · rw [show min a c = a by omega, show max a c = c by omega, show min b d = b by omega, show max b d = d by omega]
   have HW1 := hidden (fun W => Within_any px (a * e) (c * e) W)
   have HW2 := hidden (fun W => Within_any py (b * e) (d * e) W)
   generalize wiB px (a * e) (c * e) = q1 at *
   generalize wiB py (b * e) (d * e) = q2 at *
   clear hx hy
   cases q1 with
   | true =>
    refine (callsIn_wide (n := 10)).1 ?_
    refine callsIn_of_wp Tryz.func141 rfl trivial ?_ rfl
    simp only [Tryz.ntmps141, nt, Nat.reduceAdd, Nat.reduceSub]
    gi_wp2
    (refine ⟨trivial, ?_⟩; ((with_reducible refine (callsIn_wide.2 (HW1.out _)).mono ?_); rintro e w' ⟨rfl, z1, rfl⟩))
    gi_wp2
    (refine ⟨trivial, ?_⟩; ((with_reducible refine (callsIn_wide.2 (HW2.out _)).mono ?_); rintro e w' ⟨rfl, z2, rfl⟩))
    gi_wp2
    refine bodyPost_ret (v := .bool q2) (by simp [results, Tryz.results141, go_sem]) rfl (retX (by simp) (by (repeat' first | with_reducible (first | apply bz0 | assumption | apply bz1 | apply bz2 | apply bz3 | apply bz4 | apply bz5) | (simp <;> omega))))
   | false =>
    refine (callsIn_wide (n := 10)).1 ?_
    refine callsIn_of_wp Tryz.func141 rfl trivial ?_ rfl
    simp only [Tryz.ntmps141, nt, Nat.reduceAdd, Nat.reduceSub]
    gi_wp2
    (refine ⟨trivial, ?_⟩; ((with_reducible refine (callsIn_wide.2 (HW1.out _)).mono ?_); rintro e w' ⟨rfl, z1, rfl⟩))
    gi_wp2
    refine ⟨trivial, ?_⟩
    gi_wp2
    refine bodyPost_ret (v := .bool false) (by simp [results, Tryz.results141, go_sem]) rfl (retX (by simp) (by (repeat' first | with_reducible (first | apply bz0 | assumption | apply bz1 | apply bz2 | apply bz3 | apply bz4 | apply bz5) | (simp <;> omega))))
 · rw [show min a c = a by omega, show max a c = c by omega, show min b d = d by omega, show max b d = b by omega]
   have HW1 := hidden (fun W => Within_any px (a * e) (c * e) W)
   have HW2 := hidden (fun W => Within_any py (d * e) (b * e) W)
   generalize wiB px (a * e) (c * e) = q1 at *
   generalize wiB py (d * e) (b * e) = q2 at *
   clear hx hy
   cases q1 with
   | true =>
    refine (callsIn_wide (n := 10)).1 ?_
    refine callsIn_of_wp Tryz.func141 rfl trivial ?_ rfl
    simp only [Tryz.ntmps141, nt, Nat.reduceAdd, Nat.reduceSub]
    gi_wp2
    (refine ⟨trivial, ?_⟩; ((with_reducible refine (callsIn_wide.2 (HW1.out _)).mono ?_); rintro e w' ⟨rfl, z1, rfl⟩))
    gi_wp2
    (refine ⟨trivial, ?_⟩; ((with_reducible refine (callsIn_wide.2 (HW2.out _)).mono ?_); rintro e w' ⟨rfl, z2, rfl⟩))
    gi_wp2
    refine bodyPost_ret (v := .bool q2) (by simp [results, Tryz.results141, go_sem]) rfl (retX (by simp) (by (repeat' first | with_reducible (first | apply bz0 | assumption | apply bz1 | apply bz2 | apply bz3 | apply bz4 | apply bz5) | (simp <;> omega))))
   | false =>
    refine (callsIn_wide (n := 10)).1 ?_
    refine callsIn_of_wp Tryz.func141 rfl trivial ?_ rfl
    simp only [Tryz.ntmps141, nt, Nat.reduceAdd, Nat.reduceSub]
    gi_wp2
    (refine ⟨trivial, ?_⟩; ((with_reducible refine (callsIn_wide.2 (HW1.out _)).mono ?_); rintro e w' ⟨rfl, z1, rfl⟩))
    gi_wp2
    refine ⟨trivial, ?_⟩
    gi_wp2
    refine bodyPost_ret (v := .bool false) (by simp [results, Tryz.results141, go_sem]) rfl (retX (by simp) (by (repeat' first | with_reducible (first | apply bz0 | assumption | apply bz1 | apply bz2 | apply bz3 | apply bz4 | apply bz5) | (simp <;> omega))))
 · rw [show min a c = c by omega, show max a c = a by omega, show min b d = b by omega, show max b d = d by omega]
   have HW1 := hidden (fun W => Within_any px (c * e) (a * e) W)
   have HW2 := hidden (fun W => Within_any py (b * e) (d * e) W)
   generalize wiB px (c * e) (a * e) = q1 at *
   generalize wiB py (b * e) (d * e) = q2 at *
   clear hx hy
   cases q1 with
   | true =>
    refine (callsIn_wide (n := 10)).1 ?_
    refine callsIn_of_wp Tryz.func141 rfl trivial ?_ rfl
    simp only [Tryz.ntmps141, nt, Nat.reduceAdd, Nat.reduceSub]
    gi_wp2
    (refine ⟨trivial, ?_⟩; ((with_reducible refine (callsIn_wide.2 (HW1.out _)).mono ?_); rintro e w' ⟨rfl, z1, rfl⟩))
    gi_wp2
    (refine ⟨trivial, ?_⟩; ((with_reducible refine (callsIn_wide.2 (HW2.out _)).mono ?_); rintro e w' ⟨rfl, z2, rfl⟩))
    gi_wp2
    refine bodyPost_ret (v := .bool q2) (by simp [results, Tryz.results141, go_sem]) rfl (retX (by simp) (by (repeat' first | with_reducible (first | apply bz0 | assumption | apply bz1 | apply bz2 | apply bz3 | apply bz4 | apply bz5) | (simp <;> omega))))
   | false =>
    refine (callsIn_wide (n := 10)).1 ?_
    refine callsIn_of_wp Tryz.func141 rfl trivial ?_ rfl
    simp only [Tryz.ntmps141, nt, Nat.reduceAdd, Nat.reduceSub]
    gi_wp2
    (refine ⟨trivial, ?_⟩; ((with_reducible refine (callsIn_wide.2 (HW1.out _)).mono ?_); rintro e w' ⟨rfl, z1, rfl⟩))
    gi_wp2
    refine ⟨trivial, ?_⟩
    gi_wp2
    refine bodyPost_ret (v := .bool false) (by simp [results, Tryz.results141, go_sem]) rfl (retX (by simp) (by (repeat' first | with_reducible (first | apply bz0 | assumption | apply bz1 | apply bz2 | apply bz3 | apply bz4 | apply bz5) | (simp <;> omega))))
 · rw [show min a c = c by omega, show max a c = a by omega, show min b d = d by omega, show max b d = b by omega]
   have HW1 := hidden (fun W => Within_any px (c * e) (a * e) W)
   have HW2 := hidden (fun W => Within_any py (d * e) (b * e) W)
   generalize wiB px (c * e) (a * e) = q1 at *
   generalize wiB py (d * e) (b * e) = q2 at *
   clear hx hy
   cases q1 with
   | true =>
    refine (callsIn_wide (n := 10)).1 ?_
    refine callsIn_of_wp Tryz.func141 rfl trivial ?_ rfl
    simp only [Tryz.ntmps141, nt, Nat.reduceAdd, Nat.reduceSub]
    gi_wp2
    (refine ⟨trivial, ?_⟩; ((with_reducible refine (callsIn_wide.2 (HW1.out _)).mono ?_); rintro e w' ⟨rfl, z1, rfl⟩))
    gi_wp2
    (refine ⟨trivial, ?_⟩; ((with_reducible refine (callsIn_wide.2 (HW2.out _)).mono ?_); rintro e w' ⟨rfl, z2, rfl⟩))
    gi_wp2
    refine bodyPost_ret (v := .bool q2) (by simp [results, Tryz.results141, go_sem]) rfl (retX (by simp) (by (repeat' first | with_reducible (first | apply bz0 | assumption | apply bz1 | apply bz2 | apply bz3 | apply bz4 | apply bz5) | (simp <;> omega))))
   | false =>
    refine (callsIn_wide (n := 10)).1 ?_
    refine callsIn_of_wp Tryz.func141 rfl trivial ?_ rfl
    simp only [Tryz.ntmps141, nt, Nat.reduceAdd, Nat.reduceSub]
    gi_wp2
    (refine ⟨trivial, ?_⟩; ((with_reducible refine (callsIn_wide.2 (HW1.out _)).mono ?_); rintro e w' ⟨rfl, z1, rfl⟩))
    gi_wp2
    refine ⟨trivial, ?_⟩
    gi_wp2
    refine bodyPost_ret (v := .bool false) (by simp [results, Tryz.results141, go_sem]) rfl (retX (by simp) (by (repeat' first | with_reducible (first | apply bz0 | assumption | apply bz1 | apply bz2 | apply bz3 | apply bz4 | apply bz5) | (simp <;> omega))))
end Go.Proofs.YtekieoamelahkaaGreat

/- The reference's check of a canopy: canopyErr. -/
namespace Go.Proofs.YtekieoamelahkaaGreat
open Go.RowKit Go.Shelf
attribute [local go_sem] Oper.semAt_some

set_option maxRecDepth 100000 in set_option maxHeartbeats 16000000 in
theorem canopyErr_any {w : World} {H : Hal} {v4 v5 v6 v7 v8 : Value} (hV : HalVs w v4 v5 v6 v7 v8 H) (hC : CorsIn H) (hL : LinesOk H) (hN : H.wals.length = H.cors.length) (hh : 2 ≤ H.height ∧ H.height ≤ 5000) (i : Nat) (hi : i < H.cans.length) :
 Calls Tryz.prog 84 #[halV H v4 v5 v6 v7 v8, .int .i64 i] w (RetX w (.int .i64 (canE H (msOf H) (fs1 H) i))) := by
 have HP := hidden (fun (W : World) (hW : Below w.heap.size w W) (px py : Int) (hp : -5000 ≤ px ∧ px ≤ 5000) (hq : -5000 ≤ py ∧ py ≤ 5000) => InPlan_any (hV.below hW) hC hL hN px py 0 1 (by omega) (by omega) (by decide))
 have HLn := hidden (fun (W : World) (hW : Below w.heap.size w W) (j : Nat) (hj : j < H.cors.length) => LineOf_any (hV.below hW) hC j hj)
 have HTo := hidden (fun (W : World) (a b c d : Int) (h1 : -5000 ≤ a ∧ a ≤ 5000) (h2 : -5000 ≤ b ∧ b ≤ 5000) (h3 : -5000 ≤ c ∧ c ≤ 5000) (h4 : -5000 ≤ d ∧ d ≤ 5000) (hx : a ≠ c) (hy : b ≠ d) (k j : Nat) (hk : k < 4) (hj : j < H.cors.length) => touch_any (egX a b c d k) (egY a b c d k) (egDX a b c d k) (egDY a b c d k) (lnX H j) (lnY H j) (lnDX H j) (lnDY H j) W (eg_ok h1 h2 h3 h4 hx hy hk) (hL j hj) (by unfold egX; split <;> omega) (by unfold egY; split <;> omega) (ln_bd hC hj).1 (ln_bd hC hj).2.1)
 have HM := hidden (fun (W : World) (hW : Below w.heap.size w W) (nm : ByteArray) => refMaterial_any (hV.below hW) nm)
 have HE : Hid (canE H (msOf H) (fs1 H) i = if nameB (canAt H.cans i).name = false then 4 else if hasName (fs1 H ++ canNames H i) (canAt H.cans i).name = true then 5 else if hasName (msOf H) (canAt H.cans i).mat = false then 6
  else if heightsE H.height (canAt H.cans i).hs ≠ 0 then heightsE H.height (canAt H.cans i).hs else shtE H (canAt H.cans i).f.x (canAt H.cans i).f.y (canAt H.cans i).t.x (canAt H.cans i).t.y) := rfl
 have HT1 := hidden (fun (j : Nat) (hj : j < H.wals.length) (h : ((walAt H.wals j).name.toList == (canAt H.cans i).name.toList) = true) => walAll_stop hj h)
 have HU1 := hidden (fun (h : ∀ j, j < H.wals.length → ((walAt H.wals j).name.toList == (canAt H.cans i).name.toList) = false) => walAll_end h)
 have HT2 := hidden (fun (j : Nat) (hj : j < i) (h : ((canAt H.cans j).name.toList == (canAt H.cans i).name.toList) = true) => can_stop hi hj h)
 have HU2 := hidden (fun (h : ∀ j, j < i → ((canAt H.cans j).name.toList == (canAt H.cans i).name.toList) = false) => can_end hi h)
 have HN := hidden (fun (W : World) => refIsName_any (canAt H.cans i).name (can_hsized hV.sized i hi) W)
 have hCx := hidden (fun (j : Nat) (hj : j < H.cors.length) => ln_bd hC hj)
 have hFr := hidden (fun (a b c d : Int) h1 h2 h3 h4 hx hy => frame_eq hL (a := a) (b := b) (c := c) (d := d) h1 h2 h3 h4 hx hy)
 have hNh := hidden hN
 clear hC hL hN
 obtain ⟨_, g4, g5, g6, g7, g8⟩ := hV
 obtain ⟨A4, c4, rfl, _⟩ := slc_form g4
 obtain ⟨A5, c5, rfl, hS5⟩ := slc_form g5
 obtain ⟨A6, c6, rfl, hS6⟩ := slc_form g6
 obtain ⟨A7, c7, rfl, hS7⟩ := slc_form g7
 obtain ⟨A8, c8, rfl, _⟩ := slc_form g8
 have l6 := hS6.1
 have l7 := hS7.1
 have l5 := hS5.1
 clear g4 g5 g6 g7 g8
 obtain ⟨g, o, rfl, hg, hcs⟩ := can_at hS7 hi
 obtain ⟨k0, k1, k2, k3, k4, k5, A', c', k6, hHs⟩ := hcs i hi
 unfold halV at *
 generalize hSi : canAt H.cans i = si at *
 obtain ⟨nm, mt, ⟨fx, fy⟩, ⟨tx, ty⟩, hs⟩ := si
 simp only at *
 have lh := hHs.1
 rw [can_has] at HE
 refine (callsIn_wide (n := 10)).1 ?_
 refine callsIn_of_wp Tryz.func84 rfl trivial ?_ rfl
 simp only [Tryz.ntmps84, nt, Nat.reduceAdd, Nat.reduceSub]
 cases p0 : nameB nm with
 | false =>
  have hz : Hid (canE H (msOf H) (fs1 H) i = 4) := by unfold Hid; rw [HE.out, p0]; rfl
  rw [p0] at HN
  clear HE
  gi_wp2
  (refine ⟨trivial, ?_⟩; ((with_reducible refine (callsIn_wide.2 (HN.out _)).mono ?_); rintro e w' ⟨rfl, x1, rfl⟩))
  gi_wp2
  refine bodyPost_ret (v := .int .i64 4) (by simp [results, Tryz.results84, go_sem]) rfl (retX (by rw [hz.out]) (by (repeat' first | with_reducible (first | apply bz0 | assumption | apply bz1 | apply bz2 | apply bz3 | apply bz4 | apply bz5) | (simp <;> omega))))
 | true =>
  rw [p0] at HN HE
  simp only [Bool.true_eq_false, if_false] at HE
  cases q1 : (nm.toList == [102, 108, 111, 111, 114]) with
  | true =>
   have hz : Hid (canE H (msOf H) (fs1 H) i = 5) := by unfold Hid; rw [HE.out, q1]; rfl
   clear HE
   gi_wp2
   (refine ⟨trivial, ?_⟩; ((with_reducible refine (callsIn_wide.2 (HN.out _)).mono ?_); rintro e w' ⟨rfl, x1, rfl⟩))
   gi_wp2
   refine bodyPost_ret (v := .int .i64 5) (by simp [results, Tryz.results84, go_sem]) rfl (retX (by rw [hz.out]) (by (repeat' first | with_reducible (first | apply bz0 | assumption | apply bz1 | apply bz2 | apply bz3 | apply bz4 | apply bz5) | (simp <;> omega))))
  | false =>
   cases q2 : (nm.toList == [99, 101, 105, 108, 105, 110, 103]) with
   | true =>
    have hz : Hid (canE H (msOf H) (fs1 H) i = 5) := by unfold Hid; rw [HE.out, q1, q2]; rfl
    clear HE
    gi_wp2
    (refine ⟨trivial, ?_⟩; ((with_reducible refine (callsIn_wide.2 (HN.out _)).mono ?_); rintro e w' ⟨rfl, x1, rfl⟩))
    gi_wp2
    refine bodyPost_ret (v := .int .i64 5) (by simp [results, Tryz.results84, go_sem]) rfl (retX (by rw [hz.out]) (by (repeat' first | with_reducible (first | apply bz0 | assumption | apply bz1 | apply bz2 | apply bz3 | apply bz4 | apply bz5) | (simp <;> omega))))
   | false =>
    rw [q1, q2] at HE
    simp only [Bool.false_or] at HE
    gi_wp2
    (refine ⟨trivial, ?_⟩; ((with_reducible refine (callsIn_wide.2 (HN.out _)).mono ?_); rintro e w' ⟨rfl, x1, rfl⟩))
    gi_wp2
    generalize hX : World.ext _ x1 = X
    have x0 : X.cell? ⟨w.heap.size, 0, none⟩ = some (.string H.name) := by rw [← hX]; simp [go_sem]
    have x1 : X.cell? ⟨w.heap.size, 1, none⟩ = some (.int .i64 H.height) := by rw [← hX]; simp [go_sem]
    have x2 : X.cell? ⟨w.heap.size, 2, none⟩ = some (.string H.floor) := by rw [← hX]; simp [go_sem]
    have x3 : X.cell? ⟨w.heap.size, 3, none⟩ = some (.string H.ceil) := by rw [← hX]; simp [go_sem]
    have x4 : X.cell? ⟨w.heap.size, 4, none⟩ = some (.slice A4 H.mats.length c4) := by rw [← hX]; simp [go_sem]
    have x5 : X.cell? ⟨w.heap.size, 5, none⟩ = some (.slice A5 H.cors.length c5) := by rw [← hX]; simp [go_sem]
    have x6 : X.cell? ⟨w.heap.size, 6, none⟩ = some (.slice A6 H.wals.length c6) := by rw [← hX]; simp [go_sem]
    have x7 : X.cell? ⟨w.heap.size, 7, none⟩ = some (.slice (some ⟨g, o, none⟩) H.cans.length c7) := by rw [← hX]; simp [go_sem]
    have x8 : X.cell? ⟨w.heap.size, 8, none⟩ = some (.slice A8 H.seas.length c8) := by rw [← hX]; simp [go_sem]
    have y0 : X.cell? ⟨w.heap.size + 1, 0, none⟩ = some (.string nm) := by rw [← hX]; simp [go_sem]
    have y1 : X.cell? ⟨w.heap.size + 1, 1, none⟩ = some (.string mt) := by rw [← hX]; simp [go_sem]
    have y2 : X.cell? ⟨w.heap.size + 1, 2, none⟩ = some (.int .i64 fx) := by rw [← hX]; simp [go_sem]
    have y3 : X.cell? ⟨w.heap.size + 1, 3, none⟩ = some (.int .i64 fy) := by rw [← hX]; simp [go_sem]
    have y4 : X.cell? ⟨w.heap.size + 1, 4, none⟩ = some (.int .i64 tx) := by rw [← hX]; simp [go_sem]
    have y5 : X.cell? ⟨w.heap.size + 1, 5, none⟩ = some (.int .i64 ty) := by rw [← hX]; simp [go_sem]
    have y6 : X.cell? ⟨w.heap.size + 1, 6, none⟩ = some (.slice A' hs.length c') := by rw [← hX]; simp [go_sem]
    have BX : Below w.heap.size w X := by rw [← hX]; (repeat' first | with_reducible (first | apply bz0 | assumption | apply bz1 | apply bz2 | apply bz3 | apply bz4 | apply bz5) | (simp <;> omega))
    have gx := has_of_cell x0
    have gy := has_of_cell y0
    have HX := hidden (fun (W : World) (hW : Below X.heap.size X W) => And.intro (cell_below hW gx x0) (And.intro (cell_below hW gx x1) (And.intro (cell_below hW gx x2) (And.intro (cell_below hW gx x3) (And.intro (cell_below hW gx x4) (And.intro (cell_below hW gx x5) (And.intro (cell_below hW gx x6) (And.intro (cell_below hW gx x7) (And.intro (cell_below hW gx x8) (And.intro (cell_below hW gy y0) (And.intro (cell_below hW gy y1) (And.intro (cell_below hW gy y2) (And.intro (cell_below hW gy y3) (And.intro (cell_below hW gy y4) (And.intro (cell_below hW gy y5) (cell_below hW gy y6))))))))))))))))
    clear hX k0 k1 k2 k3 k4 k5 k6 hcs hg HN x0 x1 x2 x3 x4 x5 x6 x7 x8 y0 y1 y2 y3 y4 y5 y6 gx gy
    gi_loopw [6] (fun i' wr => ∃ k : Nat, i' = .int .i64 k ∧ k ≤ H.wals.length ∧ Below X.heap.size X wr ∧ ∀ j, j < k → ((walAt H.wals j).name.toList == nm.toList) = false) (fun i' _ => H.wals.length - (intOf i').toNat)
    case atStart => exact ⟨0, rfl, Nat.zero_le _, Below.refl _ _, fun j hj => absurd hj (Nat.not_lt_zero j)⟩
    case round =>
     obtain ⟨k, rfl, hk, hB, hno⟩ := hrel
     have hBw : Below w.heap.size w wr := BX.trans (hB.lower BX.size)
     have hgs := hBw.size
     obtain ⟨x0, x1, x2, x3, x4, x5, x6, x7, x8, y0, y1, y2, y3, y4, y5, y6⟩ := HX.out _ hB
     have gx := has_of_cell x0
     have gy := has_of_cell y0
     rcases Nat.lt_or_ge k H.wals.length with hlt | hge
     · obtain ⟨g', o', rfl, hg, hcs⟩ := wal_at (hS6.below hBw) hlt
       obtain ⟨k0, _, _⟩ := hcs k hlt
       have hst := hidden (HT1.out k hlt)
       have hgo : Hid (((walAt H.wals k).name.toList == nm.toList) = false → ∀ j, j < k + 1 → ((walAt H.wals j).name.toList == nm.toList) = false) := fun he j hj => by
        rcases Nat.lt_or_ge j k with h' | h'
        · exact hno j h'
        · obtain rfl : j = k := by omega
          exact he
       clear hcs hS5 hS6 hS7 hHs hno HT1 HU1 HT2 HU2 HP HLn HTo HM hCx hFr
       generalize (walAt H.wals k).name = n0 at *
       cases q : (n0.toList == nm.toList) with
       | true =>
        have hz : Hid (canE H (msOf H) (fs1 H) i = 5) := by unfold Hid; rw [HE.out, if_pos (by rw [hst.out q]; rfl)]
        clear HE hst
        gi_wp2
        refine wpIn_wide.2 ?_
        (refine tmX (by kernel_rfl) (by kernel_rfl) ?_); (repeat (first | (refine tmS rfl ?_; simp only [Act.put, List.setIfInBounds_toArray, List.set_cons_succ, List.set_cons_zero]) | (refine tmP rfl rfl rfl (fun K hK => ?_); go_big_quiet_op; refine hK _ ?_; clear hK K) | (refine tmE rfl rfl (fun K hK => ?_); go_big_op; (first | fail | skip); (refine hK _ _ rfl (ext_of_below (by (repeat' first | with_reducible (first | apply bz0 | assumption | apply bz1 | apply bz2 | apply bz3 | apply bz4 | apply bz5) | (simp <;> omega)))) ?_; clear hK K)))); (refine tmN ?_)
        gi_wp2
        refine bodyPost_ret (v := .int .i64 5) (by simp [results, Tryz.results84, go_sem]) rfl (retX (by rw [hz.out]) (hBw.trans ((show Below wr.heap.size wr _ by (repeat' first | with_reducible (first | apply bz0 | assumption | apply bz1 | apply bz2 | apply bz3 | apply bz4 | apply bz5) | (simp <;> omega))).lower hgs)))
       | false =>
        have hz := hidden (hgo.out q)
        clear HE hst
        gi_wp2
        refine wpIn_wide.2 ?_
        (refine tmX (by kernel_rfl) (by kernel_rfl) ?_); (repeat (first | (refine tmS rfl ?_; simp only [Act.put, List.setIfInBounds_toArray, List.set_cons_succ, List.set_cons_zero]) | (refine tmP rfl rfl rfl (fun K hK => ?_); go_big_quiet_op; refine hK _ ?_; clear hK K) | (refine tmE rfl rfl (fun K hK => ?_); go_big_op; (first | fail | skip); (refine hK _ _ rfl (ext_of_below (by (repeat' first | with_reducible (first | apply bz0 | assumption | apply bz1 | apply bz2 | apply bz3 | apply bz4 | apply bz5) | (simp <;> omega)))) ?_; clear hK K)))); (refine tmN ?_)
        gi_wp2
        exact ⟨⟨k + 1, by simp, by omega, hB.trans ((show Below wr.heap.size wr _ by (repeat' first | with_reducible (first | apply bz0 | assumption | apply bz1 | apply bz2 | apply bz3 | apply bz4 | apply bz5) | (simp <;> omega))).lower hB.size), hz.out⟩, by simp [intOf]; omega⟩
     · obtain rfl : k = H.wals.length := by omega
       have hU := HU1.out hno
       rw [hU] at HE
       simp only [Bool.false_or] at HE
       clear hU HU1 HT1 hno
       gi_wp2
       clear x0 x1 x2 x3 x4 x5 x6 x7 x8 y0 y1 y2 y3 y4 y5 y6 gx gy
       gi_loopw [7] (fun i' wr => ∃ k : Nat, i' = .int .i64 k ∧ k ≤ i ∧ Below X.heap.size X wr ∧ ∀ j, j < k → ((canAt H.cans j).name.toList == nm.toList) = false) (fun i' _ => i - (intOf i').toNat)
       case atStart => exact ⟨0, rfl, Nat.zero_le _, by assumption, fun j hj => absurd hj (Nat.not_lt_zero j)⟩
       case round =>
        clear hB hBw hgs
        obtain ⟨k, rfl, hk, hB, hno⟩ := hrel
        have hBw : Below w.heap.size w wr := BX.trans (hB.lower BX.size)
        have hgs := hBw.size
        obtain ⟨x0, x1, x2, x3, x4, x5, x6, x7, x8, y0, y1, y2, y3, y4, y5, y6⟩ := HX.out _ hB
        have gx := has_of_cell x0
        have gy := has_of_cell y0
        rcases Nat.lt_or_ge k i with hlt | hge
        · have hkl : k < H.cans.length := by omega
          obtain ⟨g', o', hgo, hg, hcs⟩ := can_at (hS7.below hBw) hkl
          cases hgo
          obtain ⟨k0, _, _, _, _, _, _, _, _, _⟩ := hcs k hkl
          have hst := hidden (HT2.out k hlt)
          have hgo : Hid (((canAt H.cans k).name.toList == nm.toList) = false → ∀ j, j < k + 1 → ((canAt H.cans j).name.toList == nm.toList) = false) := fun he j hj => by
           rcases Nat.lt_or_ge j k with h' | h'
           · exact hno j h'
           · obtain rfl : j = k := by omega
             exact he
          clear hcs hS5 hS6 hS7 hHs hno HT2 HU2 HP HLn HTo HM hCx hFr
          generalize (canAt H.cans k).name = n0 at *
          cases q : (n0.toList == nm.toList) with
          | true =>
           have hz : Hid (canE H (msOf H) (fs1 H) i = 5) := by unfold Hid; rw [HE.out, if_pos (hst.out q)]
           clear HE hst
           gi_wp2
           refine wpIn_wide.2 ?_
           (refine tmX (by kernel_rfl) (by kernel_rfl) ?_); (repeat (first | (refine tmS rfl ?_; simp only [Act.put, List.setIfInBounds_toArray, List.set_cons_succ, List.set_cons_zero]) | (refine tmP rfl rfl rfl (fun K hK => ?_); go_big_quiet_op; refine hK _ ?_; clear hK K) | (refine tmE rfl rfl (fun K hK => ?_); go_big_op; (first | fail | skip); (refine hK _ _ rfl (ext_of_below (by (repeat' first | with_reducible (first | apply bz0 | assumption | apply bz1 | apply bz2 | apply bz3 | apply bz4 | apply bz5) | (simp <;> omega)))) ?_; clear hK K)))); (refine tmN ?_)
           gi_wp2
           refine bodyPost_ret (v := .int .i64 5) (by simp [results, Tryz.results84, go_sem]) rfl (retX (by rw [hz.out]) (hBw.trans ((show Below wr.heap.size wr _ by (repeat' first | with_reducible (first | apply bz0 | assumption | apply bz1 | apply bz2 | apply bz3 | apply bz4 | apply bz5) | (simp <;> omega))).lower hgs)))
          | false =>
           have hz := hidden (hgo.out q)
           clear HE hst
           gi_wp2
           refine wpIn_wide.2 ?_
           (refine tmX (by kernel_rfl) (by kernel_rfl) ?_); (repeat (first | (refine tmS rfl ?_; simp only [Act.put, List.setIfInBounds_toArray, List.set_cons_succ, List.set_cons_zero]) | (refine tmP rfl rfl rfl (fun K hK => ?_); go_big_quiet_op; refine hK _ ?_; clear hK K) | (refine tmE rfl rfl (fun K hK => ?_); go_big_op; (first | fail | skip); (refine hK _ _ rfl (ext_of_below (by (repeat' first | with_reducible (first | apply bz0 | assumption | apply bz1 | apply bz2 | apply bz3 | apply bz4 | apply bz5) | (simp <;> omega)))) ?_; clear hK K)))); (refine tmN ?_)
           gi_wp2
           exact ⟨⟨k + 1, by simp, by omega, hB.trans ((show Below wr.heap.size wr _ by (repeat' first | with_reducible (first | apply bz0 | assumption | apply bz1 | apply bz2 | apply bz3 | apply bz4 | apply bz5) | (simp <;> omega))).lower hB.size), hz.out⟩, by simp [intOf]; omega⟩
        · obtain rfl : k = i := by omega
          have hU := HU2.out hno
          rw [hU] at HE
          simp only [Bool.false_eq_true, if_false] at HE
          clear hU HU2 HT2 hno
          have hm1 := has_mat (H := H) (nm := mt)
          have HM1 := hidden (fun (W : World) (hW : Below w.heap.size w W) => HM.out W hW mt)
          have HWn := hidden (fun (W : World) => Within_any (hs.length : Int) 1 4 W)
          clear HM
          generalize matI H mt = a1 at *
          cases p1 : hasName (msOf H) mt with
          | false =>
           rw [p1] at hm1 HE
           have hz : Hid (canE H (msOf H) (fs1 H) k = 6) := by unfold Hid; rw [HE.out]; rfl
           clear HE HP HLn HTo hCx hFr HWn
           simp only [Bool.not_false] at hm1
           gi_wp2
           (refine ⟨trivial, ?_⟩; ((with_reducible refine (callsIn_wide.2 (HM1.out _ ?hk)).mono ?_); (case hk => (repeat' first | with_reducible (first | apply bz0 | assumption | apply bz1 | apply bz2 | apply bz3 | apply bz4 | apply bz5) | (simp <;> omega))); rintro e w' ⟨rfl, z1, rfl⟩))
           gi_wp2
           refine bodyPost_ret (v := .int .i64 6) (by simp [results, Tryz.results84, go_sem]) rfl (retX (by rw [hz.out]) (hBw.trans ((show Below wr.heap.size wr _ by (repeat' first | with_reducible (first | apply bz0 | assumption | apply bz1 | apply bz2 | apply bz3 | apply bz4 | apply bz5) | (simp <;> omega))).lower hgs)))
          | true =>
           rw [p1] at hm1 HE
           simp only [Bool.not_true, Bool.true_eq_false, if_false] at hm1 HE
           have hw4 : wiB (hs.length : Int) 1 4 = (decide (1 ≤ hs.length) && decide (hs.length ≤ 4)) := by unfold wiB; rw [Bool.eq_iff_iff]; simp; omega
           cases p2 : wiB (hs.length : Int) 1 4 with
           | false =>
            rw [p2] at HWn hw4
            have hz : Hid (canE H (msOf H) (fs1 H) k = 10) := by
             have hh10 : heightsE H.height hs = 10 := by
              unfold heightsE
              by_cases c1 : hs.length < 1
              · rw [if_pos c1]
              · rw [if_neg c1, if_pos (by simp at hw4; have := hw4 (by omega); omega)]
             unfold Hid; rw [HE.out, hh10]; rfl
            clear HE HP HLn HTo hCx hFr hw4
            gi_wp2
            (refine ⟨trivial, ?_⟩; ((with_reducible refine (callsIn_wide.2 (HM1.out _ ?hk)).mono ?_); (case hk => (repeat' first | with_reducible (first | apply bz0 | assumption | apply bz1 | apply bz2 | apply bz3 | apply bz4 | apply bz5) | (simp <;> omega))); rintro e w' ⟨rfl, z1, rfl⟩))
            gi_wp2
            (refine ⟨trivial, ?_⟩; ((with_reducible refine (callsIn_wide.2 (HWn.out _)).mono ?_); rintro e w' ⟨rfl, z2, rfl⟩))
            gi_wp2
            refine bodyPost_ret (v := .int .i64 10) (by simp [results, Tryz.results84, go_sem]) rfl (retX (by rw [hz.out]) (hBw.trans ((show Below wr.heap.size wr _ by (repeat' first | with_reducible (first | apply bz0 | assumption | apply bz1 | apply bz2 | apply bz3 | apply bz4 | apply bz5) | (simp <;> omega))).lower hgs)))
           | true =>
            rw [p2] at HWn hw4
            have n1 : ¬ hs.length < 1 := by simp at hw4; omega
            have n4 : ¬ 4 < hs.length := by simp at hw4; omega
            clear hw4
            gi_wp2
            (refine ⟨trivial, ?_⟩; ((with_reducible refine (callsIn_wide.2 (HM1.out _ ?hk)).mono ?_); (case hk => (repeat' first | with_reducible (first | apply bz0 | assumption | apply bz1 | apply bz2 | apply bz3 | apply bz4 | apply bz5) | (simp <;> omega))); rintro e w' ⟨rfl, z1, rfl⟩))
            gi_wp2
            (refine ⟨trivial, ?_⟩; ((with_reducible refine (callsIn_wide.2 (HWn.out _)).mono ?_); rintro e w' ⟨rfl, z2, rfl⟩))
            gi_wp2
            clear HM1 HWn hm1
            clear x0 x1 x2 x3 x4 x5 x6 x7 x8 y0 y1 y2 y3 y4 y5 y6 gx gy
            gi_loopw [8] (fun i' wr => ∃ q : Nat, i' = .int .i64 q ∧ q ≤ hs.length ∧ Below X.heap.size X wr ∧ ∀ j, j < q → hgtE H.height hs j = 0) (fun i' _ => hs.length - (intOf i').toNat)
            case atStart => exact ⟨0, rfl, Nat.zero_le _, hB.trans ((show Below wr.heap.size wr _ by (repeat' first | with_reducible (first | apply bz0 | assumption | apply bz1 | apply bz2 | apply bz3 | apply bz4 | apply bz5) | (simp <;> omega))).lower hB.size), fun j hj => absurd hj (Nat.not_lt_zero j)⟩
            case round =>
             clear hB hBw hgs
             obtain ⟨q, rfl, hq, hB, hno⟩ := hrel
             have hBw : Below w.heap.size w wr := BX.trans (hB.lower BX.size)
             have hgs := hBw.size
             obtain ⟨x0, x1, x2, x3, x4, x5, x6, x7, x8, y0, y1, y2, y3, y4, y5, y6⟩ := HX.out _ hB
             have gx := has_of_cell x0
             have gy := has_of_cell y0
             rcases Nat.lt_or_ge q hs.length with hlt | hge
             · obtain ⟨g', o', rfl, hg, hcs⟩ := int_at (hHs.below hBw) hlt
               have kq := hcs q hlt
               have kp := hcs (q - 1) (by omega)
               have hst : Hid (∀ e, hgtE H.height hs q = e → e ≠ 0 → canE H (msOf H) (fs1 H) k = e) := fun e he hn => by
                have : heightsE H.height hs = e := by rw [← he]; exact heightsE_stop n1 n4 hlt (by rw [he]; exact hn) hno
                rw [HE.out, this, if_pos hn]
               have hgo : Hid (hgtE H.height hs q = 0 → ∀ j, j < q + 1 → hgtE H.height hs j = 0) := fun he j hj => by
                rcases Nat.lt_or_ge j q with h' | h'
                · exact hno j h'
                · obtain rfl : j = q := by omega
                  exact he
               have hO1 : Hid (wiB (intAt hs q) 1 (H.height - 1) = false → hgtE H.height hs q = 2) := fun h => hgt_range h
               have hO2 : Hid (wiB (intAt hs q) 1 (H.height - 1) = true → hgtE H.height hs q = if 0 < q ∧ intAt hs q ≤ intAt hs (q - 1) then 9 else 0) := fun h => hgt_in h
               have HWq := hidden (fun (W : World) => Within_any (intAt hs q) 1 (H.height - 1) W)
               have wh : IntKind.i64.wrap (H.height - 1) = H.height - 1 := IntWalk.i64_in _ (by omega)
               clear hcs hS5 hS6 hS7 hHs hno HE HP HLn HTo hCx hFr HX
               generalize intAt hs q = vq at *
               generalize intAt hs (q - 1) = vp at *
               generalize hgtE H.height hs q = hv at *
               generalize H.height = z at *
               cases p3 : wiB vq 1 (z - 1) with
               | false =>
                have hz := hidden (hst.out 2 (hO1.out p3) (by decide))
                rw [p3] at HWq
                clear hst hgo hO1 hO2
                gi_wp2
                refine wpIn_wide.2 ?_
                (refine tmX (by kernel_rfl) (by kernel_rfl) ?_); (repeat (first | (refine tmS rfl ?_; simp only [Act.put, List.setIfInBounds_toArray, List.set_cons_succ, List.set_cons_zero]) | (refine tmP rfl rfl rfl (fun K hK => ?_); go_big_quiet_op; refine hK _ ?_; clear hK K) | (refine tmE rfl rfl (fun K hK => ?_); go_big_op; (first | (go_at_call 45; refine (HWq.out _).mono ?_; rintro e w' ⟨rfl, z3, rfl⟩) | skip); (refine hK _ _ rfl (ext_of_below (by (repeat' first | with_reducible (first | apply bz0 | assumption | apply bz1 | apply bz2 | apply bz3 | apply bz4 | apply bz5) | (simp <;> omega)))) ?_; clear hK K)))); (refine tmN ?_)
                gi_wp2
                refine bodyPost_ret (v := .int .i64 2) (by simp [results, Tryz.results84, go_sem]) rfl (retX (by rw [hz.out]) (hBw.trans ((show Below wr.heap.size wr _ by (repeat' first | with_reducible (first | apply bz0 | assumption | apply bz1 | apply bz2 | apply bz3 | apply bz4 | apply bz5) | (simp <;> omega))).lower hgs)))
               | true =>
                have hO := hO2.out p3
                rw [p3] at HWq
                clear hO1 hO2
                rcases Nat.eq_zero_or_pos q with hk0 | hk0
                · have hz := hidden (hgo.out (by rw [hO, if_neg (by omega)]))
                  clear hst hgo hO kp
                  subst hk0
                  simp only [Nat.add_zero] at kq
                  have e00 : decide ((0 : Int) < ((0 : Nat) : Int)) = false := by decide
                  gi_wp2
                  refine wpIn_wide.2 ?_
                  (refine tmX (by kernel_rfl) (by kernel_rfl) ?_); (repeat (first | (refine tmS rfl ?_; simp only [Act.put, List.setIfInBounds_toArray, List.set_cons_succ, List.set_cons_zero]) | (refine tmP rfl rfl rfl (fun K hK => ?_); go_big_quiet_op; refine hK _ ?_; clear hK K) | (refine tmE rfl rfl (fun K hK => ?_); go_big_op; (first | (go_at_call 45; refine (HWq.out _).mono ?_; rintro e w' ⟨rfl, z3, rfl⟩) | skip); (refine hK _ _ rfl (ext_of_below (by (repeat' first | with_reducible (first | apply bz0 | assumption | apply bz1 | apply bz2 | apply bz3 | apply bz4 | apply bz5) | (simp <;> omega)))) ?_; clear hK K)))); (refine tmN ?_)
                  gi_wp2
                  refine wpIn_wide.2 ?_
                  (refine tmX (by kernel_rfl) (by kernel_rfl) ?_); (repeat (first | (refine tmS rfl ?_; simp only [Act.put, List.setIfInBounds_toArray, List.set_cons_succ, List.set_cons_zero]) | (refine tmP rfl rfl rfl (fun K hK => ?_); go_big_quiet_op; refine hK _ ?_; clear hK K) | (refine tmE rfl rfl (fun K hK => ?_); go_big_op; (first | fail | skip); (refine hK _ _ rfl (ext_of_below (by (repeat' first | with_reducible (first | apply bz0 | assumption | apply bz1 | apply bz2 | apply bz3 | apply bz4 | apply bz5) | (simp <;> omega)))) ?_; clear hK K)))); (refine tmN ?_)
                  gi_wp2
                  exact ⟨⟨0 + 1, by simp, by omega, hB.trans ((show Below wr.heap.size wr _ by (repeat' first | with_reducible (first | apply bz0 | assumption | apply bz1 | apply bz2 | apply bz3 | apply bz4 | apply bz5) | (simp <;> omega))).lower hB.size), hz.out⟩, by simp [intOf]; omega⟩
                · obtain ⟨m, rfl⟩ : ∃ m, q = m + 1 := ⟨q - 1, by omega⟩
                  simp only [Nat.add_sub_cancel] at kp
                  have e1 : IntKind.i64.wrap (((m + 1 : Nat) : Int) - 1) = (m : Int) := by rw [IntWalk.i64_in _ (by omega)]; omega
                  have e0 : decide ((0 : Int) < ((m + 1 : Nat) : Int)) = true := by first | (simp; done) | (simp; omega)
                  cases p4 : decide (vq ≤ vp) with
                  | true =>
                   have hz := hidden (hst.out 9 (by rw [hO, if_pos ⟨by omega, of_decide_eq_true p4⟩]) (by decide))
                   clear hst hgo hO
                   gi_wp2
                   refine wpIn_wide.2 ?_
                   (refine tmX (by kernel_rfl) (by kernel_rfl) ?_); (repeat (first | (refine tmS rfl ?_; simp only [Act.put, List.setIfInBounds_toArray, List.set_cons_succ, List.set_cons_zero]) | (refine tmP rfl rfl rfl (fun K hK => ?_); go_big_quiet_op; refine hK _ ?_; clear hK K) | (refine tmE rfl rfl (fun K hK => ?_); go_big_op; (first | (go_at_call 45; refine (HWq.out _).mono ?_; rintro e w' ⟨rfl, z3, rfl⟩) | skip); (refine hK _ _ rfl (ext_of_below (by (repeat' first | with_reducible (first | apply bz0 | assumption | apply bz1 | apply bz2 | apply bz3 | apply bz4 | apply bz5) | (simp <;> omega)))) ?_; clear hK K)))); (refine tmN ?_)
                   gi_wp2
                   refine wpIn_wide.2 ?_
                   (refine tmX (by kernel_rfl) (by kernel_rfl) ?_); (repeat (first | (refine tmS rfl ?_; simp only [Act.put, List.setIfInBounds_toArray, List.set_cons_succ, List.set_cons_zero]) | (refine tmP rfl rfl rfl (fun K hK => ?_); go_big_quiet_op; refine hK _ ?_; clear hK K) | (refine tmE rfl rfl (fun K hK => ?_); go_big_op; (first | fail | skip); (refine hK _ _ rfl (ext_of_below (by (repeat' first | with_reducible (first | apply bz0 | assumption | apply bz1 | apply bz2 | apply bz3 | apply bz4 | apply bz5) | (simp <;> omega)))) ?_; clear hK K)))); (refine tmN ?_)
                   gi_wp2
                   refine bodyPost_ret (v := .int .i64 9) (by simp [results, Tryz.results84, go_sem]) rfl (retX (by rw [hz.out]) (hBw.trans ((show Below wr.heap.size wr _ by (repeat' first | with_reducible (first | apply bz0 | assumption | apply bz1 | apply bz2 | apply bz3 | apply bz4 | apply bz5) | (simp <;> omega))).lower hgs)))
                  | false =>
                   have hz := hidden (hgo.out (by rw [hO, if_neg (fun h => of_decide_eq_false p4 h.2)]))
                   clear hst hgo hO
                   gi_wp2
                   refine wpIn_wide.2 ?_
                   (refine tmX (by kernel_rfl) (by kernel_rfl) ?_); (repeat (first | (refine tmS rfl ?_; simp only [Act.put, List.setIfInBounds_toArray, List.set_cons_succ, List.set_cons_zero]) | (refine tmP rfl rfl rfl (fun K hK => ?_); go_big_quiet_op; refine hK _ ?_; clear hK K) | (refine tmE rfl rfl (fun K hK => ?_); go_big_op; (first | (go_at_call 45; refine (HWq.out _).mono ?_; rintro e w' ⟨rfl, z3, rfl⟩) | skip); (refine hK _ _ rfl (ext_of_below (by (repeat' first | with_reducible (first | apply bz0 | assumption | apply bz1 | apply bz2 | apply bz3 | apply bz4 | apply bz5) | (simp <;> omega)))) ?_; clear hK K)))); (refine tmN ?_)
                   gi_wp2
                   refine wpIn_wide.2 ?_
                   (refine tmX (by kernel_rfl) (by kernel_rfl) ?_); (repeat (first | (refine tmS rfl ?_; simp only [Act.put, List.setIfInBounds_toArray, List.set_cons_succ, List.set_cons_zero]) | (refine tmP rfl rfl rfl (fun K hK => ?_); go_big_quiet_op; refine hK _ ?_; clear hK K) | (refine tmE rfl rfl (fun K hK => ?_); go_big_op; (first | fail | skip); (refine hK _ _ rfl (ext_of_below (by (repeat' first | with_reducible (first | apply bz0 | assumption | apply bz1 | apply bz2 | apply bz3 | apply bz4 | apply bz5) | (simp <;> omega)))) ?_; clear hK K)))); (refine tmN ?_)
                   gi_wp2
                   exact ⟨⟨m + 1 + 1, by simp, by omega, hB.trans ((show Below wr.heap.size wr _ by (repeat' first | with_reducible (first | apply bz0 | assumption | apply bz1 | apply bz2 | apply bz3 | apply bz4 | apply bz5) | (simp <;> omega))).lower hB.size), hz.out⟩, by simp [intOf]; omega⟩
             · obtain rfl : q = hs.length := by omega
               have hh0 := heightsE_end n1 n4 hno
               rw [hh0, if_neg (by simp), sht_places] at HE
               have HPl := hidden (fun (x : Int) (W : World) => isPlace_any x W)
               have bd : ∀ x : Int, wiB x (-5000) 5000 = true → -5000 ≤ x ∧ x ≤ 5000 := fun x h => by simp [wiB] at h; omega
               have P1 := hidden (fun (W : World) => HPl.out fx W)
               have P2 := hidden (fun (W : World) => HPl.out fy W)
               have P3 := hidden (fun (W : World) => HPl.out tx W)
               have P4 := hidden (fun (W : World) => HPl.out ty W)
               have d1 := bd fx; have d2 := bd fy; have d3 := bd tx; have d4 := bd ty
               clear hno hh0 HPl bd
               generalize wiB fx (-5000) 5000 = b1 at *
               generalize wiB fy (-5000) 5000 = b2 at *
               generalize wiB tx (-5000) 5000 = b3 at *
               generalize wiB ty (-5000) 5000 = b4 at *
               have cs : (b1 = false) ∨ (b1 = true ∧ b2 = false) ∨ (b1 = true ∧ b2 = true ∧ b3 = false) ∨ (b1 = true ∧ b2 = true ∧ b3 = true ∧ b4 = false) ∨ (b1 = true ∧ b2 = true ∧ b3 = true ∧ b4 = true) := by cases b1 <;> cases b2 <;> cases b3 <;> cases b4 <;> simp
               rcases cs with rfl | ⟨rfl, rfl⟩ | ⟨rfl, rfl, rfl⟩ | ⟨rfl, rfl, rfl, rfl⟩ | ⟨rfl, rfl, rfl, rfl⟩
               · have hz : Hid (canE H (msOf H) (fs1 H) k = 2) := by unfold Hid; rw [HE.out, if_pos (by rfl)]
                 clear HE HP HLn HTo hCx hFr HX hS5 hS6 hS7 hHs d1 d2 d3 d4
                 gi_wp2
                 (refine ⟨trivial, ?_⟩; ((with_reducible refine (callsIn_wide.2 (P1.out _)).mono ?_); rintro e w' ⟨rfl, zp0, rfl⟩))
                 gi_wp2
                 refine ⟨trivial, ?_⟩
                 gi_wp2
                 refine ⟨trivial, ?_⟩
                 gi_wp2
                 refine ⟨trivial, ?_⟩
                 gi_wp2
                 refine bodyPost_ret (v := .int .i64 2) (by simp [results, Tryz.results84, go_sem]) rfl (retX (by rw [hz.out]) (hBw.trans ((show Below wr.heap.size wr _ by (repeat' first | with_reducible (first | apply bz0 | assumption | apply bz1 | apply bz2 | apply bz3 | apply bz4 | apply bz5) | (simp <;> omega))).lower hgs)))
               · have hz : Hid (canE H (msOf H) (fs1 H) k = 2) := by unfold Hid; rw [HE.out, if_pos (by rfl)]
                 clear HE HP HLn HTo hCx hFr HX hS5 hS6 hS7 hHs d1 d2 d3 d4
                 gi_wp2
                 (refine ⟨trivial, ?_⟩; ((with_reducible refine (callsIn_wide.2 (P1.out _)).mono ?_); rintro e w' ⟨rfl, zp0, rfl⟩))
                 gi_wp2
                 (refine ⟨trivial, ?_⟩; ((with_reducible refine (callsIn_wide.2 (P2.out _)).mono ?_); rintro e w' ⟨rfl, zp1, rfl⟩))
                 gi_wp2
                 refine ⟨trivial, ?_⟩
                 gi_wp2
                 refine ⟨trivial, ?_⟩
                 gi_wp2
                 refine bodyPost_ret (v := .int .i64 2) (by simp [results, Tryz.results84, go_sem]) rfl (retX (by rw [hz.out]) (hBw.trans ((show Below wr.heap.size wr _ by (repeat' first | with_reducible (first | apply bz0 | assumption | apply bz1 | apply bz2 | apply bz3 | apply bz4 | apply bz5) | (simp <;> omega))).lower hgs)))
               · have hz : Hid (canE H (msOf H) (fs1 H) k = 2) := by unfold Hid; rw [HE.out, if_pos (by rfl)]
                 clear HE HP HLn HTo hCx hFr HX hS5 hS6 hS7 hHs d1 d2 d3 d4
                 gi_wp2
                 (refine ⟨trivial, ?_⟩; ((with_reducible refine (callsIn_wide.2 (P1.out _)).mono ?_); rintro e w' ⟨rfl, zp0, rfl⟩))
                 gi_wp2
                 (refine ⟨trivial, ?_⟩; ((with_reducible refine (callsIn_wide.2 (P2.out _)).mono ?_); rintro e w' ⟨rfl, zp1, rfl⟩))
                 gi_wp2
                 (refine ⟨trivial, ?_⟩; ((with_reducible refine (callsIn_wide.2 (P3.out _)).mono ?_); rintro e w' ⟨rfl, zp2, rfl⟩))
                 gi_wp2
                 refine ⟨trivial, ?_⟩
                 gi_wp2
                 refine bodyPost_ret (v := .int .i64 2) (by simp [results, Tryz.results84, go_sem]) rfl (retX (by rw [hz.out]) (hBw.trans ((show Below wr.heap.size wr _ by (repeat' first | with_reducible (first | apply bz0 | assumption | apply bz1 | apply bz2 | apply bz3 | apply bz4 | apply bz5) | (simp <;> omega))).lower hgs)))
               · have hz : Hid (canE H (msOf H) (fs1 H) k = 2) := by unfold Hid; rw [HE.out, if_pos (by rfl)]
                 clear HE HP HLn HTo hCx hFr HX hS5 hS6 hS7 hHs d1 d2 d3 d4
                 gi_wp2
                 (refine ⟨trivial, ?_⟩; ((with_reducible refine (callsIn_wide.2 (P1.out _)).mono ?_); rintro e w' ⟨rfl, zp0, rfl⟩))
                 gi_wp2
                 (refine ⟨trivial, ?_⟩; ((with_reducible refine (callsIn_wide.2 (P2.out _)).mono ?_); rintro e w' ⟨rfl, zp1, rfl⟩))
                 gi_wp2
                 (refine ⟨trivial, ?_⟩; ((with_reducible refine (callsIn_wide.2 (P3.out _)).mono ?_); rintro e w' ⟨rfl, zp2, rfl⟩))
                 gi_wp2
                 (refine ⟨trivial, ?_⟩; ((with_reducible refine (callsIn_wide.2 (P4.out _)).mono ?_); rintro e w' ⟨rfl, zp3, rfl⟩))
                 gi_wp2
                 refine bodyPost_ret (v := .int .i64 2) (by simp [results, Tryz.results84, go_sem]) rfl (retX (by rw [hz.out]) (hBw.trans ((show Below wr.heap.size wr _ by (repeat' first | with_reducible (first | apply bz0 | assumption | apply bz1 | apply bz2 | apply bz3 | apply bz4 | apply bz5) | (simp <;> omega))).lower hgs)))
               · rw [if_neg (by simp)] at HE
                 replace d1 := d1 rfl; replace d2 := d2 rfl; replace d3 := d3 rfl; replace d4 := d4 rfl
                 have cz : (fx = tx) ∨ (fx ≠ tx ∧ fy = ty) ∨ (fx ≠ tx ∧ fy ≠ ty) := by omega
                 rcases cz with c1 | ⟨c1, c2⟩ | ⟨c1, c2⟩
                 · have hz : Hid (canE H (msOf H) (fs1 H) k = 11) := by unfold Hid; rw [HE.out, if_pos c1]
                   have g1 : (fx == tx) = true := by simp [c1]
                   clear HE HP HLn HTo hCx hFr HX hS5 hS6 hS7 hHs c1
                   gi_wp2
                   (refine ⟨trivial, ?_⟩; ((with_reducible refine (callsIn_wide.2 (P1.out _)).mono ?_); rintro e w' ⟨rfl, zp0, rfl⟩))
                   gi_wp2
                   (refine ⟨trivial, ?_⟩; ((with_reducible refine (callsIn_wide.2 (P2.out _)).mono ?_); rintro e w' ⟨rfl, zp1, rfl⟩))
                   gi_wp2
                   (refine ⟨trivial, ?_⟩; ((with_reducible refine (callsIn_wide.2 (P3.out _)).mono ?_); rintro e w' ⟨rfl, zp2, rfl⟩))
                   gi_wp2
                   (refine ⟨trivial, ?_⟩; ((with_reducible refine (callsIn_wide.2 (P4.out _)).mono ?_); rintro e w' ⟨rfl, zp3, rfl⟩))
                   gi_wp2
                   refine bodyPost_ret (v := .int .i64 11) (by simp [results, Tryz.results84, go_sem]) rfl (retX (by rw [hz.out]) (hBw.trans ((show Below wr.heap.size wr _ by (repeat' first | with_reducible (first | apply bz0 | assumption | apply bz1 | apply bz2 | apply bz3 | apply bz4 | apply bz5) | (simp <;> omega))).lower hgs)))
                 · have hz : Hid (canE H (msOf H) (fs1 H) k = 11) := by unfold Hid; rw [HE.out, if_neg c1, if_pos c2]
                   have g1 : (fx == tx) = false := by simp [c1]
                   have g2 : (fy == ty) = true := by simp [c2]
                   clear HE HP HLn HTo hCx hFr HX hS5 hS6 hS7 hHs c1 c2
                   gi_wp2
                   (refine ⟨trivial, ?_⟩; ((with_reducible refine (callsIn_wide.2 (P1.out _)).mono ?_); rintro e w' ⟨rfl, zp0, rfl⟩))
                   gi_wp2
                   (refine ⟨trivial, ?_⟩; ((with_reducible refine (callsIn_wide.2 (P2.out _)).mono ?_); rintro e w' ⟨rfl, zp1, rfl⟩))
                   gi_wp2
                   (refine ⟨trivial, ?_⟩; ((with_reducible refine (callsIn_wide.2 (P3.out _)).mono ?_); rintro e w' ⟨rfl, zp2, rfl⟩))
                   gi_wp2
                   (refine ⟨trivial, ?_⟩; ((with_reducible refine (callsIn_wide.2 (P4.out _)).mono ?_); rintro e w' ⟨rfl, zp3, rfl⟩))
                   gi_wp2
                   refine bodyPost_ret (v := .int .i64 11) (by simp [results, Tryz.results84, go_sem]) rfl (retX (by rw [hz.out]) (hBw.trans ((show Below wr.heap.size wr _ by (repeat' first | with_reducible (first | apply bz0 | assumption | apply bz1 | apply bz2 | apply bz3 | apply bz4 | apply bz5) | (simp <;> omega))).lower hgs)))
                 · have g1 : (fx == tx) = false := by simp [c1]
                   have g2 : (fy == ty) = false := by simp [c2]
                   rw [if_neg c1, if_neg c2, hFr.out fx fy tx ty d1 d2 d3 d4 c1 c2] at HE
                   have HEd := hidden (fun (W : World) => Edges_any nm mt fx fy tx ty (.slice A' hs.length c') ⟨_, _, _, rfl⟩ W d1 d2 d3 d4)
                   unfold canV at HEd
                   gi_wp2
                   (refine ⟨trivial, ?_⟩; ((with_reducible refine (callsIn_wide.2 (P1.out _)).mono ?_); rintro e w' ⟨rfl, zp0, rfl⟩))
                   gi_wp2
                   (refine ⟨trivial, ?_⟩; ((with_reducible refine (callsIn_wide.2 (P2.out _)).mono ?_); rintro e w' ⟨rfl, zp1, rfl⟩))
                   gi_wp2
                   (refine ⟨trivial, ?_⟩; ((with_reducible refine (callsIn_wide.2 (P3.out _)).mono ?_); rintro e w' ⟨rfl, zp2, rfl⟩))
                   gi_wp2
                   (refine ⟨trivial, ?_⟩; ((with_reducible refine (callsIn_wide.2 (P4.out _)).mono ?_); rintro e w' ⟨rfl, zp3, rfl⟩))
                   gi_wp2
                   (refine ⟨trivial, ?_⟩; ((with_reducible refine (callsIn_wide.2 (HEd.out _)).mono ?_); rintro e w' ⟨rfl, zed, rfl⟩))
                   gi_wp2
                   have hBY0 := hB.trans ((show Below wr.heap.size wr ((((((wr.ext zp0).ext zp1).ext zp2).ext zp3).ext zed).alloc (.cells #[.int .i64 fx, .int .i64 fy, .int .i64 (tx - fx), .int .i64 0, .int .i64 tx, .int .i64 fy, .int .i64 0, .int .i64 (ty - fy), .int .i64 tx, .int .i64 ty, .int .i64 (-(tx - fx)), .int .i64 0, .int .i64 fx, .int .i64 ty, .int .i64 0, .int .i64 (-(ty - fy))] 190)) by (repeat' first | with_reducible (first | apply bz0 | assumption | apply bz1 | apply bz2 | apply bz3 | apply bz4 | apply bz5) | (simp <;> omega))).lower hB.size)
                   generalize hE : wr.heap.size + zp0.heap.size + zp1.heap.size + zp2.heap.size + zp3.heap.size + zed.heap.size = E
                   generalize hY : World.alloc _ _ = Y at *
                   have ek : ∀ m, m < 4 → Y.cell? ⟨E, m * 4, none⟩ = some (.int .i64 (egX fx fy tx ty m)) ∧ Y.cell? ⟨E, m * 4 + 1, none⟩ = some (.int .i64 (egY fx fy tx ty m)) ∧ Y.cell? ⟨E, m * 4 + 2, none⟩ = some (.int .i64 (egDX fx fy tx ty m)) ∧ Y.cell? ⟨E, m * 4 + 3, none⟩ = some (.int .i64 (egDY fx fy tx ty m)) := by
                    intro m hm
                    have h4 : m = 0 ∨ m = 1 ∨ m = 2 ∨ m = 3 := by omega
                    rcases h4 with rfl | rfl | rfl | rfl <;> rw [← hY, ← hE] <;> simp [go_sem, egX, egY, egDX, egDY]
                   have gE := has_of_cell (ek 0 (by omega)).1
                   have HYk := hidden (fun (W : World) (hW : Below Y.heap.size Y W) (m : Nat) (hm : m < 4) => And.intro (cell_below hW gE (ek m hm).1) (And.intro (cell_below hW gE (ek m hm).2.1) (And.intro (cell_below hW gE (ek m hm).2.2.1) (cell_below hW gE (ek m hm).2.2.2))))
                   have BY : Below w.heap.size w Y := BX.trans (hBY0.lower BX.size)
                   clear hY hE ek gE P1 P2 P3 P4 HEd hB hBw hgs
                   clear x0 x1 x2 x3 x4 x5 x6 x7 x8 y0 y1 y2 y3 y4 y5 y6 gx gy
                   gi_loopw [10] (fun i' wr => ∃ q : Nat, i' = .int .i64 q ∧ q ≤ 4 ∧ Below Y.heap.size Y wr ∧ ∀ m, m < q → edgeOk H fx fy tx ty m = true) (fun i' _ => 4 - (intOf i').toNat)
                   case atStart => exact ⟨0, rfl, Nat.zero_le _, Below.refl _ _, fun j hj => absurd hj (Nat.not_lt_zero j)⟩
                   case round =>
                    obtain ⟨q, rfl, hq4, hB1, hno⟩ := hrel
                    have hB := hBY0.trans (hB1.lower hBY0.size)
                    have hBw : Below w.heap.size w wr := BX.trans (hB.lower BX.size)
                    have hgs := hBw.size
                    obtain ⟨x0, x1, x2, x3, x4, x5, x6, x7, x8, y0, y1, y2, y3, y4, y5, y6⟩ := HX.out _ hB
                    have gx := has_of_cell x0
                    have gy := has_of_cell y0
                    rcases Nat.lt_or_ge q 4 with hlt | hge
                    · obtain ⟨ex, ey, edx, edy⟩ := HYk.out wr hB1 q hlt
                      have gE := has_of_cell ex
                      have HEn := hidden (fun (W : World) => ends_any (egX fx fy tx ty q) (egY fx fy tx ty q) (egDX fx fy tx ty q) (egDY fx fy tx ty q) W (by unfold egX; split <;> omega) (by unfold egY; split <;> omega) (by unfold egDX; (repeat' split) <;> omega) (by unfold egDY; (repeat' split) <;> omega))
                      have HPq := hidden (fun (W : World) (hW : Below w.heap.size w W) => HP.out W hW (egX fx fy tx ty q) (egY fx fy tx ty q) (by unfold egX; split <;> omega) (by unfold egY; split <;> omega))
                      gi_wp2
                      (refine ⟨trivial, ?_⟩; ((with_reducible refine (callsIn_wide.2 (HEn.out _)).mono ?_); rintro e w' ⟨rfl, ze, rfl⟩))
                      gi_wp2
                      cases p5 : inplB H (egX fx fy tx ty q) (egY fx fy tx ty q) 1 with
                      | false =>
                       rw [p5] at HPq
                       have hz : Hid (canE H (msOf H) (fs1 H) k = 24) := by unfold Hid; rw [HE.out, if_pos (refFrame_stop1 hlt p5)]
                       clear HE HP HLn HTo hCx hFr HX HYk hS5 hS6 hS7 hHs hno
                       (refine ⟨trivial, ?_⟩; ((with_reducible refine (callsIn_wide.2 (HPq.out _ ?hk)).mono ?_); (case hk => (repeat' first | with_reducible (first | apply bz0 | assumption | apply bz1 | apply bz2 | apply bz3 | apply bz4 | apply bz5) | (simp <;> omega))); rintro e w' ⟨rfl, zi, rfl⟩))
                       gi_wp2
                       refine bodyPost_ret (v := .int .i64 24) (by simp [results, Tryz.results84, go_sem]) rfl (retX (by rw [hz.out]) (hBw.trans ((show Below wr.heap.size wr _ by (repeat' first | with_reducible (first | apply bz0 | assumption | apply bz1 | apply bz2 | apply bz3 | apply bz4 | apply bz5) | (simp <;> omega))).lower hgs)))
                      | true =>
                       rw [p5] at HPq
                       (refine ⟨trivial, ?_⟩; ((with_reducible refine (callsIn_wide.2 (HPq.out _ ?hk)).mono ?_); (case hk => (repeat' first | with_reducible (first | apply bz0 | assumption | apply bz1 | apply bz2 | apply bz3 | apply bz4 | apply bz5) | (simp <;> omega))); rintro e w' ⟨rfl, zi, rfl⟩))
                       gi_wp2
                       have hno4 := hidden hno
                       clear hno HEn HPq ex ey edx edy gE
                       clear x0 x1 x2 x3 x4 x5 x6 x7 x8 y0 y1 y2 y3 y4 y5 y6 gx gy
                       gi_loopw [13] (fun i' wr => ∃ r : Nat, i' = .int .i64 r ∧ r ≤ H.wals.length ∧ Below Y.heap.size Y wr ∧ ∀ j, j < r → egT H fx fy tx ty q j = false) (fun i' _ => H.wals.length - (intOf i').toNat)
                       case atStart => exact ⟨0, rfl, Nat.zero_le _, hB1.trans ((show Below wr.heap.size wr _ by (repeat' first | with_reducible (first | apply bz0 | assumption | apply bz1 | apply bz2 | apply bz3 | apply bz4 | apply bz5) | (simp <;> omega))).lower hB1.size), fun j hj => absurd hj (Nat.not_lt_zero j)⟩
                       case round =>
                        clear hB hBw hgs hB1
                        obtain ⟨r, rfl, hr, hB1, hno⟩ := hrel
                        have hB := hBY0.trans (hB1.lower hBY0.size)
                        have hBw : Below w.heap.size w wr := BX.trans (hB.lower BX.size)
                        have hgs := hBw.size
                        obtain ⟨x0, x1, x2, x3, x4, x5, x6, x7, x8, y0, y1, y2, y3, y4, y5, y6⟩ := HX.out _ hB
                        have gx := has_of_cell x0
                        have gy := has_of_cell y0
                        rcases Nat.lt_or_ge r H.wals.length with hrl | hrg
                        · obtain ⟨ex, ey, edx, edy⟩ := HYk.out wr hB1 q hlt
                          have gE := has_of_cell ex
                          have hrc : r < H.cors.length := by have := hNh.out; omega
                          have HLr := hidden (fun (W : World) (hW : Below w.heap.size w W) => HLn.out W hW r hrc)
                          have HTr := hidden (fun (W : World) => HTo.out W fx fy tx ty d1 d2 d3 d4 c1 c2 q r hlt hrc)
                          change Hid (∀ W, Calls _ _ _ _ (RetX W (.bool (egT H fx fy tx ty q r)))) at HTr
                          have hst : Hid (egT H fx fy tx ty q r = true → canE H (msOf H) (fs1 H) k = 24) := fun h => by rw [HE.out, if_pos (refFrame_stop2 hlt hrc h)]
                          have hgo : Hid (egT H fx fy tx ty q r = false → ∀ j, j < r + 1 → egT H fx fy tx ty q j = false) := fun he j hj => by
                           rcases Nat.lt_or_ge j r with h' | h'
                           · exact hno j h'
                           · obtain rfl : j = r := by omega
                             exact he
                          clear hno HE HP HLn HTo hCx hFr HX HYk hS5 hS6 hS7 hHs hno4 hNh
                          generalize egT H fx fy tx ty q r = et at *
                          generalize egX fx fy tx ty q = ax at *
                          generalize egY fx fy tx ty q = ay at *
                          generalize egDX fx fy tx ty q = adx at *
                          generalize egDY fx fy tx ty q = ady at *
                          cases et with
                          | true =>
                           have hz := hidden (hst.out rfl)
                           clear hst hgo
                           gi_wp2
                           refine wpIn_wide.2 ?_
                           (refine tmX (by kernel_rfl) (by kernel_rfl) ?_); (repeat (first | (refine tmS rfl ?_; simp only [Act.put, List.setIfInBounds_toArray, List.set_cons_succ, List.set_cons_zero]) | (refine tmP rfl rfl rfl (fun K hK => ?_); go_big_quiet_op; refine hK _ ?_; clear hK K) | (refine tmE rfl rfl (fun K hK => ?_); go_big_op; (first | (go_at_call 97; (refine (HLr.out _ ?hk).mono ?_); (case hk => (repeat' first | with_reducible (first | apply bz0 | assumption | apply bz1 | apply bz2 | apply bz3 | apply bz4 | apply bz5) | (simp <;> omega))); rintro e w' ⟨rfl, z6, rfl⟩) | (go_at_call 137; refine (HTr.out _).mono ?_; rintro e w' ⟨rfl, z7, rfl⟩) | skip); (refine hK _ _ rfl (ext_of_below (by (repeat' first | with_reducible (first | apply bz0 | assumption | apply bz1 | apply bz2 | apply bz3 | apply bz4 | apply bz5) | (simp <;> omega)))) ?_; clear hK K)))); (refine tmN ?_)
                           gi_wp2
                           refine bodyPost_ret (v := .int .i64 24) (by simp [results, Tryz.results84, go_sem]) rfl (retX (by rw [hz.out]) (hBw.trans ((show Below wr.heap.size wr _ by (repeat' first | with_reducible (first | apply bz0 | assumption | apply bz1 | apply bz2 | apply bz3 | apply bz4 | apply bz5) | (simp <;> omega))).lower hgs)))
                          | false =>
                           have hz := hidden (hgo.out rfl)
                           clear hst hgo
                           gi_wp2
                           refine wpIn_wide.2 ?_
                           (refine tmX (by kernel_rfl) (by kernel_rfl) ?_); (repeat (first | (refine tmS rfl ?_; simp only [Act.put, List.setIfInBounds_toArray, List.set_cons_succ, List.set_cons_zero]) | (refine tmP rfl rfl rfl (fun K hK => ?_); go_big_quiet_op; refine hK _ ?_; clear hK K) | (refine tmE rfl rfl (fun K hK => ?_); go_big_op; (first | (go_at_call 97; (refine (HLr.out _ ?hk).mono ?_); (case hk => (repeat' first | with_reducible (first | apply bz0 | assumption | apply bz1 | apply bz2 | apply bz3 | apply bz4 | apply bz5) | (simp <;> omega))); rintro e w' ⟨rfl, z6, rfl⟩) | (go_at_call 137; refine (HTr.out _).mono ?_; rintro e w' ⟨rfl, z7, rfl⟩) | skip); (refine hK _ _ rfl (ext_of_below (by (repeat' first | with_reducible (first | apply bz0 | assumption | apply bz1 | apply bz2 | apply bz3 | apply bz4 | apply bz5) | (simp <;> omega)))) ?_; clear hK K)))); (refine tmN ?_)
                           gi_wp2
                           exact ⟨⟨r + 1, by simp, by omega, hB1.trans ((show Below wr.heap.size wr _ by (repeat' first | with_reducible (first | apply bz0 | assumption | apply bz1 | apply bz2 | apply bz3 | apply bz4 | apply bz5) | (simp <;> omega))).lower hB1.size), hz.out⟩, by simp [intOf]; omega⟩
                        · obtain rfl : r = H.wals.length := by omega
                          have hok : Hid (∀ m, m < q + 1 → edgeOk H fx fy tx ty m = true) := fun m hm => by
                           rcases Nat.lt_or_ge m q with h' | h'
                           · exact hno4.out m h'
                           · obtain rfl : m = q := by omega
                             unfold edgeOk
                             rw [p5, Bool.true_and, List.all_eq_true]
                             intro j hj
                             have hjl : j < H.cors.length := by simpa using hj
                             rw [hno j (by have := hNh.out; omega)]; rfl
                          clear hno HE HP HLn HTo hCx hFr HX HYk hS5 hS6 hS7 hHs hno4 hNh p5
                          gi_wp2
                          exact ⟨⟨q + 1, by simp, by omega, hB1.trans ((show Below wr.heap.size wr _ by (repeat' first | with_reducible (first | apply bz0 | assumption | apply bz1 | apply bz2 | apply bz3 | apply bz4 | apply bz5) | (simp <;> omega))).lower hB1.size), hok.out⟩, by simp [intOf]; omega⟩
                    · obtain rfl : q = 4 := by omega
                      have hno4 := hidden hno
                      clear hno HP HLn HTo hFr HYk
                      gi_wp2
                      clear x0 x1 x2 x3 x4 x5 x6 x7 x8 y0 y1 y2 y3 y4 y5 y6 gx gy
                      gi_loopw [14] (fun i' wr => ∃ r : Nat, i' = .int .i64 r ∧ r ≤ H.cors.length ∧ Below Y.heap.size Y wr ∧ ∀ j, j < r → inBd fx fy tx ty (lnX H j) (lnY H j) 1 = false) (fun i' _ => H.cors.length - (intOf i').toNat)
                      case atStart => exact ⟨0, rfl, Nat.zero_le _, hB1.trans ((show Below wr.heap.size wr _ by (repeat' first | with_reducible (first | apply bz0 | assumption | apply bz1 | apply bz2 | apply bz3 | apply bz4 | apply bz5) | (simp <;> omega))).lower hB1.size), fun j hj => absurd hj (Nat.not_lt_zero j)⟩
                      case round =>
                       clear hB hBw hgs hB1
                       obtain ⟨r, rfl, hr, hB1, hno⟩ := hrel
                       have hB := hBY0.trans (hB1.lower hBY0.size)
                       have hBw : Below w.heap.size w wr := BX.trans (hB.lower BX.size)
                       have hgs := hBw.size
                       obtain ⟨x0, x1, x2, x3, x4, x5, x6, x7, x8, y0, y1, y2, y3, y4, y5, y6⟩ := HX.out _ hB
                       have gx := has_of_cell x0
                       have gy := has_of_cell y0
                       rcases Nat.lt_or_ge r H.cors.length with hrl | hrg
                       · obtain ⟨g', o', rfl, hg, hcs⟩ := cor_at (hS5.below hBw) hrl
                         obtain ⟨r0, r1⟩ := hcs r hrl
                         have HIb := hidden (fun (W : World) => InBounds_any nm mt fx fy tx ty (.slice A' hs.length c') ⟨_, _, _, rfl⟩ (lnX H r) (lnY H r) 0 1 W d1 d2 d3 d4 c1 c2 (by decide))
                         have HCn := hidden (fun (W : World) => corner_any (lnX H r) (lnY H r) W)
                         unfold canV at HIb
                         change wr.cell? _ = some (.int .i64 (lnX H r)) at r0
                         change wr.cell? _ = some (.int .i64 (lnY H r)) at r1
                         have hst : Hid (inBd fx fy tx ty (lnX H r) (lnY H r) 1 = true → canE H (msOf H) (fs1 H) k = 24) := fun h => by rw [HE.out, if_pos (refFrame_stop3 hrl h)]
                         have hgo : Hid (inBd fx fy tx ty (lnX H r) (lnY H r) 1 = false → ∀ j, j < r + 1 → inBd fx fy tx ty (lnX H j) (lnY H j) 1 = false) := fun he j hj => by
                          rcases Nat.lt_or_ge j r with h' | h'
                          · exact hno j h'
                          · obtain rfl : j = r := by omega
                            exact he
                         clear hno HE hCx HX hcs hS5 hS6 hS7 hHs hno4 hNh
                         generalize inBd fx fy tx ty (lnX H r) (lnY H r) 1 = et at *
                         generalize lnX H r = ax at *
                         generalize lnY H r = ay at *
                         cases et with
                         | true =>
                          have hz := hidden (hst.out rfl)
                          clear hst hgo
                          gi_wp2
                          refine wpIn_wide.2 ?_
                          (refine tmX (by kernel_rfl) (by kernel_rfl) ?_); (repeat (first | (refine tmS rfl ?_; simp only [Act.put, List.setIfInBounds_toArray, List.set_cons_succ, List.set_cons_zero]) | (refine tmP rfl rfl rfl (fun K hK => ?_); go_big_quiet_op; refine hK _ ?_; clear hK K) | (refine tmE rfl rfl (fun K hK => ?_); go_big_op; (first | (go_at_call 142; refine (HCn.out _).mono ?_; rintro e w' ⟨rfl, z6, rfl⟩) | (go_at_call 141; refine (HIb.out _).mono ?_; rintro e w' ⟨rfl, z7, rfl⟩) | skip); (refine hK _ _ rfl (ext_of_below (by (repeat' first | with_reducible (first | apply bz0 | assumption | apply bz1 | apply bz2 | apply bz3 | apply bz4 | apply bz5) | (simp <;> omega)))) ?_; clear hK K)))); (refine tmN ?_)
                          gi_wp2
                          refine bodyPost_ret (v := .int .i64 24) (by simp [results, Tryz.results84, go_sem]) rfl (retX (by rw [hz.out]) (hBw.trans ((show Below wr.heap.size wr _ by (repeat' first | with_reducible (first | apply bz0 | assumption | apply bz1 | apply bz2 | apply bz3 | apply bz4 | apply bz5) | (simp <;> omega))).lower hgs)))
                         | false =>
                          have hz := hidden (hgo.out rfl)
                          clear hst hgo
                          gi_wp2
                          refine wpIn_wide.2 ?_
                          (refine tmX (by kernel_rfl) (by kernel_rfl) ?_); (repeat (first | (refine tmS rfl ?_; simp only [Act.put, List.setIfInBounds_toArray, List.set_cons_succ, List.set_cons_zero]) | (refine tmP rfl rfl rfl (fun K hK => ?_); go_big_quiet_op; refine hK _ ?_; clear hK K) | (refine tmE rfl rfl (fun K hK => ?_); go_big_op; (first | (go_at_call 142; refine (HCn.out _).mono ?_; rintro e w' ⟨rfl, z6, rfl⟩) | (go_at_call 141; refine (HIb.out _).mono ?_; rintro e w' ⟨rfl, z7, rfl⟩) | skip); (refine hK _ _ rfl (ext_of_below (by (repeat' first | with_reducible (first | apply bz0 | assumption | apply bz1 | apply bz2 | apply bz3 | apply bz4 | apply bz5) | (simp <;> omega)))) ?_; clear hK K)))); (refine tmN ?_)
                          gi_wp2
                          exact ⟨⟨r + 1, by simp, by omega, hB1.trans ((show Below wr.heap.size wr _ by (repeat' first | with_reducible (first | apply bz0 | assumption | apply bz1 | apply bz2 | apply bz3 | apply bz4 | apply bz5) | (simp <;> omega))).lower hB1.size), hz.out⟩, by simp [intOf]; omega⟩
                       · obtain rfl : r = H.cors.length := by omega
                         have hz : Hid (canE H (msOf H) (fs1 H) k = 0) := by
                          unfold Hid
                          have : refFrameB H fx fy tx ty = true := by
                           unfold refFrameB
                           rw [Bool.and_eq_true, List.all_eq_true, List.all_eq_true]
                           exact ⟨fun m hm => hno4.out m (by simpa using hm), fun j hj => by rw [hno j (by simpa using hj)]; rfl⟩
                          rw [HE.out, this]; rfl
                         clear hno HE hCx HX hS5 hS6 hS7 hHs hno4 hNh
                         gi_wp2
                         refine bodyPost_ret (v := .int .i64 0) (by simp [results, Tryz.results84, go_sem]) rfl (retX (by rw [hz.out]) (hBw.trans ((show Below wr.heap.size wr _ by (repeat' first | with_reducible (first | apply bz0 | assumption | apply bz1 | apply bz2 | apply bz3 | apply bz4 | apply bz5) | (simp <;> omega))).lower hgs)))
end Go.Proofs.YtekieoamelahkaaGreat
