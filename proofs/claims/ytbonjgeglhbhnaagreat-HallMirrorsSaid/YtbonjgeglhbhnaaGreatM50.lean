/- awake of shoeboxlaw01: the six examples. -/
import Derived.Test.YtbonjgeglhbhnaaGreatM47
import Derived.Test.YtbonjgeglhbhnaaGreatM48
import Derived.Test.YtbonjgeglhbhnaaGreatM49
import Derived.Test.YtbonjgeglhbhnaaGreatM38
import Derived.Test.YtbonjgeglhbhnaaGreatM34
set_option linter.unusedVariables false
set_option linter.unusedSimpArgs false
namespace Go.Proofs.YtbonjgeglhbhnaaGreat
open Go.RowKit Go.Shelf
attribute [local go_sem] Oper.semAt_some

theorem ints_one {x : Int} {W : World} {g c g' c' : Nat} (h : W.cell? ⟨g, 0, none⟩ = some (.int .i64 x)) (h' : W.cell? ⟨g', 0, none⟩ = some (.int .i64 x)) :
    Calls Tryz.prog 53 #[.slice (some ⟨g, 0, none⟩) 1 c, .slice (some ⟨g', 0, none⟩) 1 c'] W (RetX W (.bool true)) := by
  have := Ints_any [x] [x] (some ⟨g, 0, none⟩) (some ⟨g', 0, none⟩) c c' W (slc_one h) (slc_one h')
  rw [decide_eq_true rfl] at this
  exact this
set_option maxRecDepth 100000 in set_option maxHeartbeats 4000000 in
theorem awake_true (w : World) : Calls Tryz.prog 11 #[] w (RetX w (.bool true)) := by
  have HB := hidden law_Box
  have HL := hidden law_Low
  have HA := hidden law_at
  refine (callsIn_wide (n := 10)).1 ?_
  refine callsIn_of_wp Tryz.func11 rfl trivial ?_ rfl
  simp only [Tryz.ntmps11, List.size_toArray, List.length_cons, List.length_nil, Nat.reduceAdd, Nat.reduceSub, Array.replicate_succ, Array.replicate_zero, List.push_toArray, List.append_toArray, List.nil_append, List.cons_append]
  gi_wp2
  (refine ⟨trivial, ?_⟩; ((with_reducible refine (callsIn_wide.2 (HB.out _)).mono ?_); rintro e w' ⟨hB, v4, v5, v6, v7, v8, rfl, hV⟩))
  obtain ⟨x1, rfl⟩ := ext_of_below hB
  gi_wp2
  (refine ⟨trivial, ?_⟩; ((with_reducible refine (callsIn_wide.2 (box_TwiceArea hV)).mono ?_); rintro e w' ⟨rfl, x2, rfl⟩))
  gi_wp2
  generalize hW : World.ext _ x2 = W1
  have B1 : Below w.heap.size w W1 := by rw [← hW]; (repeat' (first | (with_reducible exact Below.refl _ _) | (with_reducible assumption) | (with_reducible refine Below.drew ?_) | (with_reducible refine Below.drewNStep ?_ _) | (with_reducible refine Below.alloc ?_ ?_ _) | (with_reducible refine Below.setCell ?_ ?_ _) | (with_reducible refine Below.extStep ?_ ?_ _) | (simp; done) | (simp; omega)))
  have l1 := B1.size
  clear hW hV hB
  (refine ⟨trivial, ?_⟩; ((with_reducible refine (callsIn_wide.2 (HB.out _)).mono ?_); rintro e w' ⟨hB, v4, v5, v6, v7, v8, rfl, hV⟩))
  obtain ⟨x3, rfl⟩ := ext_of_below hB
  gi_wp2
  (refine ⟨trivial, ?_⟩; ((with_reducible refine (callsIn_wide.2 (box_AbsorptionArea (hV.below ?hk) (slc1 ?h9) (slc1 ?h10))).mono ?_); (case hk => (repeat' (first | (with_reducible exact Below.refl _ _) | (with_reducible assumption) | (with_reducible refine Below.drew ?_) | (with_reducible refine Below.drewNStep ?_ _) | (with_reducible refine Below.alloc ?_ ?_ _) | (with_reducible refine Below.setCell ?_ ?_ _) | (with_reducible refine Below.extStep ?_ ?_ _) | (simp; done) | (simp; omega)))); (case h9 => simp [go_sem]); (case h10 => simp [go_sem]); rintro e w' ⟨rfl, x4, rfl⟩))
  gi_wp2
  generalize hW : World.alloc _ (Obj.cells #[Value.int IntKind.i64 1288000, Value.int IntKind.i64 1288000] _) = W2
  generalize hP : W1.heap.size + x3.heap.size + 1 + 1 + x4.heap.size = Pa
  have a0 : W2.cell? ⟨Pa, 0, none⟩ = some (.int .i64 1288000) := by rw [← hW, ← hP]; simp [go_sem]
  have a1 : W2.cell? ⟨Pa, 1, none⟩ = some (.int .i64 1288000) := by rw [← hW, ← hP]; simp [go_sem]
  have C2 : Below W1.heap.size W1 W2 := by rw [← hW]; (repeat' (first | (with_reducible exact Below.refl _ _) | (with_reducible assumption) | (with_reducible refine Below.drew ?_) | (with_reducible refine Below.drewNStep ?_ _) | (with_reducible refine Below.alloc ?_ ?_ _) | (with_reducible refine Below.setCell ?_ ?_ _) | (with_reducible refine Below.extStep ?_ ?_ _) | (simp; done) | (simp; omega)))
  have B2 : Below w.heap.size w W2 := B1.trans (C2.lower l1)
  have l2 := B2.size
  clear hW hP hV hB B1 C2
  (refine ⟨trivial, ?_⟩; ((with_reducible refine (callsIn_wide.2 (box_MirrorIn _)).mono ?_); rintro e w' ⟨rfl, x5, rfl⟩))
  gi_wp2
  generalize hW : World.alloc _ _ = W3
  generalize hP : W2.heap.size + x5.heap.size = Pm
  have m0 : W3.cell? ⟨Pm, 0, none⟩ = some (.int .i64 200) := by rw [← hW, ← hP]; simp [go_sem]
  have m1 : W3.cell? ⟨Pm, 1, none⟩ = some (.int .i64 (-200)) := by rw [← hW, ← hP]; simp [go_sem]
  have m2 : W3.cell? ⟨Pm, 2, none⟩ = some (.int .i64 5) := by rw [← hW, ← hP]; simp [go_sem]
  have C3 : Below W2.heap.size W2 W3 := by rw [← hW]; (repeat' (first | (with_reducible exact Below.refl _ _) | (with_reducible assumption) | (with_reducible refine Below.drew ?_) | (with_reducible refine Below.drewNStep ?_ _) | (with_reducible refine Below.alloc ?_ ?_ _) | (with_reducible refine Below.setCell ?_ ?_ _) | (with_reducible refine Below.extStep ?_ ?_ _) | (simp; done) | (simp; omega)))
  replace a0 := cell_below C3 (has_of_cell a0) a0
  replace a1 := cell_below C3 (has_of_cell a1) a1
  have B3 : Below w.heap.size w W3 := B2.trans (C3.lower l2)
  have l3 := B3.size
  clear hW hP B2 C3
  (refine ⟨trivial, ?_⟩; ((with_reducible refine (callsIn_wide.2 (HB.out _)).mono ?_); rintro e w' ⟨hB, v4, v5, v6, v7, v8, rfl, hV⟩))
  obtain ⟨x6, rfl⟩ := ext_of_below hB
  gi_wp2
  (refine ⟨trivial, ?_⟩; ((with_reducible refine (callsIn_wide.2 (HL.out _)).mono ?_); rintro e w' ⟨hL, v9, v10, rfl, h9, h10⟩))
  obtain ⟨x7, rfl⟩ := ext_of_below hL
  gi_wp2
  (refine ⟨trivial, ?_⟩; ((with_reducible refine (callsIn_wide.2 (HA.out _ _ _ _)).mono ?_); rintro e w' ⟨rfl, x8, rfl⟩))
  gi_wp2
  (refine ⟨trivial, ?_⟩; ((with_reducible refine (callsIn_wide.2 (HA.out _ _ _ _)).mono ?_); rintro e w' ⟨rfl, x9, rfl⟩))
  gi_wp2
  (refine ⟨trivial, ?_⟩; ((with_reducible refine (callsIn_wide.2 (box_IsFree (hV.below ?k1) (h9.below ?k2) (h10.below ?k3))).mono ?_); (case k1 => (repeat' (first | (with_reducible exact Below.refl _ _) | (with_reducible assumption) | (with_reducible refine Below.drew ?_) | (with_reducible refine Below.drewNStep ?_ _) | (with_reducible refine Below.alloc ?_ ?_ _) | (with_reducible refine Below.setCell ?_ ?_ _) | (with_reducible refine Below.extStep ?_ ?_ _) | (simp; done) | (simp; omega)))); (case k2 => (repeat' (first | (with_reducible exact Below.refl _ _) | (with_reducible assumption) | (with_reducible refine Below.drew ?_) | (with_reducible refine Below.drewNStep ?_ _) | (with_reducible refine Below.alloc ?_ ?_ _) | (with_reducible refine Below.setCell ?_ ?_ _) | (with_reducible refine Below.extStep ?_ ?_ _) | (simp; done) | (simp; omega)))); (case k3 => (repeat' (first | (with_reducible exact Below.refl _ _) | (with_reducible assumption) | (with_reducible refine Below.drew ?_) | (with_reducible refine Below.drewNStep ?_ _) | (with_reducible refine Below.alloc ?_ ?_ _) | (with_reducible refine Below.setCell ?_ ?_ _) | (with_reducible refine Below.extStep ?_ ?_ _) | (simp; done) | (simp; omega)))); rintro e w' ⟨rfl, x10, rfl⟩))
  gi_wp2
  generalize hW : World.ext _ x10 = W4
  have C4 : Below W3.heap.size W3 W4 := by rw [← hW]; (repeat' (first | (with_reducible exact Below.refl _ _) | (with_reducible assumption) | (with_reducible refine Below.drew ?_) | (with_reducible refine Below.drewNStep ?_ _) | (with_reducible refine Below.alloc ?_ ?_ _) | (with_reducible refine Below.setCell ?_ ?_ _) | (with_reducible refine Below.extStep ?_ ?_ _) | (simp; done) | (simp; omega)))
  replace a0 := cell_below C4 (has_of_cell a0) a0
  replace a1 := cell_below C4 (has_of_cell a1) a1
  replace m0 := cell_below C4 (has_of_cell m0) m0
  replace m1 := cell_below C4 (has_of_cell m1) m1
  replace m2 := cell_below C4 (has_of_cell m2) m2
  have B4 : Below w.heap.size w W4 := B3.trans (C4.lower l3)
  have l4 := B4.size
  clear hW hV hB hL h9 h10 B3 C4
  (refine ⟨trivial, ?_⟩; ((with_reducible refine (callsIn_wide.2 (HB.out _)).mono ?_); rintro e w' ⟨hB, v4, v5, v6, v7, v8, rfl, hV⟩))
  obtain ⟨x11, rfl⟩ := ext_of_below hB
  gi_wp2
  (refine ⟨trivial, ?_⟩; ((with_reducible refine (callsIn_wide.2 (HL.out _)).mono ?_); rintro e w' ⟨hL, v9, v10, rfl, h9, h10⟩))
  obtain ⟨x12, rfl⟩ := ext_of_below hL
  gi_wp2
  (refine ⟨trivial, ?_⟩; ((with_reducible refine (callsIn_wide.2 (HA.out _ _ _ _)).mono ?_); rintro e w' ⟨rfl, x13, rfl⟩))
  gi_wp2
  (refine ⟨trivial, ?_⟩; ((with_reducible refine (callsIn_wide.2 (box_CrossAt (hV.below ?k4) (h9.below ?k5) (h10.below ?k6))).mono ?_); (case k4 => (repeat' (first | (with_reducible exact Below.refl _ _) | (with_reducible assumption) | (with_reducible refine Below.drew ?_) | (with_reducible refine Below.drewNStep ?_ _) | (with_reducible refine Below.alloc ?_ ?_ _) | (with_reducible refine Below.setCell ?_ ?_ _) | (with_reducible refine Below.extStep ?_ ?_ _) | (simp; done) | (simp; omega)))); (case k5 => (repeat' (first | (with_reducible exact Below.refl _ _) | (with_reducible assumption) | (with_reducible refine Below.drew ?_) | (with_reducible refine Below.drewNStep ?_ _) | (with_reducible refine Below.alloc ?_ ?_ _) | (with_reducible refine Below.setCell ?_ ?_ _) | (with_reducible refine Below.extStep ?_ ?_ _) | (simp; done) | (simp; omega)))); (case k6 => (repeat' (first | (with_reducible exact Below.refl _ _) | (with_reducible assumption) | (with_reducible refine Below.drew ?_) | (with_reducible refine Below.drewNStep ?_ _) | (with_reducible refine Below.alloc ?_ ?_ _) | (with_reducible refine Below.setCell ?_ ?_ _) | (with_reducible refine Below.extStep ?_ ?_ _) | (simp; done) | (simp; omega)))); rintro e w' ⟨rfl, x14, rfl⟩))
  gi_wp2
  generalize hW : World.alloc _ _ = W5
  generalize hP : W4.heap.size + x11.heap.size + x12.heap.size + x13.heap.size + x14.heap.size = Pp
  have p0 : W5.cell? ⟨Pp, 0, none⟩ = some (.int .i64 1000) := by rw [← hW, ← hP]; simp [go_sem]
  have p1 : W5.cell? ⟨Pp, 1, none⟩ = some (.int .i64 450) := by rw [← hW, ← hP]; simp [go_sem]
  have p2 : W5.cell? ⟨Pp, 2, none⟩ = some (.int .i64 100) := by rw [← hW, ← hP]; simp [go_sem]
  have p3 : W5.cell? ⟨Pp, 3, none⟩ = some (.int .i64 1) := by rw [← hW, ← hP]; simp [go_sem]
  have C5 : Below W4.heap.size W4 W5 := by rw [← hW]; (repeat' (first | (with_reducible exact Below.refl _ _) | (with_reducible assumption) | (with_reducible refine Below.drew ?_) | (with_reducible refine Below.drewNStep ?_ _) | (with_reducible refine Below.alloc ?_ ?_ _) | (with_reducible refine Below.setCell ?_ ?_ _) | (with_reducible refine Below.extStep ?_ ?_ _) | (simp; done) | (simp; omega)))
  replace a0 := cell_below C5 (has_of_cell a0) a0
  replace a1 := cell_below C5 (has_of_cell a1) a1
  replace m0 := cell_below C5 (has_of_cell m0) m0
  replace m1 := cell_below C5 (has_of_cell m1) m1
  replace m2 := cell_below C5 (has_of_cell m2) m2
  have B5 : Below w.heap.size w W5 := B4.trans (C5.lower l4)
  have l5 := B5.size
  clear hW hP hV hB hL h9 h10 B4 C5
  (refine ⟨trivial, ?_⟩; ((with_reducible refine (callsIn_wide.2 (HB.out _)).mono ?_); rintro e w' ⟨hB, v4, v5, v6, v7, v8, rfl, hV⟩))
  obtain ⟨x15, rfl⟩ := ext_of_below hB
  gi_wp2
  (refine ⟨trivial, ?_⟩; ((with_reducible refine (callsIn_wide.2 (box_SettingAt hV)).mono ?_); rintro e w' ⟨hB, g1, c1, g3, c3, rfl, _, _, s2, s3⟩))
  obtain ⟨x16, rfl⟩ := ext_of_below hB
  gi_wp2
  generalize hW : World.alloc _ _ = W6
  generalize hP : W5.heap.size + x15.heap.size + x16.heap.size = Ps
  have s0 : W6.cell? ⟨Ps, 0, none⟩ = some (.slice (some ⟨g1, 0, none⟩) 1 c1) := by rw [← hW, ← hP]; simp [go_sem]
  have s1 : W6.cell? ⟨Ps, 1, none⟩ = some (.slice (some ⟨g3, 0, none⟩) 1 c3) := by rw [← hW, ← hP]; simp [go_sem]
  have C6 : Below W5.heap.size W5 W6 := by rw [← hW]; (repeat' (first | (with_reducible exact Below.refl _ _) | (with_reducible assumption) | (with_reducible refine Below.drew ?_) | (with_reducible refine Below.drewNStep ?_ _) | (with_reducible refine Below.alloc ?_ ?_ _) | (with_reducible refine Below.setCell ?_ ?_ _) | (with_reducible refine Below.extStep ?_ ?_ _) | (simp; done) | (simp; omega)))
  have D6 : Below ((W5.ext x15).ext x16).heap.size ((W5.ext x15).ext x16) W6 := by rw [← hW]; (repeat' (first | (with_reducible exact Below.refl _ _) | (with_reducible assumption) | (with_reducible refine Below.drew ?_) | (with_reducible refine Below.drewNStep ?_ _) | (with_reducible refine Below.alloc ?_ ?_ _) | (with_reducible refine Below.setCell ?_ ?_ _) | (with_reducible refine Below.extStep ?_ ?_ _) | (simp; done) | (simp; omega)))
  replace a0 := cell_below C6 (has_of_cell a0) a0
  replace a1 := cell_below C6 (has_of_cell a1) a1
  replace m0 := cell_below C6 (has_of_cell m0) m0
  replace m1 := cell_below C6 (has_of_cell m1) m1
  replace m2 := cell_below C6 (has_of_cell m2) m2
  replace p0 := cell_below C6 (has_of_cell p0) p0
  replace p1 := cell_below C6 (has_of_cell p1) p1
  replace p2 := cell_below C6 (has_of_cell p2) p2
  replace p3 := cell_below C6 (has_of_cell p3) p3
  replace s2 := cell_below D6 (has_of_cell s2) s2
  replace s3 := cell_below D6 (has_of_cell s3) s3
  have B6 : Below w.heap.size w W6 := B5.trans (C6.lower l5)
  have l6 := B6.size
  clear hW hP hV hB B5 C6 D6
  have f1 := has_of_cell a0
  have f2 := has_of_cell m0
  have f3 := has_of_cell p0
  have f4 := has_of_cell s0
  have f5 := has_of_cell s2
  have f6 := has_of_cell s3
  refine wpIn_wide.2 ?_
  (refine wp_region_tameX (by kernel_rfl) (by kernel_rfl) ?_); (repeat (first | (refine wpTame_skip rfl ?_; simp only [Act.put, List.setIfInBounds_toArray, List.set_cons_succ, List.set_cons_zero]) | (refine wpTame_pure rfl rfl rfl (fun K hK => ?_); go_big_quiet_op; refine hK _ ?_; clear hK K) | (refine wpTame_eff rfl rfl (fun K hK => ?_); go_big_op; (first | (go_at_call 52; refine (HA.out _ _ _ _).mono ?_; rintro e w' ⟨rfl, x17, rfl⟩) | (go_at_call 53; first | (refine (ints_one (x := 0) (by simp [go_sem, s2, f5]) (by simp [go_sem])).mono ?_; rintro e w' ⟨rfl, x18, rfl⟩) | (refine (ints_one (x := 1) (by simp [go_sem, s3, f6]) (by simp [go_sem])).mono ?_; rintro e w' ⟨rfl, x19, rfl⟩)) | skip); (refine hK _ _ rfl (ext_of_below (by (repeat' (first | (with_reducible exact Below.refl _ _) | (with_reducible assumption) | (with_reducible refine Below.drew ?_) | (with_reducible refine Below.drewNStep ?_ _) | (with_reducible refine Below.alloc ?_ ?_ _) | (with_reducible refine Below.setCell ?_ ?_ _) | (with_reducible refine Below.extStep ?_ ?_ _) | (simp; done) | (simp; omega))))) ?_; clear hK K)))); (refine wpTame_nil ?_)
  gi_wp2
  refine bodyPost_ret (v := .bool true) (by simp [results, Tryz.results11, go_sem]) rfl (retX rfl (B6.trans ((show Below W6.heap.size W6 _ by (repeat' (first | (with_reducible exact Below.refl _ _) | (with_reducible assumption) | (with_reducible refine Below.drew ?_) | (with_reducible refine Below.drewNStep ?_ _) | (with_reducible refine Below.alloc ?_ ?_ _) | (with_reducible refine Below.setCell ?_ ?_ _) | (with_reducible refine Below.extStep ?_ ?_ _) | (simp; done) | (simp; omega)))).lower l6)))
end Go.Proofs.YtbonjgeglhbhnaaGreat
