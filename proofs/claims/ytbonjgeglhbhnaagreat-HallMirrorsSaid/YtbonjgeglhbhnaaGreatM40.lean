/- The surfaces of a room: canopy. -/
import Derived.Test.YtbonjgeglhbhnaaGreatM38
set_option linter.unusedVariables false
set_option linter.unusedSimpArgs false
namespace Go.Proofs.YtbonjgeglhbhnaaGreat
open Go.RowKit Go.Shelf
attribute [local go_sem] Oper.semAt_some

set_option maxRecDepth 100000 in set_option maxHeartbeats 1000000 in
theorem canopy_room {w : World} {b : Nat} {H : Hal} {S : Stg} (hR : Room w b H S) (i : Nat) (hi : i < H.cans.length) (t1 : i < S.hs.length) (t2 : 0 ≤ intAt S.hs i) (t3 : intAt S.hs i < (canAt H.cans i).hs.length) (hc : CanOk H (canAt H.cans i)) :
    Calls Tryz.prog 110 #[.pointer (some ⟨b, 0, none⟩), .int .i64 i] w (RetX w (surfV 2 (canZ H S i) (canAt H.cans i).mat
      ((max (canAt H.cans i).f.x (canAt H.cans i).t.x - min (canAt H.cans i).f.x (canAt H.cans i).t.x) * (max (canAt H.cans i).f.y (canAt H.cans i).t.y - min (canAt H.cans i).f.y (canAt H.cans i).t.y))
      ((max (canAt H.cans i).f.x (canAt H.cans i).t.x - min (canAt H.cans i).f.x (canAt H.cans i).t.x) * (max (canAt H.cans i).f.y (canAt H.cans i).t.y - min (canAt H.cans i).f.y (canAt H.cans i).t.y)) 2
      (.func (.func 149) #[.agg #[.int .i64 (min (canAt H.cans i).f.x (canAt H.cans i).t.x), .int .i64 (min (canAt H.cans i).f.y (canAt H.cans i).t.y), .int .i64 (max (canAt H.cans i).f.x (canAt H.cans i).t.x), .int .i64 (max (canAt H.cans i).f.y (canAt H.cans i).t.y)]] #[]))) := by
  have HP := hidden (fun (W : World) (hW : Below w.heap.size w W) => canopyPlane_any (hR.below hW) i hi t1 t2 t3)
  obtain ⟨v4, v5, v6, v7, v8, u9, u10, hR⟩ := hR
  obtain ⟨A7, c7, rfl, hS7⟩ := slc_form hR.hal.cans
  obtain ⟨g, o, rfl, hg, hcs⟩ := can_at hS7 hi
  obtain ⟨k0, k1, k2, k3, k4, k5, A', c', k6, _⟩ := hcs i hi
  have l7 := hS7.1
  have h7 := hR.c7
  have hb := hR.has
  have HT := hidden (fun W => sheetOf_any (canAt H.cans i).name (canAt H.cans i).mat (canAt H.cans i).f.x (canAt H.cans i).f.y (canAt H.cans i).t.x (canAt H.cans i).t.y (.slice A' (canAt H.cans i).hs.length c') ⟨_, _, _, rfl⟩ W)
  obtain ⟨b1, b2, b3, b4, _, _, _⟩ := hc
  clear hR hS7 hcs t1 t2 t3
  unfold canV at HT
  unfold surfV
  generalize canZ H S i = z at *
  generalize (canAt H.cans i).name = na at *
  generalize (canAt H.cans i).mat = ma at *
  generalize (canAt H.cans i).hs.length = hl at *
  have m1 : -5000 ≤ min (canAt H.cans i).f.x (canAt H.cans i).t.x ∧ min (canAt H.cans i).f.x (canAt H.cans i).t.x ≤ 5000 := by omega
  have m2 : -5000 ≤ min (canAt H.cans i).f.y (canAt H.cans i).t.y ∧ min (canAt H.cans i).f.y (canAt H.cans i).t.y ≤ 5000 := by omega
  have m3 : -5000 ≤ max (canAt H.cans i).f.x (canAt H.cans i).t.x ∧ max (canAt H.cans i).f.x (canAt H.cans i).t.x ≤ 5000 := by omega
  have m4 : -5000 ≤ max (canAt H.cans i).f.y (canAt H.cans i).t.y ∧ max (canAt H.cans i).f.y (canAt H.cans i).t.y ≤ 5000 := by omega
  generalize min (canAt H.cans i).f.x (canAt H.cans i).t.x = p1 at *
  generalize min (canAt H.cans i).f.y (canAt H.cans i).t.y = p2 at *
  generalize max (canAt H.cans i).f.x (canAt H.cans i).t.x = p3 at *
  generalize max (canAt H.cans i).f.y (canAt H.cans i).t.y = p4 at *
  generalize (canAt H.cans i).f.x = q1 at *
  generalize (canAt H.cans i).f.y = q2 at *
  generalize (canAt H.cans i).t.x = q3 at *
  generalize (canAt H.cans i).t.y = q4 at *
  generalize H.cans.length = n at *
  have nne : ∀ x : Ext, w.heap.size + 1 + 1 + x.heap.size ≠ w.heap.size := fun x => by omega
  have HAr := hidden (fun W => area_any p1 p2 p3 p4 m1 m2 m3 m4 W)
  refine (callsIn_wide (n := 10)).1 ?_
  refine callsIn_of_wp Tryz.func110 rfl trivial ?_ rfl
  simp only [Tryz.ntmps110, List.size_toArray, List.length_cons, List.length_nil, Nat.reduceAdd, Nat.reduceSub, Array.replicate_succ, Array.replicate_zero, List.push_toArray, List.append_toArray, List.nil_append, List.cons_append]
  gi_wp2
  (refine ⟨trivial, ?_⟩; ((with_reducible refine (callsIn_wide.2 (HT.out _)).mono ?_); rintro e w' ⟨rfl, x1, rfl⟩))
  gi_wp2
  refine wpIn_wide.2 ?_
  (refine wp_region_tameH (w.heap.size) (by kernel_rfl) (by kernel_rfl) ?_); (repeat (first | (refine wpTame_eff rfl rfl (fun K hK => ?_); refine Oper.wp_store (W' := ?Wn) rfl ?st ?_; (case st => (refine store_surf _ _ _ _ _ _ _ _ _ _ _ ?_; (constructor <;> simp [go_sem]))); (refine hK _ _ rfl (hole_of (by (repeat' (first | (with_reducible exact HoleRel.refl _ _ _) | (with_reducible assumption) | (with_reducible refine HoleRel.swap ?_ _ _) | (with_reducible refine HoleRel.drew ?_) | (with_reducible refine HoleRel.drewN ?_ _) | (with_reducible refine HoleRel.setCell ?_ ?_ _) | (with_reducible refine HoleRel.putObj ?_ ?_ _) | (with_reducible refine HoleRel.alloc ?_ ?_ _) | (with_reducible refine HoleRel.ext ?_ ?_ _) | (exact Or.inl rfl) | (simp; done) | (simp; omega))))) ?_; clear hK K)) | (refine wpTame_skip rfl ?_; simp only [Act.put, List.setIfInBounds_toArray, List.set_cons_succ, List.set_cons_zero]) | (refine wpTame_pure rfl rfl rfl (fun K hK => ?_); go_big_quiet_op; refine hK _ ?_; clear hK K) | (refine wpTame_eff rfl rfl (fun K hK => ?_); go_big_op; (first | (go_at_call 122; refine (HP.out _ (by (repeat' (first | (with_reducible exact Below.refl _ _) | (with_reducible assumption) | (with_reducible refine Below.drew ?_) | (with_reducible refine Below.drewNStep ?_ _) | (with_reducible refine Below.alloc ?_ ?_ _) | (with_reducible refine Below.setCell ?_ ?_ _) | (with_reducible refine Below.extStep ?_ ?_ _) | (simp; done) | (simp; omega))))).mono ?_; rintro e w' ⟨rfl, x2, rfl⟩) | (go_at_call 148; refine (HAr.out _).mono ?_; rintro e w' ⟨rfl, x3, rfl⟩) | skip); (refine hK _ _ rfl (hole_of (by (repeat' (first | (with_reducible exact HoleRel.refl _ _ _) | (with_reducible assumption) | (with_reducible refine HoleRel.swap ?_ _ _) | (with_reducible refine HoleRel.drew ?_) | (with_reducible refine HoleRel.drewN ?_ _) | (with_reducible refine HoleRel.setCell ?_ ?_ _) | (with_reducible refine HoleRel.putObj ?_ ?_ _) | (with_reducible refine HoleRel.alloc ?_ ?_ _) | (with_reducible refine HoleRel.ext ?_ ?_ _) | (exact Or.inl rfl) | (simp; done) | (simp; omega))))) ?_; clear hK K)))); (refine wpTame_nil ?_)
  generalize hX : set7 _ _ _ _ _ _ _ _ _ = X
  have BX : Below w.heap.size w X := by rw [← hX]; exact set7_below (by (repeat' (first | (with_reducible exact Below.refl _ _) | (with_reducible assumption) | (with_reducible refine Below.drew ?_) | (with_reducible refine Below.drewNStep ?_ _) | (with_reducible refine Below.alloc ?_ ?_ _) | (with_reducible refine Below.setCell ?_ ?_ _) | (with_reducible refine Below.extStep ?_ ?_ _) | (simp; done) | (simp; omega)))) (Nat.le_refl _)
  have zz : X.cell? ⟨w.heap.size, 0, none⟩ = some (.int .i64 2) ∧ X.cell? ⟨w.heap.size, 1, none⟩ = some (.int .i64 z) ∧ X.cell? ⟨w.heap.size, 2, none⟩ = some (.string ma) ∧ X.cell? ⟨w.heap.size, 3, none⟩ = some (.int .i64 ((p3 - p1) * (p4 - p2))) ∧ X.cell? ⟨w.heap.size, 4, none⟩ = some (.int .i64 ((p3 - p1) * (p4 - p2))) ∧ X.cell? ⟨w.heap.size, 5, none⟩ = some (.int .i64 2) ∧ X.cell? ⟨w.heap.size, 6, none⟩ = some (.func (.func 149) #[.agg #[.int .i64 p1, .int .i64 p2, .int .i64 p3, .int .i64 p4]] #[]) := by
    rw [← hX]
    exact set7_cells _ _ _ _ _ _ _ _ _ (by constructor <;> simp [go_sem])
  obtain ⟨z0, z1, z2, z3, z4, z5, z6⟩ := zz
  clear hX
  gi_wp2
  refine bodyPost_ret (v := .agg #[.int .i64 2, .int .i64 z, .string ma, .int .i64 ((p3 - p1) * (p4 - p2)), .int .i64 ((p3 - p1) * (p4 - p2)), .int .i64 2, .func (.func 149) #[.agg #[.int .i64 p1, .int .i64 p2, .int .i64 p3, .int .i64 p4]] #[]]) ?_ rfl (retX rfl BX)
  simp [results, Tryz.results110, go_sem, z0, z1, z2, z3, z4, z5, z6]
end Go.Proofs.YtbonjgeglhbhnaaGreat
