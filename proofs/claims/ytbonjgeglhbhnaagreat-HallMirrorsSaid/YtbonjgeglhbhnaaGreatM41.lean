/- The surface of a wall that is not diagonal. -/
import Derived.Test.YtbonjgeglhbhnaaGreatM40
import Derived.Test.YtbonjgeglhbhnaaGreatM34
import Derived.Test.YtbonjgeglhbhnaaGreatM20
set_option linter.unusedVariables false
set_option linter.unusedSimpArgs false
namespace Go.Proofs.YtbonjgeglhbhnaaGreat
open Go.RowKit Go.Shelf
attribute [local go_sem] Oper.semAt_some

def wallMat (H : Hal) (S : Stg) (i : Nat) : ByteArray := if hasI S.dr i = true then (walAt H.wals i).cur else (walAt H.wals i).mat
def reachI (a b c d : Int) : Int := max (max (c - a) (-(c - a))) (max (d - b) (-(d - b)))

theorem set7_other {W : World} {B n i : Nat} (k a : Int) (m : ByteArray) (lo hi sd : Int) (f : Value) (h : n ≠ B) : (set7 W B k a m lo hi sd f).cell? ⟨n, i, none⟩ = W.cell? ⟨n, i, none⟩ := by
  unfold set7
  refine World.cell?_of_block ?_
  repeat (refine (Below.heap_setCell _ _ _ _ h).trans ?_)
  rfl
set_option maxRecDepth 100000 in set_option maxHeartbeats 1000000 in
theorem wall_room {w : World} {bp : Nat} {H : Hal} {S : Stg} (hR : Room w bp H S) (i : Nat) (hi : i < H.cors.length) (hw : i < H.wals.length) (a b c d : Int) (ha : (corAt H.cors i).x = a) (hb : (corAt H.cors i).y = b) (hc : (corAt H.cors (nxt H.cors.length i)).x = c) (hd : (corAt H.cors (nxt H.cors.length i)).y = d)
    (h1 : -5000 ≤ a ∧ a ≤ 5000) (h2 : -5000 ≤ b ∧ b ≤ 5000) (h3 : -5000 ≤ c ∧ c ≤ 5000) (h4 : -5000 ≤ d ∧ d ≤ 5000) (hh : 0 ≤ H.height ∧ H.height ≤ 5000) (hnd : a = c ∨ b = d) :
    Calls Tryz.prog 109 #[.pointer (some ⟨bp, 0, none⟩), .int .i64 i] w (fun e w' => Below w.heap.size w w' ∧ ∃ c1 c2, e = .returned (surfV (plK a b c d) (plA a b c d) (wallMat H S i) (reachI a b c d * H.height) (reachI a b c d * H.height) 1 (.func (.func 146) #[] #[.pointer (some ⟨c1, 0, none⟩), .pointer (some ⟨c2, 0, none⟩)])) ∧ w'.cell? ⟨c1, 0, none⟩ = some (.pointer (some ⟨bp, 0, none⟩)) ∧ Four a b c d c2 w') := by
  have HL := hidden (fun (W : World) (hW : Below w.heap.size w W) => line_any (hR.below hW) i hi)
  rw [ha, hb, hc, hd] at HL
  have HP := hidden (fun W => plane_any a b c d W (by omega) (by omega) (by omega) (by omega))
  have HA := hidden (fun W => wallArea_plain a b c d H.height W h1 h2 h3 h4 hh hnd)
  change Hid (∀ W, Calls _ _ _ _ (RetX W (.agg #[.int .i64 (reachI a b c d * H.height), .int .i64 (reachI a b c d * H.height)]))) at HA
  have hM : Hid (wallMat H S i = if hasI S.dr i = true then (walAt H.wals i).cur else (walAt H.wals i).mat) := rfl
  obtain ⟨v4, v5, v6, v7, v8, u9, u10, hR⟩ := hR
  obtain ⟨A6, c6, rfl, hS6⟩ := slc_form hR.hal.wals
  obtain ⟨g, o, rfl, hg, hcs⟩ := wal_at hS6 hw
  obtain ⟨_, k1, k2⟩ := hcs i hw
  obtain ⟨A10, c10, rfl, hS10⟩ := slc_form hR.dr
  have HI := hidden (fun (W : World) (hW : Below w.heap.size w W) => Contains_any S.dr i A10 c10 W (hS10.below hW))
  have l6 := hS6.1
  have l10 := hS10.1
  have h6 := hR.c6
  have h10 := hR.c10
  have h1c := hR.c1
  have hbp := hR.has
  clear hR hS6 hcs hS10
  generalize reachI a b c d * H.height = ar at *
  generalize plK a b c d = K at *
  generalize plA a b c d = A at *
  generalize wallMat H S i = mt at *
  generalize (walAt H.wals i).cur = cu at *
  generalize (walAt H.wals i).mat = ma at *
  generalize H.height = z at *
  generalize H.wals.length = nw at *
  generalize S.dr.length = nd at *
  refine (callsIn_wide (n := 10)).1 ?_
  refine callsIn_of_wp Tryz.func109 rfl trivial ?_ rfl
  simp only [Tryz.ntmps109, List.size_toArray, List.length_cons, List.length_nil, Nat.reduceAdd, Nat.reduceSub, Array.replicate_succ, Array.replicate_zero, List.push_toArray, List.append_toArray, List.nil_append, List.cons_append]
  have nne : ∀ x : Ext, w.heap.size + 1 + 1 + x.heap.size ≠ w.heap.size + 1 := fun x => by omega
  have nne2 : w.heap.size ≠ w.heap.size + 1 := by omega
  have nne3 : bp ≠ w.heap.size + 1 := by have := hbp; unfold World.Has at this; omega
  cases q : hasI S.dr i
  case false =>
    have hmt := hM.out
    rw [q] at hmt HI
    simp only [if_true, Bool.false_eq_true, if_false] at hmt
    subst hmt
    gi_wp2
    (refine ⟨trivial, ?_⟩; ((with_reducible refine (callsIn_wide.2 (HL.out _ ?hk)).mono ?_); (case hk => (repeat' (first | (with_reducible exact Below.refl _ _) | (with_reducible assumption) | (with_reducible refine Below.drew ?_) | (with_reducible refine Below.drewNStep ?_ _) | (with_reducible refine Below.alloc ?_ ?_ _) | (with_reducible refine Below.setCell ?_ ?_ _) | (with_reducible refine Below.extStep ?_ ?_ _) | (simp; done) | (simp; omega)))); rintro e w' ⟨rfl, x1, rfl⟩))
    gi_wp2
    (refine ⟨trivial, ?_⟩; ((with_reducible refine (callsIn_wide.2 (HI.out _ ?hk)).mono ?_); (case hk => (repeat' (first | (with_reducible exact Below.refl _ _) | (with_reducible assumption) | (with_reducible refine Below.drew ?_) | (with_reducible refine Below.drewNStep ?_ _) | (with_reducible refine Below.alloc ?_ ?_ _) | (with_reducible refine Below.setCell ?_ ?_ _) | (with_reducible refine Below.extStep ?_ ?_ _) | (simp; done) | (simp; omega)))); rintro e w' ⟨rfl, x2, rfl⟩))
    gi_wp2
    refine wpIn_wide.2 ?_
    (refine wp_region_tameH (w.heap.size + 1) (by kernel_rfl) (by kernel_rfl) ?_); (repeat (first | (refine wpTame_eff rfl rfl (fun K hK => ?_); refine Oper.wp_store (W' := ?Wn) rfl ?st ?_; (case st => (refine store_surf _ _ _ _ _ _ _ _ _ _ _ ?_; (constructor <;> simp [go_sem]))); (refine hK _ _ rfl (hole_of (by (repeat' (first | (with_reducible exact HoleRel.refl _ _ _) | (with_reducible assumption) | (with_reducible refine HoleRel.swap ?_ _ _) | (with_reducible refine HoleRel.drew ?_) | (with_reducible refine HoleRel.drewN ?_ _) | (with_reducible refine HoleRel.setCell ?_ ?_ _) | (with_reducible refine HoleRel.putObj ?_ ?_ _) | (with_reducible refine HoleRel.alloc ?_ ?_ _) | (with_reducible refine HoleRel.ext ?_ ?_ _) | (exact Or.inl rfl) | (simp; done) | (simp; omega))))) ?_; clear hK K)) | (refine wpTame_skip rfl ?_; simp only [Act.put, List.setIfInBounds_toArray, List.set_cons_succ, List.set_cons_zero]) | (refine wpTame_pure rfl rfl rfl (fun K hK => ?_); go_big_quiet_op; refine hK _ ?_; clear hK K) | (refine wpTame_eff rfl rfl (fun K hK => ?_); go_big_op; (first | (go_at_call 144; refine (HP.out _).mono ?_; rintro e w' ⟨rfl, x3, rfl⟩) | (go_at_call 145; refine (HA.out _).mono ?_; rintro e w' ⟨rfl, x4, rfl⟩) | skip); (refine hK _ _ rfl (hole_of (by (repeat' (first | (with_reducible exact HoleRel.refl _ _ _) | (with_reducible assumption) | (with_reducible refine HoleRel.swap ?_ _ _) | (with_reducible refine HoleRel.drew ?_) | (with_reducible refine HoleRel.drewN ?_ _) | (with_reducible refine HoleRel.setCell ?_ ?_ _) | (with_reducible refine HoleRel.putObj ?_ ?_ _) | (with_reducible refine HoleRel.alloc ?_ ?_ _) | (with_reducible refine HoleRel.ext ?_ ?_ _) | (exact Or.inl rfl) | (simp; done) | (simp; omega))))) ?_; clear hK K)))); (refine wpTame_nil ?_)
    generalize hX : set7 _ _ _ _ _ _ _ _ _ = X
    have BX : Below w.heap.size w X := by rw [← hX]; exact set7_below (by (repeat' (first | (with_reducible exact Below.refl _ _) | (with_reducible assumption) | (with_reducible refine Below.drew ?_) | (with_reducible refine Below.drewNStep ?_ _) | (with_reducible refine Below.alloc ?_ ?_ _) | (with_reducible refine Below.setCell ?_ ?_ _) | (with_reducible refine Below.extStep ?_ ?_ _) | (simp; done) | (simp; omega)))) (by omega)
    have zz : X.cell? ⟨w.heap.size + 1, 0, none⟩ = some (.int .i64 K) ∧ X.cell? ⟨w.heap.size + 1, 1, none⟩ = some (.int .i64 A) ∧ X.cell? ⟨w.heap.size + 1, 2, none⟩ = some (.string mt) ∧ X.cell? ⟨w.heap.size + 1, 3, none⟩ = some (.int .i64 ar) ∧ X.cell? ⟨w.heap.size + 1, 4, none⟩ = some (.int .i64 ar) ∧ X.cell? ⟨w.heap.size + 1, 5, none⟩ = some (.int .i64 1) ∧ X.cell? ⟨w.heap.size + 1, 6, none⟩ = some (.func (.func 146) #[] #[.pointer (some ⟨w.heap.size, 0, none⟩), .pointer (some ⟨w.heap.size + 1 + 1 + x1.heap.size, 0, none⟩)]) := by
      rw [← hX]
      exact set7_cells _ _ _ _ _ _ _ _ _ (by constructor <;> simp [go_sem])
    obtain ⟨z0, z1, z2, z3, z4, z5, z6⟩ := zz
    have y0 : X.cell? ⟨w.heap.size, 0, none⟩ = some (.pointer (some ⟨bp, 0, none⟩)) := by rw [← hX, set7_other _ _ _ _ _ _ _ (by omega)]; simp [go_sem]
    have y1 : Four a b c d (w.heap.size + 1 + 1 + x1.heap.size) X := by rw [← hX]; constructor <;> (rw [set7_other _ _ _ _ _ _ _ (by omega)]; simp [go_sem])
    clear hX
    gi_wp2
    refine bodyPost_ret (v := .agg #[.int .i64 K, .int .i64 A, .string mt, .int .i64 ar, .int .i64 ar, .int .i64 1, .func (.func 146) #[] #[.pointer (some ⟨w.heap.size, 0, none⟩), .pointer (some ⟨w.heap.size + 1 + 1 + x1.heap.size, 0, none⟩)]]) ?_ rfl ⟨BX, _, _, rfl, y0, y1⟩
    simp [results, Tryz.results109, go_sem, z0, z1, z2, z3, z4, z5, z6]
  case true =>
    have hmt := hM.out
    rw [q] at hmt HI
    simp only [if_true, Bool.false_eq_true, if_false] at hmt
    subst hmt
    gi_wp2
    (refine ⟨trivial, ?_⟩; ((with_reducible refine (callsIn_wide.2 (HL.out _ ?hk)).mono ?_); (case hk => (repeat' (first | (with_reducible exact Below.refl _ _) | (with_reducible assumption) | (with_reducible refine Below.drew ?_) | (with_reducible refine Below.drewNStep ?_ _) | (with_reducible refine Below.alloc ?_ ?_ _) | (with_reducible refine Below.setCell ?_ ?_ _) | (with_reducible refine Below.extStep ?_ ?_ _) | (simp; done) | (simp; omega)))); rintro e w' ⟨rfl, x1, rfl⟩))
    gi_wp2
    (refine ⟨trivial, ?_⟩; ((with_reducible refine (callsIn_wide.2 (HI.out _ ?hk)).mono ?_); (case hk => (repeat' (first | (with_reducible exact Below.refl _ _) | (with_reducible assumption) | (with_reducible refine Below.drew ?_) | (with_reducible refine Below.drewNStep ?_ _) | (with_reducible refine Below.alloc ?_ ?_ _) | (with_reducible refine Below.setCell ?_ ?_ _) | (with_reducible refine Below.extStep ?_ ?_ _) | (simp; done) | (simp; omega)))); rintro e w' ⟨rfl, x2, rfl⟩))
    gi_wp2
    refine wpIn_wide.2 ?_
    (refine wp_region_tameH (w.heap.size + 1) (by kernel_rfl) (by kernel_rfl) ?_); (repeat (first | (refine wpTame_eff rfl rfl (fun K hK => ?_); refine Oper.wp_store (W' := ?Wm) rfl ?su ?_; (case su => (refine store_surf _ _ _ _ _ _ _ _ _ _ _ ?_; (constructor <;> simp [go_sem]))); (refine hK _ _ rfl (hole_of (by (repeat' (first | (with_reducible exact HoleRel.refl _ _ _) | (with_reducible assumption) | (with_reducible refine HoleRel.swap ?_ _ _) | (with_reducible refine HoleRel.drew ?_) | (with_reducible refine HoleRel.drewN ?_ _) | (with_reducible refine HoleRel.setCell ?_ ?_ _) | (with_reducible refine HoleRel.putObj ?_ ?_ _) | (with_reducible refine HoleRel.alloc ?_ ?_ _) | (with_reducible refine HoleRel.ext ?_ ?_ _) | (exact Or.inl rfl) | (simp; done) | (simp; omega))))) ?_; clear hK K)) | (refine wpTame_skip rfl ?_; simp only [Act.put, List.setIfInBounds_toArray, List.set_cons_succ, List.set_cons_zero]) | (refine wpTame_pure rfl rfl rfl (fun K hK => ?_); go_big_quiet_op; refine hK _ ?_; clear hK K) | (refine wpTame_eff rfl rfl (fun K hK => ?_); go_big_op; (first | (go_at_call 144; refine (HP.out _).mono ?_; rintro e w' ⟨rfl, x3, rfl⟩) | (go_at_call 145; refine (HA.out _).mono ?_; rintro e w' ⟨rfl, x4, rfl⟩) | skip); (refine hK _ _ rfl (hole_of (by (repeat' (first | (with_reducible exact HoleRel.refl _ _ _) | (with_reducible assumption) | (with_reducible refine HoleRel.swap ?_ _ _) | (with_reducible refine HoleRel.drew ?_) | (with_reducible refine HoleRel.drewN ?_ _) | (with_reducible refine HoleRel.setCell ?_ ?_ _) | (with_reducible refine HoleRel.putObj ?_ ?_ _) | (with_reducible refine HoleRel.alloc ?_ ?_ _) | (with_reducible refine HoleRel.ext ?_ ?_ _) | (exact Or.inl rfl) | (simp; done) | (simp; omega))))) ?_; clear hK K)))); (refine wpTame_nil ?_)
    generalize hX : set7 _ _ _ _ _ _ _ _ _ = X
    have BX : Below w.heap.size w X := by rw [← hX]; exact set7_below (by (repeat' (first | (with_reducible exact Below.refl _ _) | (with_reducible assumption) | (with_reducible refine Below.drew ?_) | (with_reducible refine Below.drewNStep ?_ _) | (with_reducible refine Below.alloc ?_ ?_ _) | (with_reducible refine Below.setCell ?_ ?_ _) | (with_reducible refine Below.extStep ?_ ?_ _) | (simp; done) | (simp; omega)))) (by omega)
    have zz : X.cell? ⟨w.heap.size + 1, 0, none⟩ = some (.int .i64 K) ∧ X.cell? ⟨w.heap.size + 1, 1, none⟩ = some (.int .i64 A) ∧ X.cell? ⟨w.heap.size + 1, 2, none⟩ = some (.string mt) ∧ X.cell? ⟨w.heap.size + 1, 3, none⟩ = some (.int .i64 ar) ∧ X.cell? ⟨w.heap.size + 1, 4, none⟩ = some (.int .i64 ar) ∧ X.cell? ⟨w.heap.size + 1, 5, none⟩ = some (.int .i64 1) ∧ X.cell? ⟨w.heap.size + 1, 6, none⟩ = some (.func (.func 146) #[] #[.pointer (some ⟨w.heap.size, 0, none⟩), .pointer (some ⟨w.heap.size + 1 + 1 + x1.heap.size, 0, none⟩)]) := by
      rw [← hX]
      exact set7_cells _ _ _ _ _ _ _ _ _ (by constructor <;> simp [go_sem])
    obtain ⟨z0, z1, z2, z3, z4, z5, z6⟩ := zz
    have y0 : X.cell? ⟨w.heap.size, 0, none⟩ = some (.pointer (some ⟨bp, 0, none⟩)) := by rw [← hX, set7_other _ _ _ _ _ _ _ (by omega)]; simp [go_sem]
    have y1 : Four a b c d (w.heap.size + 1 + 1 + x1.heap.size) X := by rw [← hX]; constructor <;> (rw [set7_other _ _ _ _ _ _ _ (by omega)]; simp [go_sem])
    clear hX
    gi_wp2
    refine bodyPost_ret (v := .agg #[.int .i64 K, .int .i64 A, .string mt, .int .i64 ar, .int .i64 ar, .int .i64 1, .func (.func 146) #[] #[.pointer (some ⟨w.heap.size, 0, none⟩), .pointer (some ⟨w.heap.size + 1 + 1 + x1.heap.size, 0, none⟩)]]) ?_ rfl ⟨BX, _, _, rfl, y0, y1⟩
    simp [results, Tryz.results109, go_sem, z0, z1, z2, z3, z4, z5, z6]
end Go.Proofs.YtbonjgeglhbhnaaGreat
