/- The reference's lines: Has, ends, corner, touch. -/
import Derived.Test.YtekieoamelahkaaGreatM35
import Derived.Test.YtekieoamelahkaaGreatM30
import Derived.Test.YtekieoamelahkaaGreatM46
import Derived.Test.YtekieoamelahkaaGreatM36
import Derived.Test.YtekieoamelahkaaGreatM38
set_option linter.unusedVariables false
set_option linter.unusedSimpArgs false
namespace Go.Proofs.YtekieoamelahkaaGreat
open Go.RowKit Go.Shelf
attribute [local go_sem] Oper.semAt_some

set_option maxRecDepth 100000 in set_option maxHeartbeats 8000000 in
theorem ends_any (x y dx dy : Int) (w : World) (hx : -20000 ≤ x ∧ x ≤ 20000) (hy : -20000 ≤ y ∧ y ≤ 20000) (h1 : -20000 ≤ dx ∧ dx ≤ 20000) (h2 : -20000 ≤ dy ∧ dy ≤ 20000) :
 Calls Tryz.prog 138 #[.agg #[.int .i64 x, .int .i64 y, .int .i64 dx, .int .i64 dy]] w (RetX w (.tuple #[.agg #[.int .i64 x, .int .i64 y, .int .i64 0, .int .i64 1], .agg #[.int .i64 (x + dx), .int .i64 (y + dy), .int .i64 0, .int .i64 1]])) := by
 have e1 : IntKind.i64.wrap (x + dx) = x + dx := IntWalk.i64_in _ (by omega)
 have e2 : IntKind.i64.wrap (y + dy) = y + dy := IntWalk.i64_in _ (by omega)
 go_enter Tryz.func138, Tryz.ntmps138
 go_wp2
 generalize hX : World.alloc _ _ = X
 have c0 : X.cell? ⟨w.heap.size, 0, none⟩ = some (.int .i64 x) := by rw [← hX]; simp [go_sem]
 have c1 : X.cell? ⟨w.heap.size, 1, none⟩ = some (.int .i64 y) := by rw [← hX]; simp [go_sem]
 have c2 : X.cell? ⟨w.heap.size, 2, none⟩ = some (.int .i64 dx) := by rw [← hX]; simp [go_sem]
 have c3 : X.cell? ⟨w.heap.size, 3, none⟩ = some (.int .i64 dy) := by rw [← hX]; simp [go_sem]
 have d0 : X.cell? ⟨w.heap.size + 1, 0, none⟩ = some (.int .i64 0) := by rw [← hX]; simp [go_sem]
 have d1 : X.cell? ⟨w.heap.size + 1, 1, none⟩ = some (.int .i64 0) := by rw [← hX]; simp [go_sem]
 have d2 : X.cell? ⟨w.heap.size + 1, 2, none⟩ = some (.int .i64 0) := by rw [← hX]; simp [go_sem]
 have d3 : X.cell? ⟨w.heap.size + 1, 3, none⟩ = some (.int .i64 0) := by rw [← hX]; simp [go_sem]
 have df : ∀ i, X.frozen? ⟨w.heap.size + 1, i, none⟩ = false := by intro i; rw [← hX]; simp [go_sem]
 have f0 : X.cell? ⟨w.heap.size + 2, 0, none⟩ = some (.int .i64 0) := by rw [← hX]; simp [go_sem]
 have f1 : X.cell? ⟨w.heap.size + 2, 1, none⟩ = some (.int .i64 0) := by rw [← hX]; simp [go_sem]
 have f2 : X.cell? ⟨w.heap.size + 2, 2, none⟩ = some (.int .i64 0) := by rw [← hX]; simp [go_sem]
 have f3 : X.cell? ⟨w.heap.size + 2, 3, none⟩ = some (.int .i64 0) := by rw [← hX]; simp [go_sem]
 have ff : ∀ i, X.frozen? ⟨w.heap.size + 2, i, none⟩ = false := by intro i; rw [← hX]; simp [go_sem]
 have BX : Below w.heap.size w X := by rw [← hX]; (repeat' first | with_reducible (first | apply bz0 | assumption | apply bz1 | apply bz2 | apply bz3 | apply bz4 | apply bz5) | (simp <;> omega))
 clear hX
 have gA := has_of_cell d0
 have gB := has_of_cell f0
 have hr1 : w.heap.size + 1 < X.heap.size := gA
 have gC := has_of_cell c0
 have hn1 : w.heap.size ≠ w.heap.size + 1 := by omega
 have hn2 : w.heap.size ≠ w.heap.size + 2 := by omega
 have FA : Hid (Four x y 0 1 (w.heap.size + 1) (set4 (set4 X (w.heap.size + 1) x y 0 1) (w.heap.size + 2) (x + dx) (y + dy) 0 1) ∧ Four (x + dx) (y + dy) 0 1 (w.heap.size + 2) (set4 (set4 X (w.heap.size + 1) x y 0 1) (w.heap.size + 2) (x + dx) (y + dy) 0 1) ∧ Below w.heap.size w (set4 (set4 X (w.heap.size + 1) x y 0 1) (w.heap.size + 2) (x + dx) (y + dy) 0 1)) := by
  have n1 : w.heap.size + 2 ≠ w.heap.size + 1 := by omega
  have u := set4_four (W := X) (B := w.heap.size + 1) ⟨d0, d1, d2, d3⟩ x y 0 1
  exact ⟨⟨(set4_other _ _ _ _ n1.symm).trans u.c0, (set4_other _ _ _ _ n1.symm).trans u.c1, (set4_other _ _ _ _ n1.symm).trans u.c2, (set4_other _ _ _ _ n1.symm).trans u.c3⟩, set4_four ⟨(set4_other _ _ _ _ n1).trans f0, (set4_other _ _ _ _ n1).trans f1, (set4_other _ _ _ _ n1).trans f2, (set4_other _ _ _ _ n1).trans f3⟩ _ _ _ _, set4_below (set4_below BX (by omega)) (by omega)⟩
 have FB : Hid (Four x y 0 1 (w.heap.size + 1) (set4 (set4 X (w.heap.size + 2) (x + dx) (y + dy) 0 1) (w.heap.size + 1) x y 0 1) ∧ Four (x + dx) (y + dy) 0 1 (w.heap.size + 2) (set4 (set4 X (w.heap.size + 2) (x + dx) (y + dy) 0 1) (w.heap.size + 1) x y 0 1) ∧ Below w.heap.size w (set4 (set4 X (w.heap.size + 2) (x + dx) (y + dy) 0 1) (w.heap.size + 1) x y 0 1)) := by
  have n1 : w.heap.size + 2 ≠ w.heap.size + 1 := by omega
  have u := set4_four (W := X) (B := w.heap.size + 2) ⟨f0, f1, f2, f3⟩ (x + dx) (y + dy) 0 1
  exact ⟨set4_four ⟨(set4_other _ _ _ _ n1.symm).trans d0, (set4_other _ _ _ _ n1.symm).trans d1, (set4_other _ _ _ _ n1.symm).trans d2, (set4_other _ _ _ _ n1.symm).trans d3⟩ _ _ _ _, ⟨(set4_other _ _ _ _ n1).trans u.c0, (set4_other _ _ _ _ n1).trans u.c1, (set4_other _ _ _ _ n1).trans u.c2, (set4_other _ _ _ _ n1).trans u.c3⟩, set4_below (set4_below BX (by omega)) (by omega)⟩
 (refine wp_region_treeHH (w.heap.size + 1) (w.heap.size + 2) (by first | assumption | (simp; omega)) (by kernel_rfl) ?_)
 (refine tree_pure 0 rfl (by kernel_rfl) (by kernel_rfl) (by kernel_rfl) rfl rfl rfl (fun K hK => ?_)); go_big_quiet_op; refine hK _ ?_; clear hK K
 (refine tree_pure 1 rfl (by kernel_rfl) (by kernel_rfl) (by kernel_rfl) rfl rfl rfl (fun K hK => ?_)); go_big_quiet_op; refine hK _ ?_; clear hK K
 (refine tree_pure 2 rfl (by kernel_rfl) (by kernel_rfl) (by kernel_rfl) rfl rfl rfl (fun K hK => ?_)); go_big_quiet_op; refine hK _ ?_; clear hK K
 (refine tree_pure 3 rfl (by kernel_rfl) (by kernel_rfl) (by kernel_rfl) rfl rfl rfl (fun K hK => ?_)); go_big_quiet_op; refine hK _ ?_; clear hK K
 (refine tree_pure 4 rfl (by kernel_rfl) (by kernel_rfl) (by kernel_rfl) rfl rfl rfl (fun K hK => ?_)); go_big_quiet_op; refine hK _ ?_; clear hK K
 (refine tree_pure 5 rfl (by kernel_rfl) (by kernel_rfl) (by kernel_rfl) rfl rfl rfl (fun K hK => ?_)); go_big_quiet_op; refine hK _ ?_; clear hK K
 (refine tree_pure 6 rfl (by kernel_rfl) (by kernel_rfl) (by kernel_rfl) rfl rfl rfl (fun K hK => ?_)); go_big_quiet_op; refine hK _ ?_; clear hK K
 (refine tree_pure 7 rfl (by kernel_rfl) (by kernel_rfl) (by kernel_rfl) rfl rfl rfl (fun K hK => ?_)); go_big_quiet_op; refine hK _ ?_; clear hK K
 (refine tree_pure 8 rfl (by kernel_rfl) (by kernel_rfl) (by kernel_rfl) rfl rfl rfl (fun K hK => ?_)); go_big_quiet_op; refine hK _ ?_; clear hK K
 (refine tree_pure 9 rfl (by kernel_rfl) (by kernel_rfl) (by kernel_rfl) rfl rfl rfl (fun K hK => ?_)); go_big_quiet_op; refine hK _ ?_; clear hK K
 (refine tree_pure 10 rfl (by kernel_rfl) (by kernel_rfl) (by kernel_rfl) rfl rfl rfl (fun K hK => ?_)); go_big_quiet_op; refine hK _ ?_; clear hK K
 (refine tree_pure 11 rfl (by kernel_rfl) (by kernel_rfl) (by kernel_rfl) rfl rfl rfl (fun K hK => ?_)); go_big_quiet_op; refine hK _ ?_; clear hK K
 (refine tree_pure 12 rfl (by kernel_rfl) (by kernel_rfl) (by kernel_rfl) rfl rfl rfl (fun K hK => ?_)); go_big_quiet_op; refine hK _ ?_; clear hK K
 (refine tree_pure 13 rfl (by kernel_rfl) (by kernel_rfl) (by kernel_rfl) rfl rfl rfl (fun K hK => ?_)); go_big_quiet_op; refine hK _ ?_; clear hK K
 (refine tree_pure 14 rfl (by kernel_rfl) (by kernel_rfl) (by kernel_rfl) rfl rfl rfl (fun K hK => ?_)); go_big_quiet_op; refine hK _ ?_; clear hK K
 (refine tree_pure 15 rfl (by kernel_rfl) (by kernel_rfl) (by kernel_rfl) rfl rfl rfl (fun K hK => ?_)); go_big_quiet_op; refine hK _ ?_; clear hK K
 refine tree_all [16] (by kernel_rfl) (by decide) ?_
 intro i hi
 simp only [List.mem_cons, List.not_mem_nil, or_false] at hi
 subst hi
 (refine tree_eff 16 rfl rfl rfl (fun K hK => ?_)); go_big_op; (first | fail | skip); (refine hK _ _ rfl (hole2_of (by first | assumption | (simp; omega)) (by (repeat' (first | (with_reducible exact Hole2Rel.refl _ _ _ _) | (with_reducible assumption) | (with_reducible refine Hole2Rel.drew ?_) | (with_reducible refine Hole2Rel.setCell ?_ ?_ _) | (with_reducible refine Hole2Rel.alloc ?_ ?_ _) | (with_reducible refine Hole2Rel.ext ?_ ?_ _) | (exact Or.inl rfl) | (exact Or.inr (Or.inl rfl)) | (simp; done) | (simp; omega))))) ?_; clear hK K)
 refine tree_all [17] (by kernel_rfl) (by decide) ?_
 intro i hi
 simp only [List.mem_cons, List.not_mem_nil, or_false] at hi
 subst hi
 (refine tree_eff 17 rfl rfl rfl (fun K hK => ?_)); go_big_op; (first | fail | skip); (refine hK _ _ rfl (hole2_of (by first | assumption | (simp; omega)) (by (repeat' (first | (with_reducible exact Hole2Rel.refl _ _ _ _) | (with_reducible assumption) | (with_reducible refine Hole2Rel.drew ?_) | (with_reducible refine Hole2Rel.setCell ?_ ?_ _) | (with_reducible refine Hole2Rel.alloc ?_ ?_ _) | (with_reducible refine Hole2Rel.ext ?_ ?_ _) | (exact Or.inl rfl) | (exact Or.inr (Or.inl rfl)) | (simp; done) | (simp; omega))))) ?_; clear hK K)
 refine tree_done (by kernel_rfl) ?_
 (go_wp2; generalize hF : World.setCell (World.setCell (World.setCell (World.setCell (World.setCell (World.setCell (World.setCell (World.setCell _ _ _) _ _) _ _) _ _) _ _) _ _) _ _) _ _ = F; have tt : Four x y 0 1 (w.heap.size + 1) F ∧ Four (x + dx) (y + dy) 0 1 (w.heap.size + 2) F ∧ Below w.heap.size w F := (by rw [← hF]; first | exact FA.out | exact FB.out); obtain ⟨⟨t0, t1, t2, t3⟩, ⟨v0, v1, v2, v3⟩, BF⟩ := tt; clear hF FA FB; refine bodyPost_ret (v := .tuple #[.agg #[.int .i64 x, .int .i64 y, .int .i64 0, .int .i64 1], .agg #[.int .i64 (x + dx), .int .i64 (y + dy), .int .i64 0, .int .i64 1]]) (by simp [results, Tryz.results138, go_sem, t0, t1, t2, t3, v0, v1, v2, v3]) rfl (by first | exact retX rfl BF | exact retX rfl BF.drew))
end Go.Proofs.YtekieoamelahkaaGreat

/- The reference's touch. -/
namespace Go.Proofs.YtekieoamelahkaaGreat
open Go.RowKit Go.Shelf
attribute [local go_sem] Oper.semAt_some

def besL (x y dx dy px py : Int) : Int := besI x y (signI dx) (signI dy) px py 1
def touchB (x y dx dy p q r s : Int) : Bool :=
 (hasP x y dx dy p q 1 || (hasP x y dx dy (p + r) (q + s) 1 || (hasP p q r s x y 1 || hasP p q r s (x + dx) (y + dy) 1))) ||
 (decide (signI (besL x y dx dy p q) * signI (besL x y dx dy (p + r) (q + s)) < 0) && decide (signI (besL p q r s x y) * signI (besL p q r s (x + dx) (y + dy)) < 0))
set_option maxRecDepth 100000 in set_option maxHeartbeats 8000000 in
theorem touch_any (x y dx dy p q r s : Int) (w : World) (h : LineOk dx dy) (h' : LineOk r s) (hx : -5000 ≤ x ∧ x ≤ 5000) (hy : -5000 ≤ y ∧ y ≤ 5000) (hp : -5000 ≤ p ∧ p ≤ 5000) (hq : -5000 ≤ q ∧ q ≤ 5000) :
 Calls Tryz.prog 137 #[.agg #[.int .i64 x, .int .i64 y, .int .i64 dx, .int .i64 dy], .agg #[.int .i64 p, .int .i64 q, .int .i64 r, .int .i64 s]] w (RetX w (.bool (touchB x y dx dy p q r s))) := by
 have b1 := h.1
 have b2 := h.2.1
 have b3 := h'.1
 have b4 := h'.2.1
 have HE1 := hidden (fun W => ends_any x y dx dy W (by omega) (by omega) (by omega) (by omega))
 have HE2 := hidden (fun W => ends_any p q r s W (by omega) (by omega) (by omega) (by omega))
 have H1 := hidden (fun W => Has_line x y dx dy W h p q 0 1 hx hy (by omega) (by omega) (by decide))
 have H2 := hidden (fun W => Has_line x y dx dy W h (p + r) (q + s) 0 1 hx hy (by omega) (by omega) (by decide))
 have H3 := hidden (fun W => Has_line p q r s W h' x y 0 1 hp hq (by omega) (by omega) (by decide))
 have H4 := hidden (fun W => Has_line p q r s W h' (x + dx) (y + dy) 0 1 hp hq (by omega) (by omega) (by decide))
 have B1 := hidden (fun W => Beside_any x y dx dy W h p q 0 1 hx hy (by omega) (by omega) (by decide))
 have B2 := hidden (fun W => Beside_any x y dx dy W h (p + r) (q + s) 0 1 hx hy (by omega) (by omega) (by decide))
 have B3 := hidden (fun W => Beside_any p q r s W h' x y 0 1 hp hq (by omega) (by omega) (by decide))
 have B4 := hidden (fun W => Beside_any p q r s W h' (x + dx) (y + dy) 0 1 hp hq (by omega) (by omega) (by decide))
 have HT : Hid (touchB x y dx dy p q r s = ((hasP x y dx dy p q 1 || (hasP x y dx dy (p + r) (q + s) 1 || (hasP p q r s x y 1 || hasP p q r s (x + dx) (y + dy) 1))) ||
  (decide (signI (besL x y dx dy p q) * signI (besL x y dx dy (p + r) (q + s)) < 0) && decide (signI (besL p q r s x y) * signI (besL p q r s (x + dx) (y + dy)) < 0)))) := rfl
 change Hid (∀ W, Calls _ _ _ _ (RetX W (.int .i64 (besL x y dx dy p q)))) at B1
 change Hid (∀ W, Calls _ _ _ _ (RetX W (.int .i64 (besL x y dx dy (p + r) (q + s))))) at B2
 change Hid (∀ W, Calls _ _ _ _ (RetX W (.int .i64 (besL p q r s x y)))) at B3
 change Hid (∀ W, Calls _ _ _ _ (RetX W (.int .i64 (besL p q r s (x + dx) (y + dy))))) at B4
 clear h h' b1 b2 b3 b4
 rw [HT.out]
 clear HT
 generalize hasP x y dx dy p q 1 = u1 at *
 generalize hasP x y dx dy (p + r) (q + s) 1 = u2 at *
 generalize hasP p q r s x y 1 = u3 at *
 generalize hasP p q r s (x + dx) (y + dy) 1 = u4 at *
 generalize besL x y dx dy p q = e1 at *
 generalize besL x y dx dy (p + r) (q + s) = e2 at *
 generalize besL p q r s x y = e3 at *
 generalize besL p q r s (x + dx) (y + dy) = e4 at *
 have G1 := hidden (fun W => sign_any e1 W)
 have G2 := hidden (fun W => sign_any e2 W)
 have G3 := hidden (fun W => sign_any e3 W)
 have G4 := hidden (fun W => sign_any e4 W)
 have s1 := sign_bd e1
 have s2 := sign_bd e2
 have s3 := sign_bd e3
 have s4 := sign_bd e4
 have m1 := sgn_mul (B := 1) s1 s2
 have m2 := sgn_mul (B := 1) s3 s4
 generalize signI e1 = f1 at *
 generalize signI e2 = f2 at *
 generalize signI e3 = f3 at *
 generalize signI e4 = f4 at *
 have w1 : IntKind.i64.wrap (f1 * f2) = f1 * f2 := IntWalk.i64_in _ (by omega)
 have w2 : IntKind.i64.wrap (f3 * f4) = f3 * f4 := IntWalk.i64_in _ (by omega)
 clear s1 s2 s3 s4 m1 m2 hx hy hp hq
 generalize x + dx = bx at *
 generalize y + dy = by' at *
 generalize p + r = ax at *
 generalize q + s = ay at *
 have cs : (u1 = true) ∨ (u1 = false ∧ u2 = true) ∨ (u1 = false ∧ u2 = false ∧ u3 = true) ∨ (u1 = false ∧ u2 = false ∧ u3 = false ∧ u4 = true) ∨ (u1 = false ∧ u2 = false ∧ u3 = false ∧ u4 = false) := by cases u1 <;> cases u2 <;> cases u3 <;> cases u4 <;> simp
 rcases cs with rfl | ⟨rfl, rfl⟩ | ⟨rfl, rfl, rfl⟩ | ⟨rfl, rfl, rfl, rfl⟩ | ⟨rfl, rfl, rfl, rfl⟩
 · refine (callsIn_wide (n := 10)).1 ?_
   refine callsIn_of_wp Tryz.func137 rfl trivial ?_ rfl
   simp only [Tryz.ntmps137, nt, Nat.reduceAdd, Nat.reduceSub]
   gi_wp2
   (refine ⟨trivial, ?_⟩; ((with_reducible refine (callsIn_wide.2 (HE1.out _)).mono ?_); rintro e w' ⟨rfl, z1, rfl⟩))
   gi_wp2
   (refine ⟨trivial, ?_⟩; ((with_reducible refine (callsIn_wide.2 (HE2.out _)).mono ?_); rintro e w' ⟨rfl, z2, rfl⟩))
   gi_wp2
   (refine ⟨trivial, ?_⟩; ((with_reducible refine (callsIn_wide.2 (H1.out _)).mono ?_); rintro e w' ⟨rfl, z3, rfl⟩))
   gi_wp2
   refine ⟨trivial, ?_⟩
   gi_wp2
   refine ⟨trivial, ?_⟩
   gi_wp2
   refine ⟨trivial, ?_⟩
   gi_wp2
   refine bodyPost_ret (v := .bool true) (by simp [results, Tryz.results137, go_sem]) rfl (retX (by simp) (by (repeat' first | with_reducible (first | apply bz0 | assumption | apply bz1 | apply bz2 | apply bz3 | apply bz4 | apply bz5) | (simp <;> omega))))
 · refine (callsIn_wide (n := 10)).1 ?_
   refine callsIn_of_wp Tryz.func137 rfl trivial ?_ rfl
   simp only [Tryz.ntmps137, nt, Nat.reduceAdd, Nat.reduceSub]
   gi_wp2
   (refine ⟨trivial, ?_⟩; ((with_reducible refine (callsIn_wide.2 (HE1.out _)).mono ?_); rintro e w' ⟨rfl, z1, rfl⟩))
   gi_wp2
   (refine ⟨trivial, ?_⟩; ((with_reducible refine (callsIn_wide.2 (HE2.out _)).mono ?_); rintro e w' ⟨rfl, z2, rfl⟩))
   gi_wp2
   (refine ⟨trivial, ?_⟩; ((with_reducible refine (callsIn_wide.2 (H1.out _)).mono ?_); rintro e w' ⟨rfl, z3, rfl⟩))
   gi_wp2
   (refine ⟨trivial, ?_⟩; ((with_reducible refine (callsIn_wide.2 (H2.out _)).mono ?_); rintro e w' ⟨rfl, z4, rfl⟩))
   gi_wp2
   refine ⟨trivial, ?_⟩
   gi_wp2
   refine ⟨trivial, ?_⟩
   gi_wp2
   refine bodyPost_ret (v := .bool true) (by simp [results, Tryz.results137, go_sem]) rfl (retX (by simp) (by (repeat' first | with_reducible (first | apply bz0 | assumption | apply bz1 | apply bz2 | apply bz3 | apply bz4 | apply bz5) | (simp <;> omega))))
 · refine (callsIn_wide (n := 10)).1 ?_
   refine callsIn_of_wp Tryz.func137 rfl trivial ?_ rfl
   simp only [Tryz.ntmps137, nt, Nat.reduceAdd, Nat.reduceSub]
   gi_wp2
   (refine ⟨trivial, ?_⟩; ((with_reducible refine (callsIn_wide.2 (HE1.out _)).mono ?_); rintro e w' ⟨rfl, z1, rfl⟩))
   gi_wp2
   (refine ⟨trivial, ?_⟩; ((with_reducible refine (callsIn_wide.2 (HE2.out _)).mono ?_); rintro e w' ⟨rfl, z2, rfl⟩))
   gi_wp2
   (refine ⟨trivial, ?_⟩; ((with_reducible refine (callsIn_wide.2 (H1.out _)).mono ?_); rintro e w' ⟨rfl, z3, rfl⟩))
   gi_wp2
   (refine ⟨trivial, ?_⟩; ((with_reducible refine (callsIn_wide.2 (H2.out _)).mono ?_); rintro e w' ⟨rfl, z4, rfl⟩))
   gi_wp2
   (refine ⟨trivial, ?_⟩; ((with_reducible refine (callsIn_wide.2 (H3.out _)).mono ?_); rintro e w' ⟨rfl, z5, rfl⟩))
   gi_wp2
   refine ⟨trivial, ?_⟩
   gi_wp2
   refine bodyPost_ret (v := .bool true) (by simp [results, Tryz.results137, go_sem]) rfl (retX (by simp) (by (repeat' first | with_reducible (first | apply bz0 | assumption | apply bz1 | apply bz2 | apply bz3 | apply bz4 | apply bz5) | (simp <;> omega))))
 · refine (callsIn_wide (n := 10)).1 ?_
   refine callsIn_of_wp Tryz.func137 rfl trivial ?_ rfl
   simp only [Tryz.ntmps137, nt, Nat.reduceAdd, Nat.reduceSub]
   gi_wp2
   (refine ⟨trivial, ?_⟩; ((with_reducible refine (callsIn_wide.2 (HE1.out _)).mono ?_); rintro e w' ⟨rfl, z1, rfl⟩))
   gi_wp2
   (refine ⟨trivial, ?_⟩; ((with_reducible refine (callsIn_wide.2 (HE2.out _)).mono ?_); rintro e w' ⟨rfl, z2, rfl⟩))
   gi_wp2
   (refine ⟨trivial, ?_⟩; ((with_reducible refine (callsIn_wide.2 (H1.out _)).mono ?_); rintro e w' ⟨rfl, z3, rfl⟩))
   gi_wp2
   (refine ⟨trivial, ?_⟩; ((with_reducible refine (callsIn_wide.2 (H2.out _)).mono ?_); rintro e w' ⟨rfl, z4, rfl⟩))
   gi_wp2
   (refine ⟨trivial, ?_⟩; ((with_reducible refine (callsIn_wide.2 (H3.out _)).mono ?_); rintro e w' ⟨rfl, z5, rfl⟩))
   gi_wp2
   (refine ⟨trivial, ?_⟩; ((with_reducible refine (callsIn_wide.2 (H4.out _)).mono ?_); rintro e w' ⟨rfl, z6, rfl⟩))
   gi_wp2
   refine bodyPost_ret (v := .bool true) (by simp [results, Tryz.results137, go_sem]) rfl (retX (by simp) (by (repeat' first | with_reducible (first | apply bz0 | assumption | apply bz1 | apply bz2 | apply bz3 | apply bz4 | apply bz5) | (simp <;> omega))))
 · cases g1 : decide (f1 * f2 < 0) with
   | false =>
    refine (callsIn_wide (n := 10)).1 ?_
    refine callsIn_of_wp Tryz.func137 rfl trivial ?_ rfl
    simp only [Tryz.ntmps137, nt, Nat.reduceAdd, Nat.reduceSub]
    gi_wp2
    (refine ⟨trivial, ?_⟩; ((with_reducible refine (callsIn_wide.2 (HE1.out _)).mono ?_); rintro e w' ⟨rfl, z1, rfl⟩))
    gi_wp2
    (refine ⟨trivial, ?_⟩; ((with_reducible refine (callsIn_wide.2 (HE2.out _)).mono ?_); rintro e w' ⟨rfl, z2, rfl⟩))
    gi_wp2
    (refine ⟨trivial, ?_⟩; ((with_reducible refine (callsIn_wide.2 (H1.out _)).mono ?_); rintro e w' ⟨rfl, z3, rfl⟩))
    gi_wp2
    (refine ⟨trivial, ?_⟩; ((with_reducible refine (callsIn_wide.2 (H2.out _)).mono ?_); rintro e w' ⟨rfl, z4, rfl⟩))
    gi_wp2
    (refine ⟨trivial, ?_⟩; ((with_reducible refine (callsIn_wide.2 (H3.out _)).mono ?_); rintro e w' ⟨rfl, z5, rfl⟩))
    gi_wp2
    (refine ⟨trivial, ?_⟩; ((with_reducible refine (callsIn_wide.2 (H4.out _)).mono ?_); rintro e w' ⟨rfl, z6, rfl⟩))
    gi_wp2
    refine wpIn_wide.2 ?_
    (refine tmX (by kernel_rfl) (by kernel_rfl) ?_); (repeat (first | (refine tmS rfl ?_; simp only [Act.put, List.setIfInBounds_toArray, List.set_cons_succ, List.set_cons_zero]) | (refine tmP rfl rfl rfl (fun K hK => ?_); go_big_quiet_op; refine hK _ ?_; clear hK K) | (refine tmE rfl rfl (fun K hK => ?_); go_big_op; (first | (go_at_call 152; first | ((with_reducible refine (B1.out _).mono ?_); rintro e w' ⟨rfl, z7, rfl⟩) | ((with_reducible refine (B2.out _).mono ?_); rintro e w' ⟨rfl, z8, rfl⟩) | ((with_reducible refine (B3.out _).mono ?_); rintro e w' ⟨rfl, z9, rfl⟩) | ((with_reducible refine (B4.out _).mono ?_); rintro e w' ⟨rfl, z10, rfl⟩)) | (go_at_call 121; first | ((with_reducible refine (G1.out _).mono ?_); rintro e w' ⟨rfl, z11, rfl⟩) | ((with_reducible refine (G2.out _).mono ?_); rintro e w' ⟨rfl, z12, rfl⟩) | ((with_reducible refine (G3.out _).mono ?_); rintro e w' ⟨rfl, z13, rfl⟩) | ((with_reducible refine (G4.out _).mono ?_); rintro e w' ⟨rfl, z14, rfl⟩)) | skip); (refine hK _ _ rfl (ext_of_below (by (repeat' first | with_reducible (first | apply bz0 | assumption | apply bz1 | apply bz2 | apply bz3 | apply bz4 | apply bz5) | (simp <;> omega)))) ?_; clear hK K)))); (refine tmN ?_)
    gi_wp2
    refine bodyPost_ret (v := .bool false) (by simp [results, Tryz.results137, go_sem]) rfl (retX (by simp) (by (repeat' first | with_reducible (first | apply bz0 | assumption | apply bz1 | apply bz2 | apply bz3 | apply bz4 | apply bz5) | (simp <;> omega))))
   | true =>
    refine (callsIn_wide (n := 10)).1 ?_
    refine callsIn_of_wp Tryz.func137 rfl trivial ?_ rfl
    simp only [Tryz.ntmps137, nt, Nat.reduceAdd, Nat.reduceSub]
    gi_wp2
    (refine ⟨trivial, ?_⟩; ((with_reducible refine (callsIn_wide.2 (HE1.out _)).mono ?_); rintro e w' ⟨rfl, z1, rfl⟩))
    gi_wp2
    (refine ⟨trivial, ?_⟩; ((with_reducible refine (callsIn_wide.2 (HE2.out _)).mono ?_); rintro e w' ⟨rfl, z2, rfl⟩))
    gi_wp2
    (refine ⟨trivial, ?_⟩; ((with_reducible refine (callsIn_wide.2 (H1.out _)).mono ?_); rintro e w' ⟨rfl, z3, rfl⟩))
    gi_wp2
    (refine ⟨trivial, ?_⟩; ((with_reducible refine (callsIn_wide.2 (H2.out _)).mono ?_); rintro e w' ⟨rfl, z4, rfl⟩))
    gi_wp2
    (refine ⟨trivial, ?_⟩; ((with_reducible refine (callsIn_wide.2 (H3.out _)).mono ?_); rintro e w' ⟨rfl, z5, rfl⟩))
    gi_wp2
    (refine ⟨trivial, ?_⟩; ((with_reducible refine (callsIn_wide.2 (H4.out _)).mono ?_); rintro e w' ⟨rfl, z6, rfl⟩))
    gi_wp2
    refine wpIn_wide.2 ?_
    (refine tmX (by kernel_rfl) (by kernel_rfl) ?_); (repeat (first | (refine tmS rfl ?_; simp only [Act.put, List.setIfInBounds_toArray, List.set_cons_succ, List.set_cons_zero]) | (refine tmP rfl rfl rfl (fun K hK => ?_); go_big_quiet_op; refine hK _ ?_; clear hK K) | (refine tmE rfl rfl (fun K hK => ?_); go_big_op; (first | (go_at_call 152; first | ((with_reducible refine (B1.out _).mono ?_); rintro e w' ⟨rfl, z7, rfl⟩) | ((with_reducible refine (B2.out _).mono ?_); rintro e w' ⟨rfl, z8, rfl⟩) | ((with_reducible refine (B3.out _).mono ?_); rintro e w' ⟨rfl, z9, rfl⟩) | ((with_reducible refine (B4.out _).mono ?_); rintro e w' ⟨rfl, z10, rfl⟩)) | (go_at_call 121; first | ((with_reducible refine (G1.out _).mono ?_); rintro e w' ⟨rfl, z11, rfl⟩) | ((with_reducible refine (G2.out _).mono ?_); rintro e w' ⟨rfl, z12, rfl⟩) | ((with_reducible refine (G3.out _).mono ?_); rintro e w' ⟨rfl, z13, rfl⟩) | ((with_reducible refine (G4.out _).mono ?_); rintro e w' ⟨rfl, z14, rfl⟩)) | skip); (refine hK _ _ rfl (ext_of_below (by (repeat' first | with_reducible (first | apply bz0 | assumption | apply bz1 | apply bz2 | apply bz3 | apply bz4 | apply bz5) | (simp <;> omega)))) ?_; clear hK K)))); (refine tmN ?_)
    gi_wp2
    refine bodyPost_ret (v := .bool (decide (f3 * f4 < 0))) (by simp [results, Tryz.results137, go_sem]) rfl (retX (by simp) (by (repeat' first | with_reducible (first | apply bz0 | assumption | apply bz1 | apply bz2 | apply bz3 | apply bz4 | apply bz5) | (simp <;> omega))))
end Go.Proofs.YtekieoamelahkaaGreat
