/- Contracts of package hall's geometry, fifth part: blocks. -/
import Derived.Test.YtekieoamelahkaaGreatM11
import Derived.Deep.RegionWith
set_option maxRecDepth 100000
set_option maxHeartbeats 1000000
set_option linter.unusedVariables false
set_option linter.unusedSimpArgs false
namespace Go.Proofs.YtekieoamelahkaaGreat
open Go.RowKit

def blocksB (a b c d x1 y1 d1 x2 y2 d2 : Int) : Bool :=
 let f := offP (plK a b c d) (plA a b c d) x1 y1 0 d1
 let g := offP (plK a b c d) (plA a b c d) x2 y2 0 d2
 if f < 0 ∧ 0 < g then spansB a b c d (x2 * (-f) - x1 * (-g)) (y2 * (-f) - y1 * (-g)) (d2 * (-f) - d1 * (-g))
 else if 0 < f ∧ g < 0 then spansB a b c d (x2 * f - x1 * g) (y2 * f - y1 * g) (d2 * f - d1 * g)
 else false

theorem blocks_any (a b c d : Int) (h1 : -5000 ≤ a ∧ a ≤ 5000) (h2 : -5000 ≤ b ∧ b ≤ 5000) (h3 : -5000 ≤ c ∧ c ≤ 5000) (h4 : -5000 ≤ d ∧ d ≤ 5000)
 (x1 y1 z1 d1 x2 y2 z2 d2 : Int) (w : World) (hd1 : 0 ≤ d1 ∧ d1 ≤ 100000) (hd2 : 0 ≤ d2 ∧ d2 ≤ 100000) (hx1 : -500000000 ≤ x1 ∧ x1 ≤ 500000000) (hy1 : -500000000 ≤ y1 ∧ y1 ≤ 500000000) (hz1 : -500000000 ≤ z1 ∧ z1 ≤ 500000000) (hx2 : -500000000 ≤ x2 ∧ x2 ≤ 500000000) (hy2 : -500000000 ≤ y2 ∧ y2 ≤ 500000000) (hz2 : -500000000 ≤ z2 ∧ z2 ≤ 500000000) :
 Calls Tryz.prog 155 #[.agg #[.int .i64 a, .int .i64 b, .int .i64 c, .int .i64 d], .agg #[.int .i64 x1, .int .i64 y1, .int .i64 z1, .int .i64 d1, .int .i64 x2, .int .i64 y2, .int .i64 z2, .int .i64 d2]] w (RetX w (.bool (blocksB a b c d x1 y1 d1 x2 y2 d2))) := by
 have hA := plA_rng (c := c) (d := d) h1 h2
 have E1 : Hid (offP (plK a b c d) (plA a b c d) x1 y1 z1 d1 = offP (plK a b c d) (plA a b c d) x1 y1 0 d1) := offP_z _ _ _ _ _ _ (plK_rng a b c d).2.2
 have E2 : Hid (offP (plK a b c d) (plA a b c d) x2 y2 z2 d2 = offP (plK a b c d) (plA a b c d) x2 y2 0 d2) := offP_z _ _ _ _ _ _ (plK_rng a b c d).2.2
 have B1 := offP_bd (plK a b c d) (plA a b c d) x1 y1 z1 d1 hA hd1 hx1 hy1 hz1
 have B2 := offP_bd (plK a b c d) (plA a b c d) x2 y2 z2 d2 hA hd2 hx2 hy2 hz2
 obtain ⟨f, hf⟩ : ∃ f, f = offP (plK a b c d) (plA a b c d) x1 y1 z1 d1 := ⟨_, rfl⟩
 obtain ⟨g, hg⟩ : ∃ g, g = offP (plK a b c d) (plA a b c d) x2 y2 z2 d2 := ⟨_, rfl⟩
 rw [← hf] at B1; rw [← hg] at B2
 have Hf := hidden hf; have Hg := hidden hg
 have HB : Hid (blocksB a b c d x1 y1 d1 x2 y2 d2 = if f < 0 ∧ 0 < g then spansB a b c d (x2 * (-f) - x1 * (-g)) (y2 * (-f) - y1 * (-g)) (d2 * (-f) - d1 * (-g)) else if 0 < f ∧ g < 0 then spansB a b c d (x2 * f - x1 * g) (y2 * f - y1 * g) (d2 * f - d1 * g) else false) := by
  unfold Hid blocksB; rw [← E1.out, ← E2.out, ← hf, ← hg]
 clear hf hg E1 E2
 have cases6 : (f = 0 ∨ g = 0 ∨ (f < 0 ∧ g < 0) ∨ (0 < f ∧ 0 < g)) ∨ (f < 0 ∧ 0 < g) ∨ (0 < f ∧ g < 0) := by omega
 rcases cases6 with hn | ⟨s1, s2⟩ | ⟨s1, s2⟩
 · have M : ∀ W : World, Calls Tryz.prog 118 #[.agg #[.int .i64 (plK a b c d), .int .i64 (plA a b c d)], .agg #[.int .i64 x1, .int .i64 y1, .int .i64 z1, .int .i64 d1, .int .i64 x2, .int .i64 y2, .int .i64 z2, .int .i64 d2]] W (RetX W (.tuple #[.agg #[.int .i64 0, .int .i64 0, .int .i64 0, .int .i64 0], .bool false])) := fun W =>
    meet_core _ _ _ _ _ _ _ _ _ _ W hA hd1 hd2 hx1 hy1 hz1 hx2 hy2 hz2 f g Hf Hg _ (fun _ _ _ h => h) (fun _ _ => by exfalso; omega) (fun _ _ => by exfalso; omega)
   have HM := hidden M
   have HR : Hid (blocksB a b c d x1 y1 d1 x2 y2 d2 = false) := by unfold Hid; rw [HB.out, if_neg (by omega), if_neg (by omega)]
   clear M Hf Hg HB hn hd1 hd2 hx1 hy1 hz1 hx2 hy2 hz2 hA B1 B2
   go_enter Tryz.func155, Tryz.ntmps155
   go_wp2
   (refine wp_region_tree (by kernel_rfl) ?_)
   (refine tree_pure 0 rfl (by kernel_rfl) (by kernel_rfl) (by kernel_rfl) rfl rfl rfl (fun K hK => ?_)); go_big_quiet_op; refine hK _ ?_; clear hK K
   (refine tree_pure 2 rfl (by kernel_rfl) (by kernel_rfl) (by kernel_rfl) rfl rfl rfl (fun K hK => ?_)); go_big_quiet_op; refine hK _ ?_; clear hK K
   refine tree_all [1, 7] (by kernel_rfl) (by decide) ?_
   intro i hi
   simp only [List.mem_cons, List.not_mem_nil, or_false] at hi
   rcases hi with rfl | rfl
   · (refine tree_eff 1 rfl rfl rfl (fun K hK => ?_)); go_big_op; (first | (go_at_call 175; refine (plane_any _ _ _ _ _ (by omega) (by omega) (by omega) (by omega)).mono ?_; rintro e w' ⟨rfl, x1, rfl⟩) | (go_at_call 118; refine (HM.out _).mono ?_; rintro e w' ⟨rfl, x2, rfl⟩) | skip); (refine hK _ _ rfl (ext_of_below (by (repeat' first | with_reducible (first | apply bz0 | assumption | apply bz1 | apply bz2 | apply bz3 | apply bz4 | apply bz5) | (simp <;> omega)))) ?_; clear hK K)
     refine tree_all [3, 7] (by kernel_rfl) (by decide) ?_
     intro i hi
     simp only [List.mem_cons, List.not_mem_nil, or_false] at hi
     rcases hi with rfl | rfl
     · (refine tree_eff 3 rfl rfl rfl (fun K hK => ?_)); go_big_op; (first | (go_at_call 175; refine (plane_any _ _ _ _ _ (by omega) (by omega) (by omega) (by omega)).mono ?_; rintro e w' ⟨rfl, x1, rfl⟩) | (go_at_call 118; refine (HM.out _).mono ?_; rintro e w' ⟨rfl, x2, rfl⟩) | skip); (refine hK _ _ rfl (ext_of_below (by (repeat' first | with_reducible (first | apply bz0 | assumption | apply bz1 | apply bz2 | apply bz3 | apply bz4 | apply bz5) | (simp <;> omega)))) ?_; clear hK K)
       (refine tree_pure 4 rfl (by kernel_rfl) (by kernel_rfl) (by kernel_rfl) rfl rfl rfl (fun K hK => ?_)); go_big_quiet_op; refine hK _ ?_; clear hK K
       (refine tree_pure 5 rfl (by kernel_rfl) (by kernel_rfl) (by kernel_rfl) rfl rfl rfl (fun K hK => ?_)); go_big_quiet_op; refine hK _ ?_; clear hK K
       (refine tree_pure 6 rfl (by kernel_rfl) (by kernel_rfl) (by kernel_rfl) rfl rfl rfl (fun K hK => ?_)); go_big_quiet_op; refine hK _ ?_; clear hK K
       refine tree_all [7] (by kernel_rfl) (by decide) ?_
       intro i hi
       simp only [List.mem_cons, List.not_mem_nil, or_false] at hi
       subst hi
       (refine tree_eff 7 rfl rfl rfl (fun K hK => ?_)); go_big_op; (first | (go_at_call 175; refine (plane_any _ _ _ _ _ (by omega) (by omega) (by omega) (by omega)).mono ?_; rintro e w' ⟨rfl, x1, rfl⟩) | (go_at_call 118; refine (HM.out _).mono ?_; rintro e w' ⟨rfl, x2, rfl⟩) | skip); (refine hK _ _ rfl (ext_of_below (by (repeat' first | with_reducible (first | apply bz0 | assumption | apply bz1 | apply bz2 | apply bz3 | apply bz4 | apply bz5) | (simp <;> omega)))) ?_; clear hK K)
       refine tree_all [8] (by kernel_rfl) (by decide) ?_
       intro i hi
       simp only [List.mem_cons, List.not_mem_nil, or_false] at hi
       subst hi
       (refine tree_eff 8 rfl rfl rfl (fun K hK => ?_)); go_big_op; (first | (go_at_call 175; refine (plane_any _ _ _ _ _ (by omega) (by omega) (by omega) (by omega)).mono ?_; rintro e w' ⟨rfl, x1, rfl⟩) | (go_at_call 118; refine (HM.out _).mono ?_; rintro e w' ⟨rfl, x2, rfl⟩) | skip); (refine hK _ _ rfl (ext_of_below (by (repeat' first | with_reducible (first | apply bz0 | assumption | apply bz1 | apply bz2 | apply bz3 | apply bz4 | apply bz5) | (simp <;> omega)))) ?_; clear hK K)
       (refine tree_pure 9 rfl (by kernel_rfl) (by kernel_rfl) (by kernel_rfl) rfl rfl rfl (fun K hK => ?_)); go_big_quiet_op; refine hK _ ?_; clear hK K
       refine tree_done (by kernel_rfl) ?_
       (go_wp2; go_ret; refine retX_bool (by rw [HR.out]) ?_; (repeat' first | with_reducible (first | apply bz0 | assumption | apply bz1 | apply bz2 | apply bz3 | apply bz4 | apply bz5) | (simp <;> omega)))
     · (refine tree_eff 7 rfl rfl rfl (fun K hK => ?_)); go_big_op; (first | (go_at_call 175; refine (plane_any _ _ _ _ _ (by omega) (by omega) (by omega) (by omega)).mono ?_; rintro e w' ⟨rfl, x1, rfl⟩) | (go_at_call 118; refine (HM.out _).mono ?_; rintro e w' ⟨rfl, x2, rfl⟩) | skip); (refine hK _ _ rfl (ext_of_below (by (repeat' first | with_reducible (first | apply bz0 | assumption | apply bz1 | apply bz2 | apply bz3 | apply bz4 | apply bz5) | (simp <;> omega)))) ?_; clear hK K)
       refine tree_all [3] (by kernel_rfl) (by decide) ?_
       intro i hi
       simp only [List.mem_cons, List.not_mem_nil, or_false] at hi
       subst hi
       (refine tree_eff 3 rfl rfl rfl (fun K hK => ?_)); go_big_op; (first | (go_at_call 175; refine (plane_any _ _ _ _ _ (by omega) (by omega) (by omega) (by omega)).mono ?_; rintro e w' ⟨rfl, x1, rfl⟩) | (go_at_call 118; refine (HM.out _).mono ?_; rintro e w' ⟨rfl, x2, rfl⟩) | skip); (refine hK _ _ rfl (ext_of_below (by (repeat' first | with_reducible (first | apply bz0 | assumption | apply bz1 | apply bz2 | apply bz3 | apply bz4 | apply bz5) | (simp <;> omega)))) ?_; clear hK K)
       (refine tree_pure 4 rfl (by kernel_rfl) (by kernel_rfl) (by kernel_rfl) rfl rfl rfl (fun K hK => ?_)); go_big_quiet_op; refine hK _ ?_; clear hK K
       (refine tree_pure 5 rfl (by kernel_rfl) (by kernel_rfl) (by kernel_rfl) rfl rfl rfl (fun K hK => ?_)); go_big_quiet_op; refine hK _ ?_; clear hK K
       (refine tree_pure 6 rfl (by kernel_rfl) (by kernel_rfl) (by kernel_rfl) rfl rfl rfl (fun K hK => ?_)); go_big_quiet_op; refine hK _ ?_; clear hK K
       refine tree_all [8] (by kernel_rfl) (by decide) ?_
       intro i hi
       simp only [List.mem_cons, List.not_mem_nil, or_false] at hi
       subst hi
       (refine tree_eff 8 rfl rfl rfl (fun K hK => ?_)); go_big_op; (first | (go_at_call 175; refine (plane_any _ _ _ _ _ (by omega) (by omega) (by omega) (by omega)).mono ?_; rintro e w' ⟨rfl, x1, rfl⟩) | (go_at_call 118; refine (HM.out _).mono ?_; rintro e w' ⟨rfl, x2, rfl⟩) | skip); (refine hK _ _ rfl (ext_of_below (by (repeat' first | with_reducible (first | apply bz0 | assumption | apply bz1 | apply bz2 | apply bz3 | apply bz4 | apply bz5) | (simp <;> omega)))) ?_; clear hK K)
       (refine tree_pure 9 rfl (by kernel_rfl) (by kernel_rfl) (by kernel_rfl) rfl rfl rfl (fun K hK => ?_)); go_big_quiet_op; refine hK _ ?_; clear hK K
       refine tree_done (by kernel_rfl) ?_
       (go_wp2; go_ret; refine retX_bool (by rw [HR.out]) ?_; (repeat' first | with_reducible (first | apply bz0 | assumption | apply bz1 | apply bz2 | apply bz3 | apply bz4 | apply bz5) | (simp <;> omega)))
   · (refine tree_eff 7 rfl rfl rfl (fun K hK => ?_)); go_big_op; (first | (go_at_call 175; refine (plane_any _ _ _ _ _ (by omega) (by omega) (by omega) (by omega)).mono ?_; rintro e w' ⟨rfl, x1, rfl⟩) | (go_at_call 118; refine (HM.out _).mono ?_; rintro e w' ⟨rfl, x2, rfl⟩) | skip); (refine hK _ _ rfl (ext_of_below (by (repeat' first | with_reducible (first | apply bz0 | assumption | apply bz1 | apply bz2 | apply bz3 | apply bz4 | apply bz5) | (simp <;> omega)))) ?_; clear hK K)
     refine tree_all [1] (by kernel_rfl) (by decide) ?_
     intro i hi
     simp only [List.mem_cons, List.not_mem_nil, or_false] at hi
     subst hi
     (refine tree_eff 1 rfl rfl rfl (fun K hK => ?_)); go_big_op; (first | (go_at_call 175; refine (plane_any _ _ _ _ _ (by omega) (by omega) (by omega) (by omega)).mono ?_; rintro e w' ⟨rfl, x1, rfl⟩) | (go_at_call 118; refine (HM.out _).mono ?_; rintro e w' ⟨rfl, x2, rfl⟩) | skip); (refine hK _ _ rfl (ext_of_below (by (repeat' first | with_reducible (first | apply bz0 | assumption | apply bz1 | apply bz2 | apply bz3 | apply bz4 | apply bz5) | (simp <;> omega)))) ?_; clear hK K)
     refine tree_all [3] (by kernel_rfl) (by decide) ?_
     intro i hi
     simp only [List.mem_cons, List.not_mem_nil, or_false] at hi
     subst hi
     (refine tree_eff 3 rfl rfl rfl (fun K hK => ?_)); go_big_op; (first | (go_at_call 175; refine (plane_any _ _ _ _ _ (by omega) (by omega) (by omega) (by omega)).mono ?_; rintro e w' ⟨rfl, x1, rfl⟩) | (go_at_call 118; refine (HM.out _).mono ?_; rintro e w' ⟨rfl, x2, rfl⟩) | skip); (refine hK _ _ rfl (ext_of_below (by (repeat' first | with_reducible (first | apply bz0 | assumption | apply bz1 | apply bz2 | apply bz3 | apply bz4 | apply bz5) | (simp <;> omega)))) ?_; clear hK K)
     (refine tree_pure 4 rfl (by kernel_rfl) (by kernel_rfl) (by kernel_rfl) rfl rfl rfl (fun K hK => ?_)); go_big_quiet_op; refine hK _ ?_; clear hK K
     (refine tree_pure 5 rfl (by kernel_rfl) (by kernel_rfl) (by kernel_rfl) rfl rfl rfl (fun K hK => ?_)); go_big_quiet_op; refine hK _ ?_; clear hK K
     (refine tree_pure 6 rfl (by kernel_rfl) (by kernel_rfl) (by kernel_rfl) rfl rfl rfl (fun K hK => ?_)); go_big_quiet_op; refine hK _ ?_; clear hK K
     refine tree_all [8] (by kernel_rfl) (by decide) ?_
     intro i hi
     simp only [List.mem_cons, List.not_mem_nil, or_false] at hi
     subst hi
     (refine tree_eff 8 rfl rfl rfl (fun K hK => ?_)); go_big_op; (first | (go_at_call 175; refine (plane_any _ _ _ _ _ (by omega) (by omega) (by omega) (by omega)).mono ?_; rintro e w' ⟨rfl, x1, rfl⟩) | (go_at_call 118; refine (HM.out _).mono ?_; rintro e w' ⟨rfl, x2, rfl⟩) | skip); (refine hK _ _ rfl (ext_of_below (by (repeat' first | with_reducible (first | apply bz0 | assumption | apply bz1 | apply bz2 | apply bz3 | apply bz4 | apply bz5) | (simp <;> omega)))) ?_; clear hK K)
     (refine tree_pure 9 rfl (by kernel_rfl) (by kernel_rfl) (by kernel_rfl) rfl rfl rfl (fun K hK => ?_)); go_big_quiet_op; refine hK _ ?_; clear hK K
     refine tree_done (by kernel_rfl) ?_
     (go_wp2; go_ret; refine retX_bool (by rw [HR.out]) ?_; (repeat' first | with_reducible (first | apply bz0 | assumption | apply bz1 | apply bz2 | apply bz3 | apply bz4 | apply bz5) | (simp <;> omega)))
 · have M : ∀ W : World, Calls Tryz.prog 118 #[.agg #[.int .i64 (plK a b c d), .int .i64 (plA a b c d)], .agg #[.int .i64 x1, .int .i64 y1, .int .i64 z1, .int .i64 d1, .int .i64 x2, .int .i64 y2, .int .i64 z2, .int .i64 d2]] W (RetX W (.tuple #[.agg #[.int .i64 (x2 * (-f) - x1 * (-g)), .int .i64 (y2 * (-f) - y1 * (-g)), .int .i64 (z2 * (-f) - z1 * (-g)), .int .i64 (d2 * (-f) - d1 * (-g))], .bool true])) := fun W =>
    meet_core _ _ _ _ _ _ _ _ _ _ W hA hd1 hd2 hx1 hy1 hz1 hx2 hy2 hz2 f g Hf Hg _ (fun _ => by exfalso; omega) (fun _ _ _ _ h => h) (fun _ _ => by exfalso; omega)
   have HM := hidden M
   have HR : Hid (blocksB a b c d x1 y1 d1 x2 y2 d2 = spansB a b c d (x2 * (-f) - x1 * (-g)) (y2 * (-f) - y1 * (-g)) (d2 * (-f) - d1 * (-g))) := by unfold Hid; rw [HB.out, if_pos ⟨s1, s2⟩]
   have ha' : -2000000000 ≤ (-f) ∧ (-f) ≤ 2000000000 := by omega
   have hb' : -2000000000 ≤ (-g) ∧ (-g) ≤ 2000000000 := by omega
   have m4 := mul_sz (A := 100000) (p := d2) ⟨by omega, by omega⟩ ha' (by omega) (by omega)
   have n4 := mul_sz (A := 100000) (p := d1) ⟨by omega, by omega⟩ hb' (by omega) (by omega)
   have p4 : 0 ≤ d2 * (-f) := Int.mul_nonneg hd2.1 (by omega)
   have q4 : 0 ≤ d1 * (-(-g)) := Int.mul_nonneg hd1.1 (by omega)
   have hD : 0 ≤ d2 * (-f) - d1 * (-g) ∧ d2 * (-f) - d1 * (-g) ≤ 1000000000000000 := by rw [Int.mul_neg] at q4; omega
   generalize d2 * (-f) - d1 * (-g) = D at *
   generalize x2 * (-f) - x1 * (-g) = X at *
   generalize y2 * (-f) - y1 * (-g) = Y at *
   generalize z2 * (-f) - z1 * (-g) = Z at *
   clear M Hf Hg HB hd1 hd2 hx1 hy1 hz1 hx2 hy2 hz2 hA B1 B2 m4 n4 p4 q4 ha' hb'
   go_enter Tryz.func155, Tryz.ntmps155
   go_wp2
   (refine wp_region_tree (by kernel_rfl) ?_)
   (refine tree_pure 0 rfl (by kernel_rfl) (by kernel_rfl) (by kernel_rfl) rfl rfl rfl (fun K hK => ?_)); go_big_quiet_op; refine hK _ ?_; clear hK K
   (refine tree_pure 2 rfl (by kernel_rfl) (by kernel_rfl) (by kernel_rfl) rfl rfl rfl (fun K hK => ?_)); go_big_quiet_op; refine hK _ ?_; clear hK K
   refine tree_all [1, 7] (by kernel_rfl) (by decide) ?_
   intro i hi
   simp only [List.mem_cons, List.not_mem_nil, or_false] at hi
   rcases hi with rfl | rfl
   · (refine tree_eff 1 rfl rfl rfl (fun K hK => ?_)); go_big_op; (first | (go_at_call 175; refine (plane_any _ _ _ _ _ (by omega) (by omega) (by omega) (by omega)).mono ?_; rintro e w' ⟨rfl, x1, rfl⟩) | (go_at_call 118; refine (HM.out _).mono ?_; rintro e w' ⟨rfl, x2, rfl⟩) | skip); (refine hK _ _ rfl (ext_of_below (by (repeat' first | with_reducible (first | apply bz0 | assumption | apply bz1 | apply bz2 | apply bz3 | apply bz4 | apply bz5) | (simp <;> omega)))) ?_; clear hK K)
     refine tree_all [3, 7] (by kernel_rfl) (by decide) ?_
     intro i hi
     simp only [List.mem_cons, List.not_mem_nil, or_false] at hi
     rcases hi with rfl | rfl
     · (refine tree_eff 3 rfl rfl rfl (fun K hK => ?_)); go_big_op; (first | (go_at_call 175; refine (plane_any _ _ _ _ _ (by omega) (by omega) (by omega) (by omega)).mono ?_; rintro e w' ⟨rfl, x1, rfl⟩) | (go_at_call 118; refine (HM.out _).mono ?_; rintro e w' ⟨rfl, x2, rfl⟩) | skip); (refine hK _ _ rfl (ext_of_below (by (repeat' first | with_reducible (first | apply bz0 | assumption | apply bz1 | apply bz2 | apply bz3 | apply bz4 | apply bz5) | (simp <;> omega)))) ?_; clear hK K)
       (refine tree_pure 4 rfl (by kernel_rfl) (by kernel_rfl) (by kernel_rfl) rfl rfl rfl (fun K hK => ?_)); go_big_quiet_op; refine hK _ ?_; clear hK K
       (refine tree_pure 5 rfl (by kernel_rfl) (by kernel_rfl) (by kernel_rfl) rfl rfl rfl (fun K hK => ?_)); go_big_quiet_op; refine hK _ ?_; clear hK K
       (refine tree_pure 6 rfl (by kernel_rfl) (by kernel_rfl) (by kernel_rfl) rfl rfl rfl (fun K hK => ?_)); go_big_quiet_op; refine hK _ ?_; clear hK K
       refine tree_all [7] (by kernel_rfl) (by decide) ?_
       intro i hi
       simp only [List.mem_cons, List.not_mem_nil, or_false] at hi
       subst hi
       (refine tree_eff 7 rfl rfl rfl (fun K hK => ?_)); go_big_op; (first | (go_at_call 175; refine (plane_any _ _ _ _ _ (by omega) (by omega) (by omega) (by omega)).mono ?_; rintro e w' ⟨rfl, x1, rfl⟩) | (go_at_call 118; refine (HM.out _).mono ?_; rintro e w' ⟨rfl, x2, rfl⟩) | skip); (refine hK _ _ rfl (ext_of_below (by (repeat' first | with_reducible (first | apply bz0 | assumption | apply bz1 | apply bz2 | apply bz3 | apply bz4 | apply bz5) | (simp <;> omega)))) ?_; clear hK K)
       refine tree_all [8] (by kernel_rfl) (by decide) ?_
       intro i hi
       simp only [List.mem_cons, List.not_mem_nil, or_false] at hi
       subst hi
       (refine tree_eff 8 rfl rfl rfl (fun K hK => ?_)); go_big_op; (first | (go_at_call 175; refine (plane_any _ _ _ _ _ (by omega) (by omega) (by omega) (by omega)).mono ?_; rintro e w' ⟨rfl, x1, rfl⟩) | (go_at_call 118; refine (HM.out _).mono ?_; rintro e w' ⟨rfl, x2, rfl⟩) | skip); (refine hK _ _ rfl (ext_of_below (by (repeat' first | with_reducible (first | apply bz0 | assumption | apply bz1 | apply bz2 | apply bz3 | apply bz4 | apply bz5) | (simp <;> omega)))) ?_; clear hK K)
       (refine tree_pure 9 rfl (by kernel_rfl) (by kernel_rfl) (by kernel_rfl) rfl rfl rfl (fun K hK => ?_)); go_big_quiet_op; refine hK _ ?_; clear hK K
       refine tree_done (by kernel_rfl) ?_
       (go_wp2_with (go_at_call 183; refine (spans_any _ _ _ _ _ _ _ _ _ (by omega) (by omega) (by omega) (by omega) (by omega)).mono ?_; rintro e w' ⟨rfl, x3, rfl⟩); go_ret; refine retX_bool (by rw [HR.out]) ?_; (repeat' first | with_reducible (first | apply bz0 | assumption | apply bz1 | apply bz2 | apply bz3 | apply bz4 | apply bz5) | (simp <;> omega)))
     · (refine tree_eff 7 rfl rfl rfl (fun K hK => ?_)); go_big_op; (first | (go_at_call 175; refine (plane_any _ _ _ _ _ (by omega) (by omega) (by omega) (by omega)).mono ?_; rintro e w' ⟨rfl, x1, rfl⟩) | (go_at_call 118; refine (HM.out _).mono ?_; rintro e w' ⟨rfl, x2, rfl⟩) | skip); (refine hK _ _ rfl (ext_of_below (by (repeat' first | with_reducible (first | apply bz0 | assumption | apply bz1 | apply bz2 | apply bz3 | apply bz4 | apply bz5) | (simp <;> omega)))) ?_; clear hK K)
       refine tree_all [3] (by kernel_rfl) (by decide) ?_
       intro i hi
       simp only [List.mem_cons, List.not_mem_nil, or_false] at hi
       subst hi
       (refine tree_eff 3 rfl rfl rfl (fun K hK => ?_)); go_big_op; (first | (go_at_call 175; refine (plane_any _ _ _ _ _ (by omega) (by omega) (by omega) (by omega)).mono ?_; rintro e w' ⟨rfl, x1, rfl⟩) | (go_at_call 118; refine (HM.out _).mono ?_; rintro e w' ⟨rfl, x2, rfl⟩) | skip); (refine hK _ _ rfl (ext_of_below (by (repeat' first | with_reducible (first | apply bz0 | assumption | apply bz1 | apply bz2 | apply bz3 | apply bz4 | apply bz5) | (simp <;> omega)))) ?_; clear hK K)
       (refine tree_pure 4 rfl (by kernel_rfl) (by kernel_rfl) (by kernel_rfl) rfl rfl rfl (fun K hK => ?_)); go_big_quiet_op; refine hK _ ?_; clear hK K
       (refine tree_pure 5 rfl (by kernel_rfl) (by kernel_rfl) (by kernel_rfl) rfl rfl rfl (fun K hK => ?_)); go_big_quiet_op; refine hK _ ?_; clear hK K
       (refine tree_pure 6 rfl (by kernel_rfl) (by kernel_rfl) (by kernel_rfl) rfl rfl rfl (fun K hK => ?_)); go_big_quiet_op; refine hK _ ?_; clear hK K
       refine tree_all [8] (by kernel_rfl) (by decide) ?_
       intro i hi
       simp only [List.mem_cons, List.not_mem_nil, or_false] at hi
       subst hi
       (refine tree_eff 8 rfl rfl rfl (fun K hK => ?_)); go_big_op; (first | (go_at_call 175; refine (plane_any _ _ _ _ _ (by omega) (by omega) (by omega) (by omega)).mono ?_; rintro e w' ⟨rfl, x1, rfl⟩) | (go_at_call 118; refine (HM.out _).mono ?_; rintro e w' ⟨rfl, x2, rfl⟩) | skip); (refine hK _ _ rfl (ext_of_below (by (repeat' first | with_reducible (first | apply bz0 | assumption | apply bz1 | apply bz2 | apply bz3 | apply bz4 | apply bz5) | (simp <;> omega)))) ?_; clear hK K)
       (refine tree_pure 9 rfl (by kernel_rfl) (by kernel_rfl) (by kernel_rfl) rfl rfl rfl (fun K hK => ?_)); go_big_quiet_op; refine hK _ ?_; clear hK K
       refine tree_done (by kernel_rfl) ?_
       (go_wp2_with (go_at_call 183; refine (spans_any _ _ _ _ _ _ _ _ _ (by omega) (by omega) (by omega) (by omega) (by omega)).mono ?_; rintro e w' ⟨rfl, x3, rfl⟩); go_ret; refine retX_bool (by rw [HR.out]) ?_; (repeat' first | with_reducible (first | apply bz0 | assumption | apply bz1 | apply bz2 | apply bz3 | apply bz4 | apply bz5) | (simp <;> omega)))
   · (refine tree_eff 7 rfl rfl rfl (fun K hK => ?_)); go_big_op; (first | (go_at_call 175; refine (plane_any _ _ _ _ _ (by omega) (by omega) (by omega) (by omega)).mono ?_; rintro e w' ⟨rfl, x1, rfl⟩) | (go_at_call 118; refine (HM.out _).mono ?_; rintro e w' ⟨rfl, x2, rfl⟩) | skip); (refine hK _ _ rfl (ext_of_below (by (repeat' first | with_reducible (first | apply bz0 | assumption | apply bz1 | apply bz2 | apply bz3 | apply bz4 | apply bz5) | (simp <;> omega)))) ?_; clear hK K)
     refine tree_all [1] (by kernel_rfl) (by decide) ?_
     intro i hi
     simp only [List.mem_cons, List.not_mem_nil, or_false] at hi
     subst hi
     (refine tree_eff 1 rfl rfl rfl (fun K hK => ?_)); go_big_op; (first | (go_at_call 175; refine (plane_any _ _ _ _ _ (by omega) (by omega) (by omega) (by omega)).mono ?_; rintro e w' ⟨rfl, x1, rfl⟩) | (go_at_call 118; refine (HM.out _).mono ?_; rintro e w' ⟨rfl, x2, rfl⟩) | skip); (refine hK _ _ rfl (ext_of_below (by (repeat' first | with_reducible (first | apply bz0 | assumption | apply bz1 | apply bz2 | apply bz3 | apply bz4 | apply bz5) | (simp <;> omega)))) ?_; clear hK K)
     refine tree_all [3] (by kernel_rfl) (by decide) ?_
     intro i hi
     simp only [List.mem_cons, List.not_mem_nil, or_false] at hi
     subst hi
     (refine tree_eff 3 rfl rfl rfl (fun K hK => ?_)); go_big_op; (first | (go_at_call 175; refine (plane_any _ _ _ _ _ (by omega) (by omega) (by omega) (by omega)).mono ?_; rintro e w' ⟨rfl, x1, rfl⟩) | (go_at_call 118; refine (HM.out _).mono ?_; rintro e w' ⟨rfl, x2, rfl⟩) | skip); (refine hK _ _ rfl (ext_of_below (by (repeat' first | with_reducible (first | apply bz0 | assumption | apply bz1 | apply bz2 | apply bz3 | apply bz4 | apply bz5) | (simp <;> omega)))) ?_; clear hK K)
     (refine tree_pure 4 rfl (by kernel_rfl) (by kernel_rfl) (by kernel_rfl) rfl rfl rfl (fun K hK => ?_)); go_big_quiet_op; refine hK _ ?_; clear hK K
     (refine tree_pure 5 rfl (by kernel_rfl) (by kernel_rfl) (by kernel_rfl) rfl rfl rfl (fun K hK => ?_)); go_big_quiet_op; refine hK _ ?_; clear hK K
     (refine tree_pure 6 rfl (by kernel_rfl) (by kernel_rfl) (by kernel_rfl) rfl rfl rfl (fun K hK => ?_)); go_big_quiet_op; refine hK _ ?_; clear hK K
     refine tree_all [8] (by kernel_rfl) (by decide) ?_
     intro i hi
     simp only [List.mem_cons, List.not_mem_nil, or_false] at hi
     subst hi
     (refine tree_eff 8 rfl rfl rfl (fun K hK => ?_)); go_big_op; (first | (go_at_call 175; refine (plane_any _ _ _ _ _ (by omega) (by omega) (by omega) (by omega)).mono ?_; rintro e w' ⟨rfl, x1, rfl⟩) | (go_at_call 118; refine (HM.out _).mono ?_; rintro e w' ⟨rfl, x2, rfl⟩) | skip); (refine hK _ _ rfl (ext_of_below (by (repeat' first | with_reducible (first | apply bz0 | assumption | apply bz1 | apply bz2 | apply bz3 | apply bz4 | apply bz5) | (simp <;> omega)))) ?_; clear hK K)
     (refine tree_pure 9 rfl (by kernel_rfl) (by kernel_rfl) (by kernel_rfl) rfl rfl rfl (fun K hK => ?_)); go_big_quiet_op; refine hK _ ?_; clear hK K
     refine tree_done (by kernel_rfl) ?_
     (go_wp2_with (go_at_call 183; refine (spans_any _ _ _ _ _ _ _ _ _ (by omega) (by omega) (by omega) (by omega) (by omega)).mono ?_; rintro e w' ⟨rfl, x3, rfl⟩); go_ret; refine retX_bool (by rw [HR.out]) ?_; (repeat' first | with_reducible (first | apply bz0 | assumption | apply bz1 | apply bz2 | apply bz3 | apply bz4 | apply bz5) | (simp <;> omega)))
 · have M : ∀ W : World, Calls Tryz.prog 118 #[.agg #[.int .i64 (plK a b c d), .int .i64 (plA a b c d)], .agg #[.int .i64 x1, .int .i64 y1, .int .i64 z1, .int .i64 d1, .int .i64 x2, .int .i64 y2, .int .i64 z2, .int .i64 d2]] W (RetX W (.tuple #[.agg #[.int .i64 (x2 * f - x1 * g), .int .i64 (y2 * f - y1 * g), .int .i64 (z2 * f - z1 * g), .int .i64 (d2 * f - d1 * g)], .bool true])) := fun W =>
    meet_core _ _ _ _ _ _ _ _ _ _ W hA hd1 hd2 hx1 hy1 hz1 hx2 hy2 hz2 f g Hf Hg _ (fun _ => by exfalso; omega) (fun _ _ => by exfalso; omega) (fun _ _ _ _ h => h)
   have HM := hidden M
   have HR : Hid (blocksB a b c d x1 y1 d1 x2 y2 d2 = spansB a b c d (x2 * f - x1 * g) (y2 * f - y1 * g) (d2 * f - d1 * g)) := by unfold Hid; rw [HB.out, if_neg (by omega), if_pos ⟨s1, s2⟩]
   have ha' : -2000000000 ≤ f ∧ f ≤ 2000000000 := by omega
   have hb' : -2000000000 ≤ g ∧ g ≤ 2000000000 := by omega
   have m4 := mul_sz (A := 100000) (p := d2) ⟨by omega, by omega⟩ ha' (by omega) (by omega)
   have n4 := mul_sz (A := 100000) (p := d1) ⟨by omega, by omega⟩ hb' (by omega) (by omega)
   have p4 : 0 ≤ d2 * f := Int.mul_nonneg hd2.1 (by omega)
   have q4 : 0 ≤ d1 * (-g) := Int.mul_nonneg hd1.1 (by omega)
   have hD : 0 ≤ d2 * f - d1 * g ∧ d2 * f - d1 * g ≤ 1000000000000000 := by rw [Int.mul_neg] at q4; omega
   generalize d2 * f - d1 * g = D at *
   generalize x2 * f - x1 * g = X at *
   generalize y2 * f - y1 * g = Y at *
   generalize z2 * f - z1 * g = Z at *
   clear M Hf Hg HB hd1 hd2 hx1 hy1 hz1 hx2 hy2 hz2 hA B1 B2 m4 n4 p4 q4 ha' hb'
   go_enter Tryz.func155, Tryz.ntmps155
   go_wp2
   (refine wp_region_tree (by kernel_rfl) ?_)
   (refine tree_pure 0 rfl (by kernel_rfl) (by kernel_rfl) (by kernel_rfl) rfl rfl rfl (fun K hK => ?_)); go_big_quiet_op; refine hK _ ?_; clear hK K
   (refine tree_pure 2 rfl (by kernel_rfl) (by kernel_rfl) (by kernel_rfl) rfl rfl rfl (fun K hK => ?_)); go_big_quiet_op; refine hK _ ?_; clear hK K
   refine tree_all [1, 7] (by kernel_rfl) (by decide) ?_
   intro i hi
   simp only [List.mem_cons, List.not_mem_nil, or_false] at hi
   rcases hi with rfl | rfl
   · (refine tree_eff 1 rfl rfl rfl (fun K hK => ?_)); go_big_op; (first | (go_at_call 175; refine (plane_any _ _ _ _ _ (by omega) (by omega) (by omega) (by omega)).mono ?_; rintro e w' ⟨rfl, x1, rfl⟩) | (go_at_call 118; refine (HM.out _).mono ?_; rintro e w' ⟨rfl, x2, rfl⟩) | skip); (refine hK _ _ rfl (ext_of_below (by (repeat' first | with_reducible (first | apply bz0 | assumption | apply bz1 | apply bz2 | apply bz3 | apply bz4 | apply bz5) | (simp <;> omega)))) ?_; clear hK K)
     refine tree_all [3, 7] (by kernel_rfl) (by decide) ?_
     intro i hi
     simp only [List.mem_cons, List.not_mem_nil, or_false] at hi
     rcases hi with rfl | rfl
     · (refine tree_eff 3 rfl rfl rfl (fun K hK => ?_)); go_big_op; (first | (go_at_call 175; refine (plane_any _ _ _ _ _ (by omega) (by omega) (by omega) (by omega)).mono ?_; rintro e w' ⟨rfl, x1, rfl⟩) | (go_at_call 118; refine (HM.out _).mono ?_; rintro e w' ⟨rfl, x2, rfl⟩) | skip); (refine hK _ _ rfl (ext_of_below (by (repeat' first | with_reducible (first | apply bz0 | assumption | apply bz1 | apply bz2 | apply bz3 | apply bz4 | apply bz5) | (simp <;> omega)))) ?_; clear hK K)
       (refine tree_pure 4 rfl (by kernel_rfl) (by kernel_rfl) (by kernel_rfl) rfl rfl rfl (fun K hK => ?_)); go_big_quiet_op; refine hK _ ?_; clear hK K
       (refine tree_pure 5 rfl (by kernel_rfl) (by kernel_rfl) (by kernel_rfl) rfl rfl rfl (fun K hK => ?_)); go_big_quiet_op; refine hK _ ?_; clear hK K
       (refine tree_pure 6 rfl (by kernel_rfl) (by kernel_rfl) (by kernel_rfl) rfl rfl rfl (fun K hK => ?_)); go_big_quiet_op; refine hK _ ?_; clear hK K
       refine tree_all [7] (by kernel_rfl) (by decide) ?_
       intro i hi
       simp only [List.mem_cons, List.not_mem_nil, or_false] at hi
       subst hi
       (refine tree_eff 7 rfl rfl rfl (fun K hK => ?_)); go_big_op; (first | (go_at_call 175; refine (plane_any _ _ _ _ _ (by omega) (by omega) (by omega) (by omega)).mono ?_; rintro e w' ⟨rfl, x1, rfl⟩) | (go_at_call 118; refine (HM.out _).mono ?_; rintro e w' ⟨rfl, x2, rfl⟩) | skip); (refine hK _ _ rfl (ext_of_below (by (repeat' first | with_reducible (first | apply bz0 | assumption | apply bz1 | apply bz2 | apply bz3 | apply bz4 | apply bz5) | (simp <;> omega)))) ?_; clear hK K)
       refine tree_all [8] (by kernel_rfl) (by decide) ?_
       intro i hi
       simp only [List.mem_cons, List.not_mem_nil, or_false] at hi
       subst hi
       (refine tree_eff 8 rfl rfl rfl (fun K hK => ?_)); go_big_op; (first | (go_at_call 175; refine (plane_any _ _ _ _ _ (by omega) (by omega) (by omega) (by omega)).mono ?_; rintro e w' ⟨rfl, x1, rfl⟩) | (go_at_call 118; refine (HM.out _).mono ?_; rintro e w' ⟨rfl, x2, rfl⟩) | skip); (refine hK _ _ rfl (ext_of_below (by (repeat' first | with_reducible (first | apply bz0 | assumption | apply bz1 | apply bz2 | apply bz3 | apply bz4 | apply bz5) | (simp <;> omega)))) ?_; clear hK K)
       (refine tree_pure 9 rfl (by kernel_rfl) (by kernel_rfl) (by kernel_rfl) rfl rfl rfl (fun K hK => ?_)); go_big_quiet_op; refine hK _ ?_; clear hK K
       refine tree_done (by kernel_rfl) ?_
       (go_wp2_with (go_at_call 183; refine (spans_any _ _ _ _ _ _ _ _ _ (by omega) (by omega) (by omega) (by omega) (by omega)).mono ?_; rintro e w' ⟨rfl, x3, rfl⟩); go_ret; refine retX_bool (by rw [HR.out]) ?_; (repeat' first | with_reducible (first | apply bz0 | assumption | apply bz1 | apply bz2 | apply bz3 | apply bz4 | apply bz5) | (simp <;> omega)))
     · (refine tree_eff 7 rfl rfl rfl (fun K hK => ?_)); go_big_op; (first | (go_at_call 175; refine (plane_any _ _ _ _ _ (by omega) (by omega) (by omega) (by omega)).mono ?_; rintro e w' ⟨rfl, x1, rfl⟩) | (go_at_call 118; refine (HM.out _).mono ?_; rintro e w' ⟨rfl, x2, rfl⟩) | skip); (refine hK _ _ rfl (ext_of_below (by (repeat' first | with_reducible (first | apply bz0 | assumption | apply bz1 | apply bz2 | apply bz3 | apply bz4 | apply bz5) | (simp <;> omega)))) ?_; clear hK K)
       refine tree_all [3] (by kernel_rfl) (by decide) ?_
       intro i hi
       simp only [List.mem_cons, List.not_mem_nil, or_false] at hi
       subst hi
       (refine tree_eff 3 rfl rfl rfl (fun K hK => ?_)); go_big_op; (first | (go_at_call 175; refine (plane_any _ _ _ _ _ (by omega) (by omega) (by omega) (by omega)).mono ?_; rintro e w' ⟨rfl, x1, rfl⟩) | (go_at_call 118; refine (HM.out _).mono ?_; rintro e w' ⟨rfl, x2, rfl⟩) | skip); (refine hK _ _ rfl (ext_of_below (by (repeat' first | with_reducible (first | apply bz0 | assumption | apply bz1 | apply bz2 | apply bz3 | apply bz4 | apply bz5) | (simp <;> omega)))) ?_; clear hK K)
       (refine tree_pure 4 rfl (by kernel_rfl) (by kernel_rfl) (by kernel_rfl) rfl rfl rfl (fun K hK => ?_)); go_big_quiet_op; refine hK _ ?_; clear hK K
       (refine tree_pure 5 rfl (by kernel_rfl) (by kernel_rfl) (by kernel_rfl) rfl rfl rfl (fun K hK => ?_)); go_big_quiet_op; refine hK _ ?_; clear hK K
       (refine tree_pure 6 rfl (by kernel_rfl) (by kernel_rfl) (by kernel_rfl) rfl rfl rfl (fun K hK => ?_)); go_big_quiet_op; refine hK _ ?_; clear hK K
       refine tree_all [8] (by kernel_rfl) (by decide) ?_
       intro i hi
       simp only [List.mem_cons, List.not_mem_nil, or_false] at hi
       subst hi
       (refine tree_eff 8 rfl rfl rfl (fun K hK => ?_)); go_big_op; (first | (go_at_call 175; refine (plane_any _ _ _ _ _ (by omega) (by omega) (by omega) (by omega)).mono ?_; rintro e w' ⟨rfl, x1, rfl⟩) | (go_at_call 118; refine (HM.out _).mono ?_; rintro e w' ⟨rfl, x2, rfl⟩) | skip); (refine hK _ _ rfl (ext_of_below (by (repeat' first | with_reducible (first | apply bz0 | assumption | apply bz1 | apply bz2 | apply bz3 | apply bz4 | apply bz5) | (simp <;> omega)))) ?_; clear hK K)
       (refine tree_pure 9 rfl (by kernel_rfl) (by kernel_rfl) (by kernel_rfl) rfl rfl rfl (fun K hK => ?_)); go_big_quiet_op; refine hK _ ?_; clear hK K
       refine tree_done (by kernel_rfl) ?_
       (go_wp2_with (go_at_call 183; refine (spans_any _ _ _ _ _ _ _ _ _ (by omega) (by omega) (by omega) (by omega) (by omega)).mono ?_; rintro e w' ⟨rfl, x3, rfl⟩); go_ret; refine retX_bool (by rw [HR.out]) ?_; (repeat' first | with_reducible (first | apply bz0 | assumption | apply bz1 | apply bz2 | apply bz3 | apply bz4 | apply bz5) | (simp <;> omega)))
   · (refine tree_eff 7 rfl rfl rfl (fun K hK => ?_)); go_big_op; (first | (go_at_call 175; refine (plane_any _ _ _ _ _ (by omega) (by omega) (by omega) (by omega)).mono ?_; rintro e w' ⟨rfl, x1, rfl⟩) | (go_at_call 118; refine (HM.out _).mono ?_; rintro e w' ⟨rfl, x2, rfl⟩) | skip); (refine hK _ _ rfl (ext_of_below (by (repeat' first | with_reducible (first | apply bz0 | assumption | apply bz1 | apply bz2 | apply bz3 | apply bz4 | apply bz5) | (simp <;> omega)))) ?_; clear hK K)
     refine tree_all [1] (by kernel_rfl) (by decide) ?_
     intro i hi
     simp only [List.mem_cons, List.not_mem_nil, or_false] at hi
     subst hi
     (refine tree_eff 1 rfl rfl rfl (fun K hK => ?_)); go_big_op; (first | (go_at_call 175; refine (plane_any _ _ _ _ _ (by omega) (by omega) (by omega) (by omega)).mono ?_; rintro e w' ⟨rfl, x1, rfl⟩) | (go_at_call 118; refine (HM.out _).mono ?_; rintro e w' ⟨rfl, x2, rfl⟩) | skip); (refine hK _ _ rfl (ext_of_below (by (repeat' first | with_reducible (first | apply bz0 | assumption | apply bz1 | apply bz2 | apply bz3 | apply bz4 | apply bz5) | (simp <;> omega)))) ?_; clear hK K)
     refine tree_all [3] (by kernel_rfl) (by decide) ?_
     intro i hi
     simp only [List.mem_cons, List.not_mem_nil, or_false] at hi
     subst hi
     (refine tree_eff 3 rfl rfl rfl (fun K hK => ?_)); go_big_op; (first | (go_at_call 175; refine (plane_any _ _ _ _ _ (by omega) (by omega) (by omega) (by omega)).mono ?_; rintro e w' ⟨rfl, x1, rfl⟩) | (go_at_call 118; refine (HM.out _).mono ?_; rintro e w' ⟨rfl, x2, rfl⟩) | skip); (refine hK _ _ rfl (ext_of_below (by (repeat' first | with_reducible (first | apply bz0 | assumption | apply bz1 | apply bz2 | apply bz3 | apply bz4 | apply bz5) | (simp <;> omega)))) ?_; clear hK K)
     (refine tree_pure 4 rfl (by kernel_rfl) (by kernel_rfl) (by kernel_rfl) rfl rfl rfl (fun K hK => ?_)); go_big_quiet_op; refine hK _ ?_; clear hK K
     (refine tree_pure 5 rfl (by kernel_rfl) (by kernel_rfl) (by kernel_rfl) rfl rfl rfl (fun K hK => ?_)); go_big_quiet_op; refine hK _ ?_; clear hK K
     (refine tree_pure 6 rfl (by kernel_rfl) (by kernel_rfl) (by kernel_rfl) rfl rfl rfl (fun K hK => ?_)); go_big_quiet_op; refine hK _ ?_; clear hK K
     refine tree_all [8] (by kernel_rfl) (by decide) ?_
     intro i hi
     simp only [List.mem_cons, List.not_mem_nil, or_false] at hi
     subst hi
     (refine tree_eff 8 rfl rfl rfl (fun K hK => ?_)); go_big_op; (first | (go_at_call 175; refine (plane_any _ _ _ _ _ (by omega) (by omega) (by omega) (by omega)).mono ?_; rintro e w' ⟨rfl, x1, rfl⟩) | (go_at_call 118; refine (HM.out _).mono ?_; rintro e w' ⟨rfl, x2, rfl⟩) | skip); (refine hK _ _ rfl (ext_of_below (by (repeat' first | with_reducible (first | apply bz0 | assumption | apply bz1 | apply bz2 | apply bz3 | apply bz4 | apply bz5) | (simp <;> omega)))) ?_; clear hK K)
     (refine tree_pure 9 rfl (by kernel_rfl) (by kernel_rfl) (by kernel_rfl) rfl rfl rfl (fun K hK => ?_)); go_big_quiet_op; refine hK _ ?_; clear hK K
     refine tree_done (by kernel_rfl) ?_
     (go_wp2_with (go_at_call 183; refine (spans_any _ _ _ _ _ _ _ _ _ (by omega) (by omega) (by omega) (by omega) (by omega)).mono ?_; rintro e w' ⟨rfl, x3, rfl⟩); go_ret; refine retX_bool (by rw [HR.out]) ?_; (repeat' first | with_reducible (first | apply bz0 | assumption | apply bz1 | apply bz2 | apply bz3 | apply bz4 | apply bz5) | (simp <;> omega)))
end Go.Proofs.YtekieoamelahkaaGreat
