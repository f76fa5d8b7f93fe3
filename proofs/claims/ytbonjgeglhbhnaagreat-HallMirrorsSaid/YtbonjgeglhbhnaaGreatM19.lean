/- Whether a way is blocked by a sheet in a plane. -/
import Derived.Test.YtbonjgeglhbhnaaGreatM17
import Derived.Test.YtbonjgeglhbhnaaGreatM12
import Derived.Test.YtbonjgeglhbhnaaGreatM18
set_option linter.unusedVariables false
set_option linter.unusedSimpArgs false
namespace Go.Proofs.YtbonjgeglhbhnaaGreat
open Go.RowKit Go.Shelf
attribute [local go_sem] Oper.semAt_some

theorem bodyPostM_ret {F : Fence} {n : Nat} {P : Program} {fn : Func} {R : Ending → World → Prop} {a : Act} {w : World} {v : Value} (hr : (results fn a.tmps).run P w = .ok v w) (hd : a.defers = []) (hR : R (.returned v) w) : bodyPostM F n P fn R .ret a w := by
  cases a
  subst hd
  exact ⟨v, hr, hR⟩

def rimB (a b c d x1 y1 d1 x2 y2 d2 : Int) (k : Nat) : Bool := blocksB (rimX1 a b c d k) (rimY1 a b c d k) (rimX2 a b c d k) (rimY2 a b c d k) x1 y1 d1 x2 y2 d2
def rimsB (a b c d x1 y1 d1 x2 y2 d2 : Int) : Bool := (List.range 4).any (rimB a b c d x1 y1 d1 x2 y2 d2)
def sheetMeetB (a b c d f g x1 y1 d1 x2 y2 d2 : Int) : Bool :=
  if f < 0 ∧ 0 < g then sheetB a b c d (x2 * (-f) - x1 * (-g)) (y2 * (-f) - y1 * (-g)) (d2 * (-f) - d1 * (-g))
  else if 0 < f ∧ g < 0 then sheetB a b c d (x2 * f - x1 * g) (y2 * f - y1 * g) (d2 * f - d1 * g)
  else false
def sheetBlocksB (a b c d k A x1 y1 z1 d1 x2 y2 z2 d2 : Int) : Bool :=
  if offP k A x1 y1 z1 d1 = 0 ∧ offP k A x2 y2 z2 d2 = 0 then rimsB a b c d x1 y1 d1 x2 y2 d2 || sheetB a b c d (x1 * d2 + x2 * d1) (y1 * d2 + y2 * d1) (2 * d1 * d2)
  else sheetMeetB a b c d (offP k A x1 y1 z1 d1) (offP k A x2 y2 z2 d2) x1 y1 d1 x2 y2 d2


set_option maxRecDepth 100000 in set_option maxHeartbeats 1000000 in
theorem sheetBlocks_meet (a b c d : Int) (h1 : -5000 ≤ a ∧ a ≤ 5000) (h2 : -5000 ≤ b ∧ b ≤ 5000) (h3 : -5000 ≤ c ∧ c ≤ 5000) (h4 : -5000 ≤ d ∧ d ≤ 5000) (k A x1 y1 z1 d1 x2 y2 z2 d2 : Int) (w : World) (hA : -10000 ≤ A ∧ A ≤ 10000) (hd1 : 0 ≤ d1 ∧ d1 ≤ 100000) (hd2 : 0 ≤ d2 ∧ d2 ≤ 100000) (hx1 : -500000000 ≤ x1 ∧ x1 ≤ 500000000) (hy1 : -500000000 ≤ y1 ∧ y1 ≤ 500000000) (hz1 : -500000000 ≤ z1 ∧ z1 ≤ 500000000) (hx2 : -500000000 ≤ x2 ∧ x2 ≤ 500000000) (hy2 : -500000000 ≤ y2 ∧ y2 ≤ 500000000) (hz2 : -500000000 ≤ z2 ∧ z2 ≤ 500000000) (f g : Int) (Hf : Hid (f = offP k A x1 y1 z1 d1)) (Hg : Hid (g = offP k A x2 y2 z2 d2)) (hne : ¬ (f = 0 ∧ g = 0)) :
    Calls Tryz.prog 121 #[.agg #[.int .i64 a, .int .i64 b, .int .i64 c, .int .i64 d], .agg #[.int .i64 k, .int .i64 A], .agg #[.int .i64 x1, .int .i64 y1, .int .i64 z1, .int .i64 d1, .int .i64 x2, .int .i64 y2, .int .i64 z2, .int .i64 d2]] w (RetX w (.bool (sheetMeetB a b c d f g x1 y1 d1 x2 y2 d2))) := by
  have e1 := mul_bd hA hd1 (by omega)
  have e2 := mul_bd hA hd2 (by omega)
  have O1 : ∀ W, Calls Tryz.prog 128 #[.agg #[.int .i64 k, .int .i64 A], .agg #[.int .i64 x1, .int .i64 y1, .int .i64 z1, .int .i64 d1]] W (RetX W (.int .i64 f)) := fun W => by rw [Hf.out]; exact offPlane_any k A x1 y1 z1 d1 W (by omega) (by omega) (by omega) (by omega)
  have O2 : ∀ W, Calls Tryz.prog 128 #[.agg #[.int .i64 k, .int .i64 A], .agg #[.int .i64 x2, .int .i64 y2, .int .i64 z2, .int .i64 d2]] W (RetX W (.int .i64 g)) := fun W => by rw [Hg.out]; exact offPlane_any k A x2 y2 z2 d2 W (by omega) (by omega) (by omega) (by omega)
  have HO1 := hidden O1
  have HO2 := hidden O2
  have B1 := offP_bd k A x1 y1 z1 d1 hA hd1 hx1 hy1 hz1
  have B2 := offP_bd k A x2 y2 z2 d2 hA hd2 hx2 hy2 hz2
  rw [← Hf.out] at B1; rw [← Hg.out] at B2
  clear O1 O2 e1 e2
  have cases6 : (f = 0 ∨ g = 0 ∨ (f < 0 ∧ g < 0) ∨ (0 < f ∧ 0 < g)) ∨ (f < 0 ∧ 0 < g) ∨ (0 < f ∧ g < 0) := by omega
  rcases cases6 with hn | ⟨s1, s2⟩ | ⟨s1, s2⟩
  · have M : ∀ W : World, Calls Tryz.prog 91 #[.agg #[.int .i64 k, .int .i64 A], .agg #[.int .i64 x1, .int .i64 y1, .int .i64 z1, .int .i64 d1, .int .i64 x2, .int .i64 y2, .int .i64 z2, .int .i64 d2]] W (RetX W (.tuple #[.agg #[.int .i64 0, .int .i64 0, .int .i64 0, .int .i64 0], .bool false])) := fun W =>
      meet_core _ _ _ _ _ _ _ _ _ _ W hA hd1 hd2 hx1 hy1 hz1 hx2 hy2 hz2 f g Hf Hg _ (fun _ _ _ h => h) (fun _ _ => by exfalso; omega) (fun _ _ => by exfalso; omega)
    have HM := hidden M
    have HR : Hid (sheetMeetB a b c d f g x1 y1 d1 x2 y2 d2 = false) := by unfold Hid sheetMeetB; rw [if_neg (by omega), if_neg (by omega)]
    have hD : 0 ≤ (0 : Int) ∧ (0 : Int) ≤ 1000000000000000 := by omega
    have cs : ((f != 0) = true) ∨ ((f != 0) = false ∧ (g != 0) = true) := by
      by_cases h : f = 0
      · exact .inr ⟨by simp [h], bne_iff_ne.2 (fun h' => hne ⟨h, h'⟩)⟩
      · exact .inl (bne_iff_ne.2 h)
    clear M Hf Hg hn hne hd1 hd2 hx1 hy1 hz1 hx2 hy2 hz2 hA B1 B2
    rcases cs with q1 | ⟨q1, q2⟩
    all_goals
      refine (callsIn_wide (n := 10)).1 ?_
      refine callsIn_of_wp_marks Tryz.func121 rfl trivial ?_ rfl
      simp only [Tryz.ntmps121, List.size_toArray, List.length_cons, List.length_nil, Nat.reduceAdd, Nat.reduceSub, Array.replicate_succ, Array.replicate_zero, List.push_toArray, List.append_toArray, List.nil_append, List.cons_append]
      gi_wp2
      repeat ((refine ⟨trivial, ?_⟩; first | ((with_reducible refine (callsIn_wide.2 (HO1.out _)).mono ?_); rintro e w' ⟨rfl, x, rfl⟩) | ((with_reducible refine (callsIn_wide.2 (HO2.out _)).mono ?_); rintro e w' ⟨rfl, x, rfl⟩) | ((with_reducible refine (callsIn_wide.2 (HM.out _)).mono ?_); rintro e w' ⟨rfl, x, rfl⟩) | ((with_reducible refine (callsIn_wide.2 (sheet_holds_any _ _ _ _ _ _ _ _ _ h1 h2 h3 h4 hD)).mono ?_); rintro e w' ⟨rfl, x, rfl⟩) | skip); gi_wp2)
      refine bodyPostM_ret (v := .bool false) (by simp [results, Tryz.results121, go_sem]) rfl (retX (by rw [HR.out]) ?_)
      (repeat' (first | (with_reducible exact Below.refl _ _) | (with_reducible assumption) | (with_reducible refine Below.drew ?_) | (with_reducible refine Below.drewNStep ?_ _) | (with_reducible refine Below.alloc ?_ ?_ _) | (with_reducible refine Below.setCell ?_ ?_ _) | (with_reducible refine Below.extStep ?_ ?_ _) | (simp; done) | (simp; omega)))
  · have M : ∀ W : World, Calls Tryz.prog 91 #[.agg #[.int .i64 k, .int .i64 A], .agg #[.int .i64 x1, .int .i64 y1, .int .i64 z1, .int .i64 d1, .int .i64 x2, .int .i64 y2, .int .i64 z2, .int .i64 d2]] W (RetX W (.tuple #[.agg #[.int .i64 (x2 * (-f) - x1 * (-g)), .int .i64 (y2 * (-f) - y1 * (-g)), .int .i64 (z2 * (-f) - z1 * (-g)), .int .i64 (d2 * (-f) - d1 * (-g))], .bool true])) := fun W =>
      meet_core _ _ _ _ _ _ _ _ _ _ W hA hd1 hd2 hx1 hy1 hz1 hx2 hy2 hz2 f g Hf Hg _ (fun _ => by exfalso; omega) (fun _ _ _ _ h => h) (fun _ _ => by exfalso; omega)
    have HM := hidden M
    have HR : Hid (sheetMeetB a b c d f g x1 y1 d1 x2 y2 d2 = sheetB a b c d (x2 * (-f) - x1 * (-g)) (y2 * (-f) - y1 * (-g)) (d2 * (-f) - d1 * (-g))) := by unfold Hid sheetMeetB; rw [if_pos ⟨s1, s2⟩]
    have ha' : -2000000000 ≤ (-f) ∧ (-f) ≤ 2000000000 := by omega
    have hb' : -2000000000 ≤ (-g) ∧ (-g) ≤ 2000000000 := by omega
    have m4 := mul_sz (A := 100000) (p := d2) ⟨by omega, by omega⟩ ha' (by omega) (by omega)
    have n4 := mul_sz (A := 100000) (p := d1) ⟨by omega, by omega⟩ hb' (by omega) (by omega)
    have p4 : 0 ≤ d2 * (-f) := Int.mul_nonneg hd2.1 (by omega)
    have q4 : 0 ≤ d1 * (-(-g)) := Int.mul_nonneg hd1.1 (by omega)
    have hD : 0 ≤ d2 * (-f) - d1 * (-g) ∧ d2 * (-f) - d1 * (-g) ≤ 1000000000000000 := by rw [Int.mul_neg] at q4; omega
    have q1 : (f != 0) = true := bne_iff_ne.2 (by omega)
    generalize d2 * (-f) - d1 * (-g) = D at *
    generalize x2 * (-f) - x1 * (-g) = X at *
    generalize y2 * (-f) - y1 * (-g) = Y at *
    generalize z2 * (-f) - z1 * (-g) = Z at *
    clear M Hf Hg hne hd1 hd2 hx1 hy1 hz1 hx2 hy2 hz2 hA B1 B2 m4 n4 p4 q4 ha' hb'
    refine (callsIn_wide (n := 10)).1 ?_
    refine callsIn_of_wp_marks Tryz.func121 rfl trivial ?_ rfl
    simp only [Tryz.ntmps121, List.size_toArray, List.length_cons, List.length_nil, Nat.reduceAdd, Nat.reduceSub, Array.replicate_succ, Array.replicate_zero, List.push_toArray, List.append_toArray, List.nil_append, List.cons_append]
    gi_wp2
    repeat ((refine ⟨trivial, ?_⟩; first | ((with_reducible refine (callsIn_wide.2 (HO1.out _)).mono ?_); rintro e w' ⟨rfl, x, rfl⟩) | ((with_reducible refine (callsIn_wide.2 (HO2.out _)).mono ?_); rintro e w' ⟨rfl, x, rfl⟩) | ((with_reducible refine (callsIn_wide.2 (HM.out _)).mono ?_); rintro e w' ⟨rfl, x, rfl⟩) | ((with_reducible refine (callsIn_wide.2 (sheet_holds_any _ _ _ _ _ _ _ _ _ h1 h2 h3 h4 hD)).mono ?_); rintro e w' ⟨rfl, x, rfl⟩) | skip); gi_wp2)
    refine bodyPostM_ret (v := .bool (sheetB a b c d X Y D)) (by simp [results, Tryz.results121, go_sem]) rfl (retX (by rw [HR.out]) ?_)
    (repeat' (first | (with_reducible exact Below.refl _ _) | (with_reducible assumption) | (with_reducible refine Below.drew ?_) | (with_reducible refine Below.drewNStep ?_ _) | (with_reducible refine Below.alloc ?_ ?_ _) | (with_reducible refine Below.setCell ?_ ?_ _) | (with_reducible refine Below.extStep ?_ ?_ _) | (simp; done) | (simp; omega)))
  · have M : ∀ W : World, Calls Tryz.prog 91 #[.agg #[.int .i64 k, .int .i64 A], .agg #[.int .i64 x1, .int .i64 y1, .int .i64 z1, .int .i64 d1, .int .i64 x2, .int .i64 y2, .int .i64 z2, .int .i64 d2]] W (RetX W (.tuple #[.agg #[.int .i64 (x2 * f - x1 * g), .int .i64 (y2 * f - y1 * g), .int .i64 (z2 * f - z1 * g), .int .i64 (d2 * f - d1 * g)], .bool true])) := fun W =>
      meet_core _ _ _ _ _ _ _ _ _ _ W hA hd1 hd2 hx1 hy1 hz1 hx2 hy2 hz2 f g Hf Hg _ (fun _ => by exfalso; omega) (fun _ _ => by exfalso; omega) (fun _ _ _ _ h => h)
    have HM := hidden M
    have HR : Hid (sheetMeetB a b c d f g x1 y1 d1 x2 y2 d2 = sheetB a b c d (x2 * f - x1 * g) (y2 * f - y1 * g) (d2 * f - d1 * g)) := by unfold Hid sheetMeetB; rw [if_neg (by omega), if_pos ⟨s1, s2⟩]
    have ha' : -2000000000 ≤ f ∧ f ≤ 2000000000 := by omega
    have hb' : -2000000000 ≤ g ∧ g ≤ 2000000000 := by omega
    have m4 := mul_sz (A := 100000) (p := d2) ⟨by omega, by omega⟩ ha' (by omega) (by omega)
    have n4 := mul_sz (A := 100000) (p := d1) ⟨by omega, by omega⟩ hb' (by omega) (by omega)
    have p4 : 0 ≤ d2 * f := Int.mul_nonneg hd2.1 (by omega)
    have q4 : 0 ≤ d1 * (-g) := Int.mul_nonneg hd1.1 (by omega)
    have hD : 0 ≤ d2 * f - d1 * g ∧ d2 * f - d1 * g ≤ 1000000000000000 := by rw [Int.mul_neg] at q4; omega
    have q1 : (f != 0) = true := bne_iff_ne.2 (by omega)
    generalize d2 * f - d1 * g = D at *
    generalize x2 * f - x1 * g = X at *
    generalize y2 * f - y1 * g = Y at *
    generalize z2 * f - z1 * g = Z at *
    clear M Hf Hg hne hd1 hd2 hx1 hy1 hz1 hx2 hy2 hz2 hA B1 B2 m4 n4 p4 q4 ha' hb'
    refine (callsIn_wide (n := 10)).1 ?_
    refine callsIn_of_wp_marks Tryz.func121 rfl trivial ?_ rfl
    simp only [Tryz.ntmps121, List.size_toArray, List.length_cons, List.length_nil, Nat.reduceAdd, Nat.reduceSub, Array.replicate_succ, Array.replicate_zero, List.push_toArray, List.append_toArray, List.nil_append, List.cons_append]
    gi_wp2
    repeat ((refine ⟨trivial, ?_⟩; first | ((with_reducible refine (callsIn_wide.2 (HO1.out _)).mono ?_); rintro e w' ⟨rfl, x, rfl⟩) | ((with_reducible refine (callsIn_wide.2 (HO2.out _)).mono ?_); rintro e w' ⟨rfl, x, rfl⟩) | ((with_reducible refine (callsIn_wide.2 (HM.out _)).mono ?_); rintro e w' ⟨rfl, x, rfl⟩) | ((with_reducible refine (callsIn_wide.2 (sheet_holds_any _ _ _ _ _ _ _ _ _ h1 h2 h3 h4 hD)).mono ?_); rintro e w' ⟨rfl, x, rfl⟩) | skip); gi_wp2)
    refine bodyPostM_ret (v := .bool (sheetB a b c d X Y D)) (by simp [results, Tryz.results121, go_sem]) rfl (retX (by rw [HR.out]) ?_)
    (repeat' (first | (with_reducible exact Below.refl _ _) | (with_reducible assumption) | (with_reducible refine Below.drew ?_) | (with_reducible refine Below.drewNStep ?_ _) | (with_reducible refine Below.alloc ?_ ?_ _) | (with_reducible refine Below.setCell ?_ ?_ _) | (with_reducible refine Below.extStep ?_ ?_ _) | (simp; done) | (simp; omega)))
end Go.Proofs.YtbonjgeglhbhnaaGreat
