/- Contracts of package hall's geometry, third part: holds, holdsWell, meet, blocks, middle, sheets. -/
import Derived.Test.YtekieoamelahkaaGreatM10
import Derived.Test.YtekieoamelahkaaGreatM09
import Derived.Test.YtekieoamelahkaaGreatM02
set_option maxRecDepth 100000
set_option maxHeartbeats 1000000
set_option linter.unusedVariables false
set_option linter.unusedSimpArgs false
namespace Go.Proofs.YtekieoamelahkaaGreat
open Go.RowKit

theorem hidden {p : Prop} (h : p) : Hid p := h

def holdsB (a b c d x y n : Int) : Bool := decide (offP (plK a b c d) (plA a b c d) x y 0 n = 0) && spansB a b c d x y n

theorem plK_rng (a b c d : Int) : 0 ≤ plK a b c d ∧ plK a b c d ≤ 4 ∧ plK a b c d ≠ 2 := by unfold plK; repeat' split <;> omega
theorem plA_rng {a b c d : Int} (h1 : -5000 ≤ a ∧ a ≤ 5000) (h2 : -5000 ≤ b ∧ b ≤ 5000) : -10000 ≤ plA a b c d ∧ plA a b c d ≤ 10000 := by unfold plA; (repeat' split) <;> omega
theorem offP_z (k a x y z n : Int) (hk : k ≠ 2) : offP k a x y z n = offP k a x y 0 n := by unfold offP; simp [hk]

theorem holds_any (a b c d x y z n : Int) (w : World) (h1 : -5000 ≤ a ∧ a ≤ 5000) (h2 : -5000 ≤ b ∧ b ≤ 5000) (h3 : -5000 ≤ c ∧ c ≤ 5000) (h4 : -5000 ≤ d ∧ d ≤ 5000) (hn : 0 ≤ n ∧ n ≤ 100000000000000)
 (hx : -1000000000000000000 ≤ x ∧ x ≤ 1000000000000000000) (hy : -1000000000000000000 ≤ y ∧ y ≤ 1000000000000000000) (hz : -1000000000000000000 ≤ z ∧ z ≤ 1000000000000000000) :
 Calls Tryz.prog 172 #[.agg #[.int .i64 a, .int .i64 b, .int .i64 c, .int .i64 d], .agg #[.int .i64 x, .int .i64 y, .int .i64 z, .int .i64 n]] w (RetX w (.bool (holdsB a b c d x y n))) := by
 have q := plK_rng a b c d
 have hA := mul_bd (plA_rng (c := c) (d := d) h1 h2) hn (by omega)
 have HB : Hid (holdsB a b c d x y n = (decide (offP (plK a b c d) (plA a b c d) x y z n = 0) && spansB a b c d x y n)) := by unfold Hid holdsB; rw [offP_z _ _ x y z n q.2.2]
 by_cases hd : (offP (plK a b c d) (plA a b c d) x y z n == 0) = true
 · go_enter Tryz.func172, Tryz.ntmps172
   go_wp2
   (refine tmX (by kernel_rfl) (by kernel_rfl) ?_); (repeat (first | (refine tmS rfl ?_; simp only [Act.put, List.setIfInBounds_toArray, List.set_cons_succ, List.set_cons_zero]) | (refine tmP rfl rfl rfl (fun K hK => ?_); go_big_quiet_op; refine hK _ ?_; clear hK K) | (refine tmE rfl rfl (fun K hK => ?_); go_big_op; (first | (go_at_call 175; refine (plane_any _ _ _ _ _ (by omega) (by omega) (by omega) (by omega)).mono ?_; rintro e w' ⟨rfl, x1, rfl⟩) | (go_at_call 163; refine (offPlane_any _ _ _ _ _ _ _ (by omega) (by omega) (by omega) (by omega)).mono ?_; rintro e w' ⟨rfl, x2, rfl⟩) | (go_at_call 183; refine (spans_any _ _ _ _ _ _ _ _ _ (by omega) (by omega) (by omega) (by omega) (by omega)).mono ?_; rintro e w' ⟨rfl, x3, rfl⟩) | skip); (refine hK _ _ rfl (ext_of_below (by (repeat' first | with_reducible (first | apply bz0 | assumption | apply bz1 | apply bz2 | apply bz3 | apply bz4 | apply bz5) | (simp <;> omega)))) ?_; clear hK K)))); (refine tmN ?_)
   go_wp2
   go_ret
   refine retX_bool (by rw [HB.out]; simp_all) ?_
   (repeat' first | with_reducible (first | apply bz0 | assumption | apply bz1 | apply bz2 | apply bz3 | apply bz4 | apply bz5) | (simp <;> omega))
 · have hd' : (offP (plK a b c d) (plA a b c d) x y z n == 0) = false := by simpa using hd
   go_enter Tryz.func172, Tryz.ntmps172
   go_wp2
   (refine tmX (by kernel_rfl) (by kernel_rfl) ?_); (repeat (first | (refine tmS rfl ?_; simp only [Act.put, List.setIfInBounds_toArray, List.set_cons_succ, List.set_cons_zero]) | (refine tmP rfl rfl rfl (fun K hK => ?_); go_big_quiet_op; refine hK _ ?_; clear hK K) | (refine tmE rfl rfl (fun K hK => ?_); go_big_op; (first | (go_at_call 175; refine (plane_any _ _ _ _ _ (by omega) (by omega) (by omega) (by omega)).mono ?_; rintro e w' ⟨rfl, x1, rfl⟩) | (go_at_call 163; refine (offPlane_any _ _ _ _ _ _ _ (by omega) (by omega) (by omega) (by omega)).mono ?_; rintro e w' ⟨rfl, x2, rfl⟩) | (go_at_call 183; refine (spans_any _ _ _ _ _ _ _ _ _ (by omega) (by omega) (by omega) (by omega) (by omega)).mono ?_; rintro e w' ⟨rfl, x3, rfl⟩) | skip); (refine hK _ _ rfl (ext_of_below (by (repeat' first | with_reducible (first | apply bz0 | assumption | apply bz1 | apply bz2 | apply bz3 | apply bz4 | apply bz5) | (simp <;> omega)))) ?_; clear hK K)))); (refine tmN ?_)
   go_wp2
   go_ret
   refine retX_bool (by rw [HB.out]; simp_all) ?_
   (repeat' first | with_reducible (first | apply bz0 | assumption | apply bz1 | apply bz2 | apply bz3 | apply bz4 | apply bz5) | (simp <;> omega))

def holdsWellB (a b c d x y n : Int) : Bool := spansB a b c d x y n && (!isAtB a b x y n && !isAtB c d x y n)

theorem holdsWell_any (a b c d x y z n : Int) (w : World) (h1 : -5000 ≤ a ∧ a ≤ 5000) (h2 : -5000 ≤ b ∧ b ≤ 5000) (h3 : -5000 ≤ c ∧ c ≤ 5000) (h4 : -5000 ≤ d ∧ d ≤ 5000) (hn : 0 ≤ n ∧ n ≤ 1000000000000000) :
 Calls Tryz.prog 178 #[.agg #[.int .i64 a, .int .i64 b, .int .i64 c, .int .i64 d], .agg #[.int .i64 x, .int .i64 y, .int .i64 z, .int .i64 n]] w (RetX w (.bool (holdsWellB a b c d x y n))) := by
 go_enter Tryz.func178, Tryz.ntmps178
 go_wp2_with (first | (go_at_call 183; refine (spans_any _ _ _ _ _ _ _ _ _ (by omega) (by omega) (by omega) (by omega) (by omega)).mono ?_; rintro e w' ⟨rfl, x3, rfl⟩) | (go_at_call 190; refine (isAt_any _ _ _ _ _ _ _ (by omega) (by omega) (by omega)).mono ?_; rintro e w' ⟨rfl, x4, rfl⟩))
 all_goals (go_ret; refine retX_bool (by simp_all [holdsWellB]) ?_; (repeat' first | with_reducible (first | apply bz0 | assumption | apply bz1 | apply bz2 | apply bz3 | apply bz4 | apply bz5) | (simp <;> omega)))

end Go.Proofs.YtekieoamelahkaaGreat

/- Contracts of package hall's geometry, fourth part: meet. -/
namespace Go.Proofs.YtekieoamelahkaaGreat
open Go.RowKit

theorem offP_bd (k A x y z d : Int) (hA : -10000 ≤ A ∧ A ≤ 10000) (hd : 0 ≤ d ∧ d ≤ 100000) (hx : -500000000 ≤ x ∧ x ≤ 500000000) (hy : -500000000 ≤ y ∧ y ≤ 500000000) (hz : -500000000 ≤ z ∧ z ≤ 500000000) :
 -2000000000 ≤ offP k A x y z d ∧ offP k A x y z d ≤ 2000000000 := by
 have := mul_bd hA hd (by omega)
 unfold offP
 (repeat' split) <;> omega

theorem mul_sz {p a A B : Int} (hp : -A ≤ p ∧ p ≤ A) (ha : -B ≤ a ∧ a ≤ B) (hA : 0 ≤ A) (hB : 0 ≤ B) : -(A * B) ≤ p * a ∧ p * a ≤ A * B := by
 rcases Int.le_total 0 a with h | h
 · exact mul_bd hp ⟨h, ha.2⟩ hA
 · have := mul_bd (n := -a) hp ⟨by omega, by omega⟩ hA (N := B)
   rw [Int.mul_neg] at this
   omega


theorem meet_core (k A x1 y1 z1 d1 x2 y2 z2 d2 : Int) (w : World) (hA : -10000 ≤ A ∧ A ≤ 10000) (hd1 : 0 ≤ d1 ∧ d1 ≤ 100000) (hd2 : 0 ≤ d2 ∧ d2 ≤ 100000) (hx1 : -500000000 ≤ x1 ∧ x1 ≤ 500000000) (hy1 : -500000000 ≤ y1 ∧ y1 ≤ 500000000) (hz1 : -500000000 ≤ z1 ∧ z1 ≤ 500000000) (hx2 : -500000000 ≤ x2 ∧ x2 ≤ 500000000) (hy2 : -500000000 ≤ y2 ∧ y2 ≤ 500000000) (hz2 : -500000000 ≤ z2 ∧ z2 ≤ 500000000) (a b : Int) (ha : Hid (a = offP k A x1 y1 z1 d1)) (hb : Hid (b = offP k A x2 y2 z2 d2)) (R : Ending → World → Prop)
 (hno : (a = 0 ∨ b = 0 ∨ (a < 0 ∧ b < 0) ∨ (0 < a ∧ 0 < b)) → ∀ e w', RetX w (.tuple #[.agg #[.int .i64 0, .int .i64 0, .int .i64 0, .int .i64 0], .bool false]) e w' → R e w')
 (hneg : a < 0 → 0 < b → ∀ e w', RetX w (.tuple #[.agg #[.int .i64 (x2 * (-a) - x1 * (-b)), .int .i64 (y2 * (-a) - y1 * (-b)), .int .i64 (z2 * (-a) - z1 * (-b)), .int .i64 (d2 * (-a) - d1 * (-b))], .bool true]) e w' → R e w')
 (hpos : 0 < a → b < 0 → ∀ e w', RetX w (.tuple #[.agg #[.int .i64 (x2 * a - x1 * b), .int .i64 (y2 * a - y1 * b), .int .i64 (z2 * a - z1 * b), .int .i64 (d2 * a - d1 * b)], .bool true]) e w' → R e w') :
 Calls Tryz.prog 118 #[.agg #[.int .i64 k, .int .i64 A], .agg #[.int .i64 x1, .int .i64 y1, .int .i64 z1, .int .i64 d1, .int .i64 x2, .int .i64 y2, .int .i64 z2, .int .i64 d2]] w R := by
 have hab := offP_bd k A x1 y1 z1 d1 hA hd1 hx1 hy1 hz1
 have hbb := offP_bd k A x2 y2 z2 d2 hA hd2 hx2 hy2 hz2
 rw [← ha.out] at hab
 rw [← hb.out] at hbb
 have hmA := mul_bd hA hd1 (by omega)
 have hmB := mul_bd hA hd2 (by omega)
 have C1 : ∀ W : World, Calls Tryz.prog 163 #[.agg #[.int .i64 k, .int .i64 A], .agg #[.int .i64 x1, .int .i64 y1, .int .i64 z1, .int .i64 d1]] W (RetX W (.int .i64 a)) := fun W => by
  rw [ha.out]; exact offPlane_any _ _ _ _ _ _ _ (by omega) (by omega) (by omega) (by omega)
 have C2 : ∀ W : World, Calls Tryz.prog 163 #[.agg #[.int .i64 k, .int .i64 A], .agg #[.int .i64 x2, .int .i64 y2, .int .i64 z2, .int .i64 d2]] W (RetX W (.int .i64 b)) := fun W => by
  rw [hb.out]; exact offPlane_any _ _ _ _ _ _ _ (by omega) (by omega) (by omega) (by omega)
 have H1 := hidden C1; have H2 := hidden C2; clear C1 C2 ha hb hmA hmB hA
 have cases6 : (a = 0 ∨ b = 0 ∨ (a < 0 ∧ b < 0) ∨ (0 < a ∧ 0 < b)) ∨ (a < 0 ∧ 0 < b) ∨ (0 < a ∧ b < 0) := by omega
 rcases cases6 with hn | ⟨h1, h2⟩ | ⟨h1, h2⟩
 · refine Calls.mono (R := RetX w (.tuple #[.agg #[.int .i64 0, .int .i64 0, .int .i64 0, .int .i64 0], .bool false])) ?_ (hno hn)
   clear hno hneg hpos hx1 hy1 hz1 hx2 hy2 hz2 hd1 hd2
   have q3 : a = 0 ∨ b = 0 ∨ ((a == 0) = false ∧ (b == 0) = false ∧ (decide (a < 0) == decide (b < 0)) = true) := by
    rcases hn with h | h | ⟨h1, h2⟩ | ⟨h1, h2⟩
    · exact .inl h
    · exact .inr (.inl h)
    · exact .inr (.inr ⟨beq_eq_false_iff_ne.2 (by omega), beq_eq_false_iff_ne.2 (by omega), by simp [h1, h2]⟩)
    · exact .inr (.inr ⟨beq_eq_false_iff_ne.2 (by omega), beq_eq_false_iff_ne.2 (by omega), by rw [decide_eq_false (by omega), decide_eq_false (by omega)]; rfl⟩)
   clear hn
   rcases q3 with rfl | rfl | ⟨q1, q2, q3⟩
   all_goals
    go_enter Tryz.func118, Tryz.ntmps118
    go_wp2
    (refine tmX (by kernel_rfl) (by kernel_rfl) ?_); (repeat (first | (refine tmS rfl ?_; simp only [Act.put, List.setIfInBounds_toArray, List.set_cons_succ, List.set_cons_zero]) | (refine tmP rfl rfl rfl (fun K hK => ?_); go_big_quiet_op; refine hK _ ?_; clear hK K) | (refine tmE rfl rfl (fun K hK => ?_); go_big_op; (first | (go_at_call 163; (first | (with_reducible refine (H1.out _).mono ?_) | (with_reducible refine (H2.out _).mono ?_)); rintro e w' ⟨rfl, x, rfl⟩) | skip); (refine hK _ _ rfl (ext_of_below (by (repeat' first | with_reducible (first | apply bz0 | assumption | apply bz1 | apply bz2 | apply bz3 | apply bz4 | apply bz5) | (simp <;> omega)))) ?_; clear hK K)))); (refine tmN ?_)
    go_wp2
    all_goals first | (exfalso; omega) | (refine bodyPost_ret (v := .tuple #[.agg #[.int .i64 0, .int .i64 0, .int .i64 0, .int .i64 0], .bool false]) (by simp [results, Tryz.results118, go_sem]) rfl (retX rfl ?_); (repeat' first | with_reducible (first | apply bz0 | assumption | apply bz1 | apply bz2 | apply bz3 | apply bz4 | apply bz5) | (simp <;> omega)))
 · refine Calls.mono (R := RetX w (.tuple #[.agg #[.int .i64 (x2 * (-a) - x1 * (-b)), .int .i64 (y2 * (-a) - y1 * (-b)), .int .i64 (z2 * (-a) - z1 * (-b)), .int .i64 (d2 * (-a) - d1 * (-b))], .bool true])) ?_ (hneg h1 h2)
   have ha' : -2000000000 ≤ -a ∧ -a ≤ 2000000000 := by omega
   have hb' : -2000000000 ≤ -b ∧ -b ≤ 2000000000 := by omega
   have m1 := mul_sz hx2 ha' (by omega) (by omega)
   have m2 := mul_sz hy2 ha' (by omega) (by omega)
   have m3 := mul_sz hz2 ha' (by omega) (by omega)
   have m4 := mul_sz (A := 100000) (p := d2) ⟨by omega, by omega⟩ ha' (by omega) (by omega)
   have n1 := mul_sz hx1 hb' (by omega) (by omega)
   have n2 := mul_sz hy1 hb' (by omega) (by omega)
   have n3 := mul_sz hz1 hb' (by omega) (by omega)
   have n4 := mul_sz (A := 100000) (p := d1) ⟨by omega, by omega⟩ hb' (by omega) (by omega)
   have q1 : (a == 0) = false := beq_eq_false_iff_ne.2 (by omega)
   have q2 : (b == 0) = false := beq_eq_false_iff_ne.2 (by omega)
   have q3 : (decide (a < 0) == decide (b < 0)) = false := by rw [decide_eq_true h1, decide_eq_false (by omega)]; rfl
   clear hno hneg hpos hx1 hy1 hz1 hx2 hy2 hz2 hd1 hd2
   go_enter Tryz.func118, Tryz.ntmps118
   go_wp2
   (refine tmX (by kernel_rfl) (by kernel_rfl) ?_); (repeat (first | (refine tmS rfl ?_; simp only [Act.put, List.setIfInBounds_toArray, List.set_cons_succ, List.set_cons_zero]) | (refine tmP rfl rfl rfl (fun K hK => ?_); go_big_quiet_op; refine hK _ ?_; clear hK K) | (refine tmE rfl rfl (fun K hK => ?_); go_big_op; (first | (go_at_call 163; (first | (with_reducible refine (H1.out _).mono ?_) | (with_reducible refine (H2.out _).mono ?_)); rintro e w' ⟨rfl, x, rfl⟩) | skip); (refine hK _ _ rfl (ext_of_below (by (repeat' first | with_reducible (first | apply bz0 | assumption | apply bz1 | apply bz2 | apply bz3 | apply bz4 | apply bz5) | (simp <;> omega)))) ?_; clear hK K)))); (refine tmN ?_)
   go_wp2
   all_goals first | (exfalso; omega) | (refine bodyPost_ret (v := .tuple #[.agg #[.int .i64 (x2 * (-a) - x1 * (-b)), .int .i64 (y2 * (-a) - y1 * (-b)), .int .i64 (z2 * (-a) - z1 * (-b)), .int .i64 (d2 * (-a) - d1 * (-b))], .bool true]) (by simp [results, Tryz.results118, go_sem]) rfl (retX rfl ?_); (repeat' first | with_reducible (first | apply bz0 | assumption | apply bz1 | apply bz2 | apply bz3 | apply bz4 | apply bz5) | (simp <;> omega)))
 · refine Calls.mono (R := RetX w (.tuple #[.agg #[.int .i64 (x2 * a - x1 * b), .int .i64 (y2 * a - y1 * b), .int .i64 (z2 * a - z1 * b), .int .i64 (d2 * a - d1 * b)], .bool true])) ?_ (hpos h1 h2)
   have m1 := mul_sz hx2 hab (by omega) (by omega)
   have m2 := mul_sz hy2 hab (by omega) (by omega)
   have m3 := mul_sz hz2 hab (by omega) (by omega)
   have m4 := mul_sz (A := 100000) (p := d2) ⟨by omega, by omega⟩ hab (by omega) (by omega)
   have n1 := mul_sz hx1 hbb (by omega) (by omega)
   have n2 := mul_sz hy1 hbb (by omega) (by omega)
   have n3 := mul_sz hz1 hbb (by omega) (by omega)
   have n4 := mul_sz (A := 100000) (p := d1) ⟨by omega, by omega⟩ hbb (by omega) (by omega)
   have q1 : (a == 0) = false := beq_eq_false_iff_ne.2 (by omega)
   have q2 : (b == 0) = false := beq_eq_false_iff_ne.2 (by omega)
   have q3 : (decide (a < 0) == decide (b < 0)) = false := by rw [decide_eq_false (by omega), decide_eq_true h2]; rfl
   clear hno hneg hpos hx1 hy1 hz1 hx2 hy2 hz2 hd1 hd2
   go_enter Tryz.func118, Tryz.ntmps118
   go_wp2
   (refine tmX (by kernel_rfl) (by kernel_rfl) ?_); (repeat (first | (refine tmS rfl ?_; simp only [Act.put, List.setIfInBounds_toArray, List.set_cons_succ, List.set_cons_zero]) | (refine tmP rfl rfl rfl (fun K hK => ?_); go_big_quiet_op; refine hK _ ?_; clear hK K) | (refine tmE rfl rfl (fun K hK => ?_); go_big_op; (first | (go_at_call 163; (first | (with_reducible refine (H1.out _).mono ?_) | (with_reducible refine (H2.out _).mono ?_)); rintro e w' ⟨rfl, x, rfl⟩) | skip); (refine hK _ _ rfl (ext_of_below (by (repeat' first | with_reducible (first | apply bz0 | assumption | apply bz1 | apply bz2 | apply bz3 | apply bz4 | apply bz5) | (simp <;> omega)))) ?_; clear hK K)))); (refine tmN ?_)
   go_wp2
   all_goals first | (exfalso; omega) | (refine bodyPost_ret (v := .tuple #[.agg #[.int .i64 (x2 * a - x1 * b), .int .i64 (y2 * a - y1 * b), .int .i64 (z2 * a - z1 * b), .int .i64 (d2 * a - d1 * b)], .bool true]) (by simp [results, Tryz.results118, go_sem]) rfl (retX rfl ?_); (repeat' first | with_reducible (first | apply bz0 | assumption | apply bz1 | apply bz2 | apply bz3 | apply bz4 | apply bz5) | (simp <;> omega)))
end Go.Proofs.YtekieoamelahkaaGreat
