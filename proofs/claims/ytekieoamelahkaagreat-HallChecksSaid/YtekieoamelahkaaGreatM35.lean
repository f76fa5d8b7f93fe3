/- The reference's IsName. -/
import Derived.Test.YtekieoamelahkaaGreatM34
set_option maxRecDepth 100000
set_option maxHeartbeats 1000000
set_option linter.unusedVariables false
set_option linter.unusedSimpArgs false
namespace Go.Proofs.YtekieoamelahkaaGreat
open Go.RowKit Go.Shelf
attribute [local go_sem] Oper.semAt_some

theorem nameB_first {t : ByteArray} (h : letterB (byteAt t 0) = false) : nameB t = false := by
 unfold nameB
 rw [h]
 simp
theorem letterB_iff (c : Int) : letterB c = true ↔ (65 ≤ c ∧ c ≤ 90) ∨ (97 ≤ c ∧ c ≤ 122) := by simp [letterB]
theorem charB_iff (c : Int) : charB c = true ↔ (65 ≤ c ∧ c ≤ 90) ∨ (97 ≤ c ∧ c ≤ 122) ∨ (48 ≤ c ∧ c ≤ 57) ∨ c = 45 := by
 simp [charB, letterB, digitB]; omega
set_option maxRecDepth 100000 in set_option maxHeartbeats 4000000 in
theorem refIsName_any (t : ByteArray) (ht : t.size ≤ 1000000) (w : World) : Calls Tryz.prog 78 #[.string t] w (RetX w (.bool (nameB t))) := by
 refine (callsIn_wide (n := 10)).1 ?_
 refine callsIn_of_wp Tryz.func78 rfl trivial ?_ rfl
 simp only [Tryz.ntmps78, nt, Nat.reduceAdd, Nat.reduceSub]
 by_cases p0 : t.size = 0
 · have hz : Hid (nameB t = false) := by unfold Hid nameB; simp [p0]
   have q0 : decide ((t.size : Int) < 1) = true := by simp; omega
   gi_wp2
   refine bodyPost_ret (v := .bool false) (by simp [results, Tryz.results78, go_sem]) rfl (retX (by rw [hz.out]) (by (repeat' first | with_reducible (first | apply bz0 | assumption | apply bz1 | apply bz2 | apply bz3 | apply bz4 | apply bz5) | (simp <;> omega))))
 · have q0 : decide ((t.size : Int) < 1) = false := by simp; omega
   by_cases p1 : 12 < t.size
   · have hz : Hid (nameB t = false) := by
      unfold Hid nameB
      have : decide (t.size ≤ 12) = false := by simp; omega
      simp [this]
     have q1 : decide ((12 : Int) < (t.size : Int)) = true := by simp; omega
     gi_wp2
     refine bodyPost_ret (v := .bool false) (by simp [results, Tryz.results78, go_sem]) rfl (retX (by rw [hz.out]) (by (repeat' first | with_reducible (first | apply bz0 | assumption | apply bz1 | apply bz2 | apply bz3 | apply bz4 | apply bz5) | (simp <;> omega))))
   · have q1 : decide ((12 : Int) < (t.size : Int)) = false := by simp; omega
     gi_wp2
     gi_loopw [3] (fun i wr => ∃ k : Nat, i = .int .i64 k ∧ k ≤ t.size ∧ Below w.heap.size w wr ∧ (0 < k → letterB (byteAt t 0) = true) ∧ ∀ j, j < k → charB (byteAt t j) = true) (fun i _ => t.size - (intOf i).toNat)
     case atStart => exact ⟨0, rfl, Nat.zero_le _, by (repeat' first | with_reducible (first | apply bz0 | assumption | apply bz1 | apply bz2 | apply bz3 | apply bz4 | apply bz5) | (simp <;> omega)), fun h => absurd h (by decide), fun j hj => absurd hj (Nat.not_lt_zero j)⟩
     case round =>
      obtain ⟨k, rfl, hk, hB, hl0, hno⟩ := hrel
      have hgs := hB.size
      rcases Nat.lt_or_ge k t.size with hlt | hge
      · have hix := index_str t k hlt
        have hst : Hid (charB (byteAt t k) = false → nameB t = false) := nameB_stop hlt
        have hfs : Hid (k = 0 → letterB (byteAt t k) = false → nameB t = false) := fun h h' => by subst h; exact nameB_first h'
        have hgo : Hid (charB (byteAt t k) = true → (k = 0 → letterB (byteAt t k) = true) → (0 < k + 1 → letterB (byteAt t 0) = true) ∧ ∀ j, j < k + 1 → charB (byteAt t j) = true) := fun h h' => by
         refine ⟨fun _ => ?_, fun j hj => ?_⟩
         · rcases Nat.eq_zero_or_pos k with h0 | h0
           · subst h0; exact h' rfl
           · exact hl0 h0
         · rcases Nat.lt_or_ge j k with h'' | h''
           · exact hno j h''
           · obtain rfl : j = k := by omega
             exact h
        have hL := letterB_iff (byteAt t k)
        have hC := charB_iff (byteAt t k)
        clear hl0 hno
        generalize hcq : byteAt t k = c at *
        have cs : ((97 ≤ c ∧ c ≤ 122) ∨ (65 ≤ c ∧ c ≤ 90)) ∨ (k = 0 ∧ ¬ (97 ≤ c ∧ c ≤ 122) ∧ ¬ (65 ≤ c ∧ c ≤ 90)) ∨ (k ≠ 0 ∧ (c = 45 ∨ (48 ≤ c ∧ c ≤ 57))) ∨ (k ≠ 0 ∧ c ≠ 45 ∧ ¬ (48 ≤ c ∧ c ≤ 57) ∧ ¬ (97 ≤ c ∧ c ≤ 122) ∧ ¬ (65 ≤ c ∧ c ≤ 90)) := by omega
        rcases cs with h1 | ⟨rfl, h1, h2⟩ | ⟨h0, h1⟩ | ⟨h0, h1, h2, h3, h4⟩
        · have hz := hidden (hgo.out (hC.2 (by omega)) (fun _ => hL.2 (by omega)))
          clear hst hfs hgo hL hC hcq
          rcases h1 with ⟨h1, h2⟩ | ⟨h1, h2⟩
          all_goals
           gi_wp2
           exact ⟨⟨k + 1, by simp, by omega, hB.trans ((show Below wr.heap.size wr _ by (repeat' first | with_reducible (first | apply bz0 | assumption | apply bz1 | apply bz2 | apply bz3 | apply bz4 | apply bz5) | (simp <;> omega))).lower hB.size), hz.out⟩, by simp [intOf]; omega⟩
        · have h00 := (byteAt_eq hlt).symm.trans hcq
          have hz := hidden (hfs.out rfl (by rw [← Bool.not_eq_true, hL]; omega))
          clear hst hfs hgo hL hC
          clear hix hcq
          subst h00
          gi_wp2
          all_goals first | (exfalso; rename_i h; simp at h; omega) | refine bodyPost_ret (v := .bool false) (by simp [results, Tryz.results78, go_sem]) rfl (retX (by rw [hz.out]) (hB.trans (by (repeat' first | with_reducible (first | apply bz0 | assumption | apply bz1 | apply bz2 | apply bz3 | apply bz4 | apply bz5) | (simp <;> omega)))))
        · have hz := hidden (hgo.out (hC.2 (by omega)) (fun h => absurd h h0))
          have q5 : ((k : Int) == 0) = false := by simp [h0]
          clear hst hfs hgo hL hC hcq
          rcases h1 with rfl | ⟨h1, h2⟩
          all_goals
           gi_wp2
           all_goals exact ⟨⟨k + 1, by simp, by omega, hB.trans ((show Below wr.heap.size wr _ by (repeat' first | with_reducible (first | apply bz0 | assumption | apply bz1 | apply bz2 | apply bz3 | apply bz4 | apply bz5) | (simp <;> omega))).lower hB.size), hz.out⟩, by simp [intOf]; omega⟩
        · have hz := hidden (hst.out (by rw [← Bool.not_eq_true, hC]; omega))
          have q5 : ((k : Int) == 0) = false := by simp [h0]
          clear hst hfs hgo hL hC
          gi_wp2
          all_goals first | (exfalso; rename_i h; simp at h; omega) | refine bodyPost_ret (v := .bool false) (by simp [results, Tryz.results78, go_sem]) rfl (retX (by rw [hz.out]) (hB.trans (by (repeat' first | with_reducible (first | apply bz0 | assumption | apply bz1 | apply bz2 | apply bz3 | apply bz4 | apply bz5) | (simp <;> omega)))))
      · obtain rfl : k = t.size := by omega
        have hz := hidden (nameB_end p0 (by omega) (hl0 (by omega)) hno)
        clear hl0 hno
        gi_wp2
        refine bodyPost_ret (v := .bool true) (by simp [results, Tryz.results78, go_sem]) rfl (retX (by rw [hz.out]) hB)
end Go.Proofs.YtekieoamelahkaaGreat

/- The reference's lines: LineOf, Long, Beside, Along, Full, ends, corner. -/
namespace Go.Proofs.YtekieoamelahkaaGreat
open Go.RowKit Go.Shelf
attribute [local go_sem] Oper.semAt_some

def longI (dx dy : Int) : Int := max (sizeI dx) (sizeI dy)
theorem Long_any (x y dx dy : Int) (w : World) (hx : -20000 ≤ dx ∧ dx ≤ 20000) (hy : -20000 ≤ dy ∧ dy ≤ 20000) (hn : dx ≠ 0 ∨ dy ≠ 0) :
 Calls Tryz.prog 182 #[.agg #[.int .i64 x, .int .i64 y, .int .i64 dx, .int .i64 dy]] w (RetX w (.tuple #[.int .i64 (longI dx dy), .int .i64 (dx.tdiv (longI dx dy)), .int .i64 (dy.tdiv (longI dx dy))])) := by
 have HX := hidden (fun W => Size_any dx W (by omega))
 have HY := hidden (fun W => Size_any dy W (by omega))
 have hl : 0 < longI dx dy := by unfold longI sizeI; (repeat' split) <;> omega
 have hm : Hid (longI dx dy = max (sizeI dx) (sizeI dy)) := rfl
 have hc : decide (sizeI dx ≤ sizeI dy) = true ∨ decide (sizeI dx ≤ sizeI dy) = false := by cases decide (sizeI dx ≤ sizeI dy) <;> simp
 generalize longI dx dy = l at *
 have l0 : l ≠ 0 := by omega
 have l1 : l ≠ -1 := by omega
 have l2 : (l == 0) = false := by simp [l0]
 generalize sizeI dx = a at *
 generalize sizeI dy = b at *
 have hm := hm.out
 rcases Int.lt_trichotomy a b with h | h | h
 · obtain rfl : l = b := by omega
   clear hm hc
   go_enter Tryz.func182, Tryz.ntmps182
   go_wp2
   (refine tmX (by kernel_rfl) (by kernel_rfl) ?_); (repeat (first | (refine tmS rfl ?_; simp only [Act.put, List.setIfInBounds_toArray, List.set_cons_succ, List.set_cons_zero]) | (refine tmP rfl rfl rfl (fun K hK => ?_); go_big_quiet_op; refine hK _ ?_; clear hK K) | (refine tmE rfl rfl (fun K hK => ?_); go_big_op; (first | (go_at_call 96; first | ((with_reducible refine (HX.out _).mono ?_); rintro e w' ⟨rfl, x1, rfl⟩) | ((with_reducible refine (HY.out _).mono ?_); rintro e w' ⟨rfl, x2, rfl⟩)) | skip); (refine hK _ _ rfl (ext_of_below (by (repeat' first | with_reducible (first | apply bz0 | assumption | apply bz1 | apply bz2 | apply bz3 | apply bz4 | apply bz5) | (simp <;> omega)))) ?_; clear hK K)))); (refine tmN ?_)
   go_wp2
   (refine tmX (by kernel_rfl) (by kernel_rfl) ?_); (repeat (first | (refine tmS rfl ?_; simp only [Act.put, List.setIfInBounds_toArray, List.set_cons_succ, List.set_cons_zero]) | (refine tmP rfl rfl rfl (fun K hK => ?_); go_big_quiet_op; refine hK _ ?_; clear hK K) | (refine tmE rfl rfl (fun K hK => ?_); go_big_op; (first | fail | skip); (refine hK _ _ rfl (ext_of_below (by (repeat' first | with_reducible (first | apply bz0 | assumption | apply bz1 | apply bz2 | apply bz3 | apply bz4 | apply bz5) | (simp <;> omega)))) ?_; clear hK K)))); (refine tmN ?_)
   go_wp2
   refine bodyPost_ret (v := .tuple #[.int .i64 l, .int .i64 (dx.tdiv l), .int .i64 (dy.tdiv l)]) (by simp [results, Tryz.results182, go_sem]) rfl (retX rfl ?_)
   (repeat' first | with_reducible (first | apply bz0 | assumption | apply bz1 | apply bz2 | apply bz3 | apply bz4 | apply bz5) | (simp <;> omega))
 · subst h
   obtain rfl : l = a := by omega
   clear hm hc
   go_enter Tryz.func182, Tryz.ntmps182
   go_wp2
   (refine tmX (by kernel_rfl) (by kernel_rfl) ?_); (repeat (first | (refine tmS rfl ?_; simp only [Act.put, List.setIfInBounds_toArray, List.set_cons_succ, List.set_cons_zero]) | (refine tmP rfl rfl rfl (fun K hK => ?_); go_big_quiet_op; refine hK _ ?_; clear hK K) | (refine tmE rfl rfl (fun K hK => ?_); go_big_op; (first | (go_at_call 96; first | ((with_reducible refine (HX.out _).mono ?_); rintro e w' ⟨rfl, x1, rfl⟩) | ((with_reducible refine (HY.out _).mono ?_); rintro e w' ⟨rfl, x2, rfl⟩)) | skip); (refine hK _ _ rfl (ext_of_below (by (repeat' first | with_reducible (first | apply bz0 | assumption | apply bz1 | apply bz2 | apply bz3 | apply bz4 | apply bz5) | (simp <;> omega)))) ?_; clear hK K)))); (refine tmN ?_)
   go_wp2
   (refine tmX (by kernel_rfl) (by kernel_rfl) ?_); (repeat (first | (refine tmS rfl ?_; simp only [Act.put, List.setIfInBounds_toArray, List.set_cons_succ, List.set_cons_zero]) | (refine tmP rfl rfl rfl (fun K hK => ?_); go_big_quiet_op; refine hK _ ?_; clear hK K) | (refine tmE rfl rfl (fun K hK => ?_); go_big_op; (first | fail | skip); (refine hK _ _ rfl (ext_of_below (by (repeat' first | with_reducible (first | apply bz0 | assumption | apply bz1 | apply bz2 | apply bz3 | apply bz4 | apply bz5) | (simp <;> omega)))) ?_; clear hK K)))); (refine tmN ?_)
   go_wp2
   refine bodyPost_ret (v := .tuple #[.int .i64 l, .int .i64 (dx.tdiv l), .int .i64 (dy.tdiv l)]) (by simp [results, Tryz.results182, go_sem]) rfl (retX rfl ?_)
   (repeat' first | with_reducible (first | apply bz0 | assumption | apply bz1 | apply bz2 | apply bz3 | apply bz4 | apply bz5) | (simp <;> omega))
 · obtain rfl : l = a := by omega
   clear hm hc
   go_enter Tryz.func182, Tryz.ntmps182
   go_wp2
   (refine tmX (by kernel_rfl) (by kernel_rfl) ?_); (repeat (first | (refine tmS rfl ?_; simp only [Act.put, List.setIfInBounds_toArray, List.set_cons_succ, List.set_cons_zero]) | (refine tmP rfl rfl rfl (fun K hK => ?_); go_big_quiet_op; refine hK _ ?_; clear hK K) | (refine tmE rfl rfl (fun K hK => ?_); go_big_op; (first | (go_at_call 96; first | ((with_reducible refine (HX.out _).mono ?_); rintro e w' ⟨rfl, x1, rfl⟩) | ((with_reducible refine (HY.out _).mono ?_); rintro e w' ⟨rfl, x2, rfl⟩)) | skip); (refine hK _ _ rfl (ext_of_below (by (repeat' first | with_reducible (first | apply bz0 | assumption | apply bz1 | apply bz2 | apply bz3 | apply bz4 | apply bz5) | (simp <;> omega)))) ?_; clear hK K)))); (refine tmN ?_)
   go_wp2
   (refine tmX (by kernel_rfl) (by kernel_rfl) ?_); (repeat (first | (refine tmS rfl ?_; simp only [Act.put, List.setIfInBounds_toArray, List.set_cons_succ, List.set_cons_zero]) | (refine tmP rfl rfl rfl (fun K hK => ?_); go_big_quiet_op; refine hK _ ?_; clear hK K) | (refine tmE rfl rfl (fun K hK => ?_); go_big_op; (first | fail | skip); (refine hK _ _ rfl (ext_of_below (by (repeat' first | with_reducible (first | apply bz0 | assumption | apply bz1 | apply bz2 | apply bz3 | apply bz4 | apply bz5) | (simp <;> omega)))) ?_; clear hK K)))); (refine tmN ?_)
   go_wp2
   refine bodyPost_ret (v := .tuple #[.int .i64 l, .int .i64 (dx.tdiv l), .int .i64 (dy.tdiv l)]) (by simp [results, Tryz.results182, go_sem]) rfl (retX rfl ?_)
   (repeat' first | with_reducible (first | apply bz0 | assumption | apply bz1 | apply bz2 | apply bz3 | apply bz4 | apply bz5) | (simp <;> omega))

def LineOk (dx dy : Int) : Prop := (-10000 ≤ dx ∧ dx ≤ 10000) ∧ (-10000 ≤ dy ∧ dy ≤ 10000) ∧ (dx ≠ 0 ∨ dy ≠ 0) ∧ (dx = 0 ∨ dy = 0 ∨ dx = dy ∨ dx = -dy)
theorem tdiv_size {n : Int} (h : n ≠ 0) : n.tdiv (sizeI n) = signI n := by
 unfold sizeI signI
 by_cases h0 : n < 0
 · rw [if_pos h0, if_pos h0, Int.tdiv_neg, Int.tdiv_self h]
 · rw [if_neg h0, if_neg h0, if_pos (by omega), Int.tdiv_self h]
theorem size_long {dx dy : Int} (h : LineOk dx dy) : (dx = 0 ∨ longI dx dy = sizeI dx) ∧ (dy = 0 ∨ longI dx dy = sizeI dy) := by
 obtain ⟨_, _, h1, h2⟩ := h
 unfold longI sizeI
 constructor <;> (repeat' split) <;> omega
theorem long_x {dx dy : Int} (h : LineOk dx dy) : dx.tdiv (longI dx dy) = signI dx := by
 rcases (size_long h).1 with h0 | h0
 · subst h0; rw [Int.zero_tdiv]; rfl
 · by_cases hz : dx = 0
   · subst hz; rw [Int.zero_tdiv]; rfl
   · rw [h0]; exact tdiv_size hz
theorem long_y {dx dy : Int} (h : LineOk dx dy) : dy.tdiv (longI dx dy) = signI dy := by
 rcases (size_long h).2 with h0 | h0
 · subst h0; rw [Int.zero_tdiv]; rfl
 · by_cases hz : dy = 0
   · subst hz; rw [Int.zero_tdiv]; rfl
   · rw [h0]; exact tdiv_size hz
theorem LongOk_any (x y dx dy : Int) (w : World) (h : LineOk dx dy) :
 Calls Tryz.prog 182 #[.agg #[.int .i64 x, .int .i64 y, .int .i64 dx, .int .i64 dy]] w (RetX w (.tuple #[.int .i64 (longI dx dy), .int .i64 (signI dx), .int .i64 (signI dy)])) := by
 have := Long_any x y dx dy w (by have := h.1; omega) (by have := h.2.1; omega) h.2.2.1
 rw [long_x h, long_y h] at this
 exact this
theorem sign_bd (n : Int) : -1 ≤ signI n ∧ signI n ≤ 1 := by unfold signI; (repeat' split) <;> omega
theorem sgn_mul {s z B : Int} (hs : -1 ≤ s ∧ s ≤ 1) (hz : -B ≤ z ∧ z ≤ B) : -B ≤ s * z ∧ s * z ≤ B := by
 have : s = -1 ∨ s = 0 ∨ s = 1 := by omega
 rcases this with rfl | rfl | rfl <;> omega
def besI (x y sx sy px py d : Int) : Int := sx * (py - y * d) - sy * (px - x * d)
def aloI (x y sx sy px py d : Int) : Int := sx * (px - x * d) + sy * (py - y * d)
def fulI (l sx sy : Int) : Int := l * (sx * sx + sy * sy)
theorem Beside_any (x y dx dy : Int) (w : World) (h : LineOk dx dy) (px py pz d : Int) (hx : -5000 ≤ x ∧ x ≤ 5000) (hy : -5000 ≤ y ∧ y ≤ 5000) (hp : -1000000000000000 ≤ px ∧ px ≤ 1000000000000000) (hq : -1000000000000000 ≤ py ∧ py ≤ 1000000000000000) (hd : 0 ≤ d ∧ d ≤ 100000000000) :
 Calls Tryz.prog 152 #[.agg #[.int .i64 x, .int .i64 y, .int .i64 dx, .int .i64 dy], .agg #[.int .i64 px, .int .i64 py, .int .i64 pz, .int .i64 d]] w (RetX w (.int .i64 (besI x y (signI dx) (signI dy) px py d))) := by
 have HL := hidden (fun W => LongOk_any x y dx dy W h)
 have HS : Hid (besI x y (signI dx) (signI dy) px py d = signI dx * (py - y * d) - signI dy * (px - x * d)) := rfl
 rw [HS.out]
 have s1 := sign_bd dx
 have s2 := sign_bd dy
 clear HS h
 generalize signI dx = sx at *
 generalize signI dy = sy at *
 generalize longI dx dy = l at *
 have m1 := mul_bd hx hd (by omega)
 have m2 := mul_bd hy hd (by omega)
 have z1 : -2000000000000000 ≤ py - y * d ∧ py - y * d ≤ 2000000000000000 := by omega
 have z2 : -2000000000000000 ≤ px - x * d ∧ px - x * d ≤ 2000000000000000 := by omega
 have n1 := sgn_mul s1 z1
 have n2 := sgn_mul s2 z2
 have e1 : IntKind.i64.wrap (y * d) = y * d := IntWalk.i64_in _ (by omega)
 have e2 : IntKind.i64.wrap (x * d) = x * d := IntWalk.i64_in _ (by omega)
 have e3 : IntKind.i64.wrap (py - y * d) = py - y * d := IntWalk.i64_in _ (by omega)
 have e4 : IntKind.i64.wrap (px - x * d) = px - x * d := IntWalk.i64_in _ (by omega)
 have e5 : IntKind.i64.wrap (sx * (py - y * d)) = sx * (py - y * d) := IntWalk.i64_in _ (by omega)
 have e6 : IntKind.i64.wrap (sy * (px - x * d)) = sy * (px - x * d) := IntWalk.i64_in _ (by omega)
 have e7 : IntKind.i64.wrap (sx * (py - y * d) - sy * (px - x * d)) = sx * (py - y * d) - sy * (px - x * d) := IntWalk.i64_in _ (by omega)
 go_enter Tryz.func152, Tryz.ntmps152
 go_wp2_with (go_at_call 182; refine (HL.out _).mono ?_; rintro e w' ⟨rfl, x1, rfl⟩)
 go_ret
 refine retX_int (by simp [e5, e6, e7]) ?_
 (repeat' first | with_reducible (first | apply bz0 | assumption | apply bz1 | apply bz2 | apply bz3 | apply bz4 | apply bz5) | (simp <;> omega))
theorem Along_any (x y dx dy : Int) (w : World) (h : LineOk dx dy) (px py pz d : Int) (hx : -5000 ≤ x ∧ x ≤ 5000) (hy : -5000 ≤ y ∧ y ≤ 5000) (hp : -1000000000000000 ≤ px ∧ px ≤ 1000000000000000) (hq : -1000000000000000 ≤ py ∧ py ≤ 1000000000000000) (hd : 0 ≤ d ∧ d ≤ 100000000000) :
 Calls Tryz.prog 159 #[.agg #[.int .i64 x, .int .i64 y, .int .i64 dx, .int .i64 dy], .agg #[.int .i64 px, .int .i64 py, .int .i64 pz, .int .i64 d]] w (RetX w (.int .i64 (aloI x y (signI dx) (signI dy) px py d))) := by
 have HL := hidden (fun W => LongOk_any x y dx dy W h)
 have HS : Hid (aloI x y (signI dx) (signI dy) px py d = signI dx * (px - x * d) + signI dy * (py - y * d)) := rfl
 rw [HS.out]
 have s1 := sign_bd dx
 have s2 := sign_bd dy
 clear HS h
 generalize signI dx = sx at *
 generalize signI dy = sy at *
 generalize longI dx dy = l at *
 have m1 := mul_bd hx hd (by omega)
 have m2 := mul_bd hy hd (by omega)
 have z1 : -2000000000000000 ≤ py - y * d ∧ py - y * d ≤ 2000000000000000 := by omega
 have z2 : -2000000000000000 ≤ px - x * d ∧ px - x * d ≤ 2000000000000000 := by omega
 have n1 := sgn_mul s1 z2
 have n2 := sgn_mul s2 z1
 have e1 : IntKind.i64.wrap (y * d) = y * d := IntWalk.i64_in _ (by omega)
 have e2 : IntKind.i64.wrap (x * d) = x * d := IntWalk.i64_in _ (by omega)
 have e3 : IntKind.i64.wrap (py - y * d) = py - y * d := IntWalk.i64_in _ (by omega)
 have e4 : IntKind.i64.wrap (px - x * d) = px - x * d := IntWalk.i64_in _ (by omega)
 have e5 : IntKind.i64.wrap (sx * (px - x * d)) = sx * (px - x * d) := IntWalk.i64_in _ (by omega)
 have e6 : IntKind.i64.wrap (sy * (py - y * d)) = sy * (py - y * d) := IntWalk.i64_in _ (by omega)
 have e7 : IntKind.i64.wrap (sx * (px - x * d) + sy * (py - y * d)) = sx * (px - x * d) + sy * (py - y * d) := IntWalk.i64_in _ (by omega)
 go_enter Tryz.func159, Tryz.ntmps159
 go_wp2_with (go_at_call 182; refine (HL.out _).mono ?_; rintro e w' ⟨rfl, x1, rfl⟩)
 go_ret
 refine retX_int (by simp [e5, e6, e7]) ?_
 (repeat' first | with_reducible (first | apply bz0 | assumption | apply bz1 | apply bz2 | apply bz3 | apply bz4 | apply bz5) | (simp <;> omega))
theorem long_bd {dx dy : Int} (h : LineOk dx dy) : 0 < longI dx dy ∧ longI dx dy ≤ 10000 := by
 obtain ⟨_, _, h1, h2⟩ := h
 unfold longI sizeI
 (repeat' split) <;> omega
theorem Full_any (x y dx dy : Int) (w : World) (h : LineOk dx dy) :
 Calls Tryz.prog 161 #[.agg #[.int .i64 x, .int .i64 y, .int .i64 dx, .int .i64 dy]] w (RetX w (.int .i64 (fulI (longI dx dy) (signI dx) (signI dy)))) := by
 have HL := hidden (fun W => LongOk_any x y dx dy W h)
 have HS : Hid (fulI (longI dx dy) (signI dx) (signI dy) = longI dx dy * (signI dx * signI dx + signI dy * signI dy)) := rfl
 rw [HS.out]
 have s1 := sign_bd dx
 have s2 := sign_bd dy
 have hl := long_bd h
 clear HS h
 generalize signI dx = sx at *
 generalize signI dy = sy at *
 generalize longI dx dy = l at *
 have n1 := sgn_mul (B := 1) s1 s1
 have n2 := sgn_mul (B := 1) s2 s2
 have n0 : 0 ≤ sx * sx + sy * sy ∧ sx * sx + sy * sy ≤ 2 := by
  have a1 : sx = -1 ∨ sx = 0 ∨ sx = 1 := by omega
  have a2 : sy = -1 ∨ sy = 0 ∨ sy = 1 := by omega
  rcases a1 with rfl | rfl | rfl <;> rcases a2 with rfl | rfl | rfl <;> decide
 have n3 := mul_bd (a := l) (A := 10000) ⟨by omega, by omega⟩ n0 (by omega)
 have e1 : IntKind.i64.wrap (sx * sx) = sx * sx := IntWalk.i64_in _ (by omega)
 have e2 : IntKind.i64.wrap (sy * sy) = sy * sy := IntWalk.i64_in _ (by omega)
 have e3 : IntKind.i64.wrap (sx * sx + sy * sy) = sx * sx + sy * sy := IntWalk.i64_in _ (by omega)
 have e4 : IntKind.i64.wrap (l * (sx * sx + sy * sy)) = l * (sx * sx + sy * sy) := IntWalk.i64_in _ (by omega)
 go_enter Tryz.func161, Tryz.ntmps161
 go_wp2_with (go_at_call 182; refine (HL.out _).mono ?_; rintro e w' ⟨rfl, x1, rfl⟩)
 go_ret
 refine retX_int (by simp [e4]) ?_
 (repeat' first | with_reducible (first | apply bz0 | assumption | apply bz1 | apply bz2 | apply bz3 | apply bz4 | apply bz5) | (simp <;> omega))
end Go.Proofs.YtekieoamelahkaaGreat
