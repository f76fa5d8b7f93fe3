/- The reference's lines: Has, corner. -/
import Derived.Test.YtekieoamelahkaaGreatM35
import Derived.Test.YtekieoamelahkaaGreatM30
set_option maxRecDepth 100000
set_option maxHeartbeats 1000000
set_option linter.unusedVariables false
set_option linter.unusedSimpArgs false
namespace Go.Proofs.YtekieoamelahkaaGreat
open Go.RowKit Go.Shelf
attribute [local go_sem] Oper.semAt_some

def hasP (x y dx dy px py d : Int) : Bool := (besI x y (signI dx) (signI dy) px py d == 0) && wiB (aloI x y (signI dx) (signI dy) px py d) 0 (fulI (longI dx dy) (signI dx) (signI dy) * d)
theorem fulI_bd {dx dy : Int} (h : LineOk dx dy) : 0 ≤ fulI (longI dx dy) (signI dx) (signI dy) ∧ fulI (longI dx dy) (signI dx) (signI dy) ≤ 20000 := by
 have hl := long_bd h
 have s1 := sign_bd dx
 have s2 := sign_bd dy
 have n0 : 0 ≤ signI dx * signI dx + signI dy * signI dy ∧ signI dx * signI dx + signI dy * signI dy ≤ 2 := by
  generalize signI dx = sx at *
  generalize signI dy = sy at *
  have a1 : sx = -1 ∨ sx = 0 ∨ sx = 1 := by omega
  have a2 : sy = -1 ∨ sy = 0 ∨ sy = 1 := by omega
  rcases a1 with rfl | rfl | rfl <;> rcases a2 with rfl | rfl | rfl <;> decide
 unfold fulI
 have n3 := mul_bd (a := longI dx dy) (A := 10000) ⟨by omega, by omega⟩ n0 (by omega)
 exact ⟨Int.mul_nonneg (by omega) n0.1, by omega⟩
theorem Has_line (x y dx dy : Int) (w : World) (h : LineOk dx dy) (px py pz d : Int) (hx : -5000 ≤ x ∧ x ≤ 5000) (hy : -5000 ≤ y ∧ y ≤ 5000) (hp : -1000000000000000 ≤ px ∧ px ≤ 1000000000000000) (hq : -1000000000000000 ≤ py ∧ py ≤ 1000000000000000) (hd : 0 ≤ d ∧ d ≤ 100000000000) :
 Calls Tryz.prog 139 #[.agg #[.int .i64 x, .int .i64 y, .int .i64 dx, .int .i64 dy], .agg #[.int .i64 px, .int .i64 py, .int .i64 pz, .int .i64 d]] w (RetX w (.bool (hasP x y dx dy px py d))) := by
 have HB := hidden (fun W => Beside_any x y dx dy W h px py pz d hx hy hp hq hd)
 have HA := hidden (fun W => Along_any x y dx dy W h px py pz d hx hy hp hq hd)
 have HF := hidden (fun W => Full_any x y dx dy W h)
 have hf := fulI_bd h
 have hm := mul_bd (a := fulI (longI dx dy) (signI dx) (signI dy)) (A := 20000) ⟨by omega, by omega⟩ hd (by omega)
 have HS : Hid (hasP x y dx dy px py d = ((besI x y (signI dx) (signI dy) px py d == 0) && wiB (aloI x y (signI dx) (signI dy) px py d) 0 (fulI (longI dx dy) (signI dx) (signI dy) * d))) := rfl
 generalize besI x y (signI dx) (signI dy) px py d = u at *
 generalize aloI x y (signI dx) (signI dy) px py d = v at *
 generalize fulI (longI dx dy) (signI dx) (signI dy) = f at *
 have e1 : IntKind.i64.wrap (f * d) = f * d := IntWalk.i64_in _ (by omega)
 have HW := hidden (fun W => Within_any v 0 (f * d) W)
 clear h hx hy hp hq
 rw [HS.out]
 clear HS
 generalize wiB v 0 (f * d) = q at *
 cases p0 : (u == 0) with
 | true =>
  go_enter Tryz.func139, Tryz.ntmps139
  go_wp2
  (refine tmX (by kernel_rfl) (by kernel_rfl) ?_); (repeat (first | (refine tmS rfl ?_; simp only [Act.put, List.setIfInBounds_toArray, List.set_cons_succ, List.set_cons_zero]) | (refine tmP rfl rfl rfl (fun K hK => ?_); go_big_quiet_op; refine hK _ ?_; clear hK K) | (refine tmE rfl rfl (fun K hK => ?_); go_big_op; (first | (go_at_call 152; refine (HB.out _).mono ?_; rintro e w' ⟨rfl, x1, rfl⟩) | (go_at_call 159; refine (HA.out _).mono ?_; rintro e w' ⟨rfl, x2, rfl⟩) | (go_at_call 161; refine (HF.out _).mono ?_; rintro e w' ⟨rfl, x3, rfl⟩) | (go_at_call 45; refine (HW.out _).mono ?_; rintro e w' ⟨rfl, x4, rfl⟩) | skip); (refine hK _ _ rfl (ext_of_below (by (repeat' first | with_reducible (first | apply bz0 | assumption | apply bz1 | apply bz2 | apply bz3 | apply bz4 | apply bz5) | (simp <;> omega)))) ?_; clear hK K)))); (refine tmN ?_)
  go_wp2
  go_ret
  refine retX_bool (by simp) ?_
  (repeat' first | with_reducible (first | apply bz0 | assumption | apply bz1 | apply bz2 | apply bz3 | apply bz4 | apply bz5) | (simp <;> omega))
 | false =>
  go_enter Tryz.func139, Tryz.ntmps139
  go_wp2
  (refine tmX (by kernel_rfl) (by kernel_rfl) ?_); (repeat (first | (refine tmS rfl ?_; simp only [Act.put, List.setIfInBounds_toArray, List.set_cons_succ, List.set_cons_zero]) | (refine tmP rfl rfl rfl (fun K hK => ?_); go_big_quiet_op; refine hK _ ?_; clear hK K) | (refine tmE rfl rfl (fun K hK => ?_); go_big_op; (first | (go_at_call 152; refine (HB.out _).mono ?_; rintro e w' ⟨rfl, x1, rfl⟩) | skip); (refine hK _ _ rfl (ext_of_below (by (repeat' first | with_reducible (first | apply bz0 | assumption | apply bz1 | apply bz2 | apply bz3 | apply bz4 | apply bz5) | (simp <;> omega)))) ?_; clear hK K)))); (refine tmN ?_)
  go_wp2
  go_ret
  refine retX_bool (by simp) ?_
  (repeat' first | with_reducible (first | apply bz0 | assumption | apply bz1 | apply bz2 | apply bz3 | apply bz4 | apply bz5) | (simp <;> omega))
theorem corner_any (x y : Int) (w : World) :
 Calls Tryz.prog 142 #[.agg #[.int .i64 x, .int .i64 y]] w (RetX w (.agg #[.int .i64 x, .int .i64 y, .int .i64 0, .int .i64 1])) := by
 go_enter Tryz.func142, Tryz.ntmps142
 go_wp2
 refine bodyPost_ret (v := .agg #[.int .i64 x, .int .i64 y, .int .i64 0, .int .i64 1]) (by simp [results, Tryz.results142, go_sem]) rfl (retX rfl ?_)
 (repeat' first | with_reducible (first | apply bz0 | assumption | apply bz1 | apply bz2 | apply bz3 | apply bz4 | apply bz5) | (simp <;> omega))
end Go.Proofs.YtekieoamelahkaaGreat

/- The reference's LineOf. -/
namespace Go.Proofs.YtekieoamelahkaaGreat
open Go.RowKit Go.Shelf
attribute [local go_sem] Oper.semAt_some

theorem store_ln {W : World} {B : Nat} {a' b' c' d' : Int} (h : Four a' b' c' d' B W) (hf : ∀ i, W.frozen? ⟨B, i, none⟩ = false) (a b c d : Int) : (Instr.storeAt 159 (.pointer (some ⟨B, 0, none⟩)) (.agg #[.int .i64 a, .int .i64 b, .int .i64 c, .int .i64 d])).run Tryz.prog W = .ok () (set4 W B a b c d) := by
 obtain ⟨h0, h1, h2, h3⟩ := h
 have hB := has_of_cell h0
 unfold set4
 simp [go_sem, h0, h1, h2, h3, hf, hB]
def lnX (H : Hal) (i : Nat) : Int := (corAt H.cors i).x
def lnY (H : Hal) (i : Nat) : Int := (corAt H.cors i).y
def lnDX (H : Hal) (i : Nat) : Int := (corAt H.cors (nxt H.cors.length i)).x - (corAt H.cors i).x
def lnDY (H : Hal) (i : Nat) : Int := (corAt H.cors (nxt H.cors.length i)).y - (corAt H.cors i).y
set_option maxRecDepth 100000 in set_option maxHeartbeats 4000000 in
theorem LineOf_any {w : World} {H : Hal} {v4 v5 v6 v7 v8 : Value} (hV : HalVs w v4 v5 v6 v7 v8 H) (hC : CorsIn H) (i : Nat) (hi : i < H.cors.length) :
 Calls Tryz.prog 97 #[halV H v4 v5 v6 v7 v8, .int .i64 i] w (RetX w (.agg #[.int .i64 (lnX H i), .int .i64 (lnY H i), .int .i64 (lnDX H i), .int .i64 (lnDY H i)])) := by
 obtain ⟨_, g4, g5, g6, g7, g8⟩ := hV
 obtain ⟨A4, c4, rfl, _⟩ := slc_form g4
 obtain ⟨A5, c5, rfl, hS⟩ := slc_form g5
 obtain ⟨A6, c6, rfl, _⟩ := slc_form g6
 obtain ⟨A7, c7, rfl, _⟩ := slc_form g7
 obtain ⟨A8, c8, rfl, _⟩ := slc_form g8
 clear g4 g5 g6 g7 g8
 obtain ⟨g, o, rfl, hg, hcs⟩ := cor_at hS hi
 have hl := hS.1
 have hj := nxt_lt hi
 have e2 := nxt_mod hi
 have k1 := hcs i hi
 have k2 := hcs _ hj
 have b1 := hC i hi
 have b2 := hC _ hj
 unfold lnX lnY lnDX lnDY
 clear hcs hS hC
 generalize corAt H.cors i = C1 at *
 generalize corAt H.cors (nxt H.cors.length i) = C2 at *
 generalize nxt H.cors.length i = j at *
 generalize H.cors.length = n at *
 obtain ⟨a1, a2⟩ := k1; obtain ⟨a3, a4⟩ := k2
 obtain ⟨C1x, C1y⟩ := C1
 obtain ⟨C2x, C2y⟩ := C2
 simp only at *
 have e1 : IntKind.i64.wrap ((i : Int) + 1) = (i : Int) + 1 := IntWalk.i64_in _ (by omega)
 have e3 : IntKind.i64.wrap (C2x - C1x) = C2x - C1x := IntWalk.i64_in _ (by omega)
 have e4 : IntKind.i64.wrap (C2y - C1y) = C2y - C1y := IntWalk.i64_in _ (by omega)
 unfold halV
 go_enter Tryz.func97, Tryz.ntmps97
 go_wp2
 generalize hX : World.alloc _ _ = X
 have x5 : X.cell? ⟨w.heap.size, 5, none⟩ = some (.slice (some ⟨g, o, none⟩) n c5) := by rw [← hX]; simp [go_sem]
 have r0 : X.cell? ⟨w.heap.size + 1, 0, none⟩ = some (.int .i64 0) := by rw [← hX]; simp [go_sem]
 have r1 : X.cell? ⟨w.heap.size + 1, 1, none⟩ = some (.int .i64 0) := by rw [← hX]; simp [go_sem]
 have r2 : X.cell? ⟨w.heap.size + 1, 2, none⟩ = some (.int .i64 0) := by rw [← hX]; simp [go_sem]
 have r3 : X.cell? ⟨w.heap.size + 1, 3, none⟩ = some (.int .i64 0) := by rw [← hX]; simp [go_sem]
 have rf : ∀ i, X.frozen? ⟨w.heap.size + 1, i, none⟩ = false := by intro i; rw [← hX]; simp [go_sem]
 have BX : Below w.heap.size w X := by rw [← hX]; (repeat' first | with_reducible (first | apply bz0 | assumption | apply bz1 | apply bz2 | apply bz3 | apply bz4 | apply bz5) | (simp <;> omega))
 replace a1 := cell_below BX hg a1
 replace a2 := cell_below BX hg a2
 replace a3 := cell_below BX hg a3
 replace a4 := cell_below BX hg a4
 clear hX hg
 have hg := has_of_cell a1
 have hr := has_of_cell r0
 have h5 := has_of_cell x5
 have hxs := BX.size
 have nr : X.heap.size ≠ w.heap.size + 1 := Ne.symm (Nat.ne_of_lt hr)
 have nr1 : X.heap.size + 1 ≠ w.heap.size + 1 := by have : w.heap.size + 1 < X.heap.size := hr; omega
 (refine wp_region_tree (by kernel_rfl) ?_)
 (refine tree_pure 0 rfl (by kernel_rfl) (by kernel_rfl) (by kernel_rfl) rfl rfl rfl (fun K hK => ?_)); go_big_quiet_op; refine hK _ ?_; clear hK K
 (refine tree_pure 1 rfl (by kernel_rfl) (by kernel_rfl) (by kernel_rfl) rfl rfl rfl (fun K hK => ?_)); go_big_quiet_op; refine hK _ ?_; clear hK K
 (refine tree_pure 2 rfl (by kernel_rfl) (by kernel_rfl) (by kernel_rfl) rfl rfl rfl (fun K hK => ?_)); go_big_quiet_op; refine hK _ ?_; clear hK K
 (refine tree_pure 3 rfl (by kernel_rfl) (by kernel_rfl) (by kernel_rfl) rfl rfl rfl (fun K hK => ?_)); go_big_quiet_op; refine hK _ ?_; clear hK K
 (refine tree_pure 4 rfl (by kernel_rfl) (by kernel_rfl) (by kernel_rfl) rfl rfl rfl (fun K hK => ?_)); go_big_quiet_op; refine hK _ ?_; clear hK K
 (refine tree_pure 5 rfl (by kernel_rfl) (by kernel_rfl) (by kernel_rfl) rfl rfl rfl (fun K hK => ?_)); go_big_quiet_op; refine hK _ ?_; clear hK K
 (refine tree_pure 6 rfl (by kernel_rfl) (by kernel_rfl) (by kernel_rfl) rfl rfl rfl (fun K hK => ?_)); go_big_quiet_op; refine hK _ ?_; clear hK K
 (refine tree_pure 7 rfl (by kernel_rfl) (by kernel_rfl) (by kernel_rfl) rfl rfl rfl (fun K hK => ?_)); go_big_quiet_op; refine hK _ ?_; clear hK K
 (refine tree_pure 8 rfl (by kernel_rfl) (by kernel_rfl) (by kernel_rfl) rfl rfl rfl (fun K hK => ?_)); go_big_quiet_op; refine hK _ ?_; clear hK K
 (refine tree_pure 9 rfl (by kernel_rfl) (by kernel_rfl) (by kernel_rfl) rfl rfl rfl (fun K hK => ?_)); go_big_quiet_op; refine hK _ ?_; clear hK K
 (refine tree_pure 10 rfl (by kernel_rfl) (by kernel_rfl) (by kernel_rfl) rfl rfl rfl (fun K hK => ?_)); go_big_quiet_op; refine hK _ ?_; clear hK K
 (refine tree_pure 11 rfl (by kernel_rfl) (by kernel_rfl) (by kernel_rfl) rfl rfl rfl (fun K hK => ?_)); go_big_quiet_op; refine hK _ ?_; clear hK K
 (refine tree_pure 12 rfl (by kernel_rfl) (by kernel_rfl) (by kernel_rfl) rfl rfl rfl (fun K hK => ?_)); go_big_quiet_op; refine hK _ ?_; clear hK K
 (refine tree_pure 13 rfl (by kernel_rfl) (by kernel_rfl) (by kernel_rfl) rfl rfl rfl (fun K hK => ?_)); go_big_quiet_op; refine hK _ ?_; clear hK K
 (refine tree_pure 14 rfl (by kernel_rfl) (by kernel_rfl) (by kernel_rfl) rfl rfl rfl (fun K hK => ?_)); go_big_quiet_op; refine hK _ ?_; clear hK K
 refine tree_all [15, 16] (by kernel_rfl) (by decide) ?_
 intro i hi
 simp only [List.mem_cons, List.not_mem_nil, or_false] at hi
 rcases hi with rfl | rfl
 · (refine tree_eff 15 rfl rfl rfl (fun K hK => ?_)); go_big_op; (first | fail | skip); (refine hK _ _ rfl (ext_of_below (by (repeat' first | with_reducible (first | apply bz0 | assumption | apply bz1 | apply bz2 | apply bz3 | apply bz4 | apply bz5) | (simp <;> omega)))) ?_; clear hK K)
   refine tree_all [16] (by kernel_rfl) (by decide) ?_
   intro i hi
   simp only [List.mem_cons, List.not_mem_nil, or_false] at hi
   subst hi
   (refine tree_eff 16 rfl rfl rfl (fun K hK => ?_)); go_big_op; (first | fail | skip); (refine hK _ _ rfl (ext_of_below (by (repeat' first | with_reducible (first | apply bz0 | assumption | apply bz1 | apply bz2 | apply bz3 | apply bz4 | apply bz5) | (simp <;> omega)))) ?_; clear hK K)
   refine tree_all [17] (by kernel_rfl) (by decide) ?_
   intro i hi
   simp only [List.mem_cons, List.not_mem_nil, or_false] at hi
   subst hi
   (refine tree_eff 17 rfl rfl rfl (fun K hK => ?_)); go_big_op; (first | fail | skip); (refine hK _ _ rfl (ext_of_below (by (repeat' first | with_reducible (first | apply bz0 | assumption | apply bz1 | apply bz2 | apply bz3 | apply bz4 | apply bz5) | (simp <;> omega)))) ?_; clear hK K)
   refine tree_all [18] (by kernel_rfl) (by decide) ?_
   intro i hi
   simp only [List.mem_cons, List.not_mem_nil, or_false] at hi
   subst hi
   (refine tree_eff 18 rfl rfl rfl (fun K hK => ?_)); go_big_op; (first | fail | skip); (refine hK _ _ rfl (ext_of_below (by (repeat' first | with_reducible (first | apply bz0 | assumption | apply bz1 | apply bz2 | apply bz3 | apply bz4 | apply bz5) | (simp <;> omega)))) ?_; clear hK K)
   refine tree_done (by kernel_rfl) ?_
   (go_wp2; generalize hF : World.setCell (World.setCell (World.setCell (World.setCell _ _ _) _ _) _ _) _ _ = F; have tt : Four C1x C1y (C2x - C1x) (C2y - C1y) (w.heap.size + 1) F := (by rw [← hF]; exact set4_four (a' := 0) (b' := 0) (c' := 0) (d' := 0) (by constructor <;> simp [go_sem, r0, r1, r2, r3, hr, nr, nr1]) _ _ _ _); have BF : Below w.heap.size w F := (by rw [← hF]; exact set4_below (BX.trans ((show Below X.heap.size X _ by (repeat' first | with_reducible (first | apply bz0 | assumption | apply bz1 | apply bz2 | apply bz3 | apply bz4 | apply bz5) | (simp <;> omega))).lower hxs)) (by omega)); obtain ⟨t0, t1, t2, t3⟩ := tt; clear hF; refine bodyPost_ret (v := .agg #[.int .i64 C1x, .int .i64 C1y, .int .i64 (C2x - C1x), .int .i64 (C2y - C1y)]) (by simp [results, Tryz.results97, go_sem, t0, t1, t2, t3]) rfl (by first | exact retX rfl BF | exact retX rfl BF.drew))
 · (refine tree_eff 16 rfl rfl rfl (fun K hK => ?_)); go_big_op; (first | fail | skip); (refine hK _ _ rfl (ext_of_below (by (repeat' first | with_reducible (first | apply bz0 | assumption | apply bz1 | apply bz2 | apply bz3 | apply bz4 | apply bz5) | (simp <;> omega)))) ?_; clear hK K)
   refine tree_all [15] (by kernel_rfl) (by decide) ?_
   intro i hi
   simp only [List.mem_cons, List.not_mem_nil, or_false] at hi
   subst hi
   (refine tree_eff 15 rfl rfl rfl (fun K hK => ?_)); go_big_op; (first | fail | skip); (refine hK _ _ rfl (ext_of_below (by (repeat' first | with_reducible (first | apply bz0 | assumption | apply bz1 | apply bz2 | apply bz3 | apply bz4 | apply bz5) | (simp <;> omega)))) ?_; clear hK K)
   refine tree_all [17] (by kernel_rfl) (by decide) ?_
   intro i hi
   simp only [List.mem_cons, List.not_mem_nil, or_false] at hi
   subst hi
   (refine tree_eff 17 rfl rfl rfl (fun K hK => ?_)); go_big_op; (first | fail | skip); (refine hK _ _ rfl (ext_of_below (by (repeat' first | with_reducible (first | apply bz0 | assumption | apply bz1 | apply bz2 | apply bz3 | apply bz4 | apply bz5) | (simp <;> omega)))) ?_; clear hK K)
   refine tree_all [18] (by kernel_rfl) (by decide) ?_
   intro i hi
   simp only [List.mem_cons, List.not_mem_nil, or_false] at hi
   subst hi
   (refine tree_eff 18 rfl rfl rfl (fun K hK => ?_)); go_big_op; (first | fail | skip); (refine hK _ _ rfl (ext_of_below (by (repeat' first | with_reducible (first | apply bz0 | assumption | apply bz1 | apply bz2 | apply bz3 | apply bz4 | apply bz5) | (simp <;> omega)))) ?_; clear hK K)
   refine tree_done (by kernel_rfl) ?_
   (go_wp2; generalize hF : World.setCell (World.setCell (World.setCell (World.setCell _ _ _) _ _) _ _) _ _ = F; have tt : Four C1x C1y (C2x - C1x) (C2y - C1y) (w.heap.size + 1) F := (by rw [← hF]; exact set4_four (a' := 0) (b' := 0) (c' := 0) (d' := 0) (by constructor <;> simp [go_sem, r0, r1, r2, r3, hr, nr, nr1]) _ _ _ _); have BF : Below w.heap.size w F := (by rw [← hF]; exact set4_below (BX.trans ((show Below X.heap.size X _ by (repeat' first | with_reducible (first | apply bz0 | assumption | apply bz1 | apply bz2 | apply bz3 | apply bz4 | apply bz5) | (simp <;> omega))).lower hxs)) (by omega)); obtain ⟨t0, t1, t2, t3⟩ := tt; clear hF; refine bodyPost_ret (v := .agg #[.int .i64 C1x, .int .i64 C1y, .int .i64 (C2x - C1x), .int .i64 (C2y - C1y)]) (by simp [results, Tryz.results97, go_sem, t0, t1, t2, t3]) rfl (by first | exact retX rfl BF | exact retX rfl BF.drew))
end Go.Proofs.YtekieoamelahkaaGreat
