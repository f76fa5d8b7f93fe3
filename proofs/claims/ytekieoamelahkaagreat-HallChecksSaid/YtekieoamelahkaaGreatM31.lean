/- AbsorptionArea, of a setting that is right. -/
import Derived.Test.YtekieoamelahkaaGreatM29
import Derived.Test.YtekieoamelahkaaGreatM28
set_option maxRecDepth 100000
set_option maxHeartbeats 1000000
set_option linter.unusedVariables false
set_option linter.unusedSimpArgs false
namespace Go.Proofs.YtekieoamelahkaaGreat
open Go.RowKit Go.Shelf
attribute [local go_sem] Oper.semAt_some

def absB (m : Mat) (b : Int) : Int := if b = 0 then m.a0 else if b = 1 then m.a1 else if b = 2 then m.a2 else m.a3
def shr (H : Hal) (bd : Int) (mt : Nat → ByteArray) (sd : Nat → Int) (n : Nat) : Int := sd n * absB (matOf H (mt n)) bd
def sumTo (f : Nat → Int) (g : Nat → Int) : Nat → Int | 0 => 0 | k + 1 => sumTo f g k + f k * g k

theorem AbsorptionArea_good {w : World} {H : Hal} {S : Stg} {v4 v5 v6 v7 v8 v9 v10 : Value} (hV : HalVs w v4 v5 v6 v7 v8 H) (h9 : SlcAt encInt w v9 S.hs) (h10 : SlcAt encInt w v10 S.dr) (hE : inE H S = 0) (N : Nat) (hNN : (N : Int) = (H.wals.length : Int) + 2 + H.cans.length) (hN : N ≤ 1000000)
 (K A lo hi sd : Nat → Int) (mt : Nat → ByteArray) (fn : Nat → Nat)
 (hS : ∀ n, n < N → ∀ W b, Room W b H S → Calls Tryz.prog 104 #[.pointer (some ⟨b, 0, none⟩), .int .i64 n] W (fun e w' => Below W.heap.size W w' ∧ ∃ pr cap, e = .returned (surfV (K n) (A n) (mt n) (lo n) (hi n) (sd n) (.func (.func (fn n)) pr cap))))
 (h1 : ∀ n, n < N → (-1000000 ≤ shr H 2 mt sd n ∧ shr H 2 mt sd n ≤ 1000000) ∧ (-1000000000000 ≤ lo n * shr H 2 mt sd n ∧ lo n * shr H 2 mt sd n ≤ 1000000000000) ∧ (-1000000000000 ≤ hi n * shr H 2 mt sd n ∧ hi n * shr H 2 mt sd n ≤ 1000000000000))
 (h2 : ∀ n, n ≤ N → (0 ≤ sumTo lo (shr H 2 mt sd) n ∧ sumTo lo (shr H 2 mt sd) n ≤ 1000000000000000) ∧ (0 ≤ sumTo hi (shr H 2 mt sd) n ∧ sumTo hi (shr H 2 mt sd) n ≤ 1000000000000000)) :
 Calls Tryz.prog 44 #[halV H v4 v5 v6 v7 v8, .agg #[v9, v10], .int .i64 2] w (RetX w (.tuple #[.agg #[.int .i64 (sumTo lo (shr H 2 mt sd) N / 1000), .int .i64 ((sumTo hi (shr H 2 mt sd) N + 999) / 1000)], .int .i64 0])) := by
 have HC := hidden (fun (W : World) (hW : Below w.heap.size w W) => visitIn_good (hV.below hW) (h9.below hW) (h10.below hW) hE)
 have HN := hidden (fun (W : World) (b : Nat) (hR : Room W b H S) => countSurfaces_room hR)
 have HM := hidden (fun (W : World) (b : Nat) (hR : Room W b H S) (nm : ByteArray) => material_room hR nm)
 have HS := hidden hS
 have H1 := hidden h1
 have H2 := hidden h2
 clear hS h1 h2
 obtain ⟨_, g4, g5, g6, g7, g8⟩ := hV
 obtain ⟨A4, c4, rfl, _⟩ := slc_form g4
 obtain ⟨A5, c5, rfl, _⟩ := slc_form g5
 obtain ⟨A6, c6, rfl, _⟩ := slc_form g6
 obtain ⟨A7, c7, rfl, _⟩ := slc_form g7
 obtain ⟨A8, c8, rfl, _⟩ := slc_form g8
 obtain ⟨A9, c9, rfl, _⟩ := slc_form h9
 obtain ⟨A10, c10, rfl, _⟩ := slc_form h10
 rw [← hNN] at HN
 clear hNN
 unfold halV at *
 refine (callsIn_wide (n := 10)).1 ?_
 refine callsIn_of_wp Tryz.func44 rfl trivial ?_ rfl
 simp only [Tryz.ntmps44, nt, Nat.reduceAdd, Nat.reduceSub]
 gi_wp2
 (refine ⟨trivial, ?_⟩; ((with_reducible refine (callsIn_wide.2 (HC.out _ ?hk)).mono ?_); (case hk => (repeat' first | with_reducible (first | apply bz0 | assumption | apply bz1 | apply bz2 | apply bz3 | apply bz4 | apply bz5) | (simp <;> omega))); rintro e w1 ⟨hB1, b, hb1, rfl, hR1⟩))
 generalize hY : World.alloc _ _ = Y at *
 have y0 : Y.cell? ⟨w.heap.size + 2, 0, none⟩ = some (.int .i64 0) := by rw [← hY]; simp [go_sem]
 have y1 : Y.cell? ⟨w.heap.size + 2, 1, none⟩ = some (.int .i64 0) := by rw [← hY]; simp [go_sem]
 have yf : ∀ i, Y.frozen? ⟨w.heap.size + 2, i, none⟩ = false := by intro i; rw [← hY]; simp [go_sem]
 have BY : Below w.heap.size w Y := by rw [← hY]; (repeat' first | with_reducible (first | apply bz0 | assumption | apply bz1 | apply bz2 | apply bz3 | apply bz4 | apply bz5) | (simp <;> omega))
 have gy := has_of_cell y0
 replace yf : ∀ i, w1.frozen? ⟨w.heap.size + 2, i, none⟩ = false := fun i => (World.frozen?_of_block (w := Y) (hB1.block (w.heap.size + 2) gy)).trans (yf i)
 replace y0 := cell_below hB1 gy y0
 replace y1 := cell_below hB1 gy y1
 replace gy := has_of_cell y0
 have BX : Below w.heap.size w w1 := BY.trans (hB1.lower BY.size)
 have hgs := BX.size
 clear hY g4 g5 g6 g7 g8 h9 h10 HC
 gi_wp2
 (refine ⟨trivial, ?_⟩; ((with_reducible refine (callsIn_wide.2 (HN.out _ _ hR1)).mono ?_); rintro e w2 ⟨rfl, x2, rfl⟩))
 gi_wp2
 gi_loopw [10, 11, 36] (fun l h i wr => ∃ k : Nat, l = .int .i64 (sumTo lo (shr H 2 mt sd) k) ∧ h = .int .i64 (sumTo hi (shr H 2 mt sd) k) ∧ i = .int .i64 k ∧ k ≤ N ∧ Below w1.heap.size w1 wr) (fun _ _ i _ => N - (intOf i).toNat)
 case atStart => exact ⟨0, rfl, rfl, rfl, Nat.zero_le _, by (repeat' first | with_reducible (first | apply bz0 | assumption | apply bz1 | apply bz2 | apply bz3 | apply bz4 | apply bz5) | (simp <;> omega))⟩
 case round =>
  obtain ⟨k, rfl, rfl, rfl, hk, hB⟩ := hrel
  rcases Nat.lt_or_ge k N with hlt | hge
  · have hRk := hR1.below hB
    have HSk := hidden (HS.out k hlt)
    obtain ⟨a1, a2, a3⟩ := H1.out k hlt
    obtain ⟨b1, b2⟩ := H2.out k hk
    obtain ⟨b3, b4⟩ := H2.out (k + 1) hlt
    have s1 : Hid (sumTo lo (shr H 2 mt sd) (k + 1) = sumTo lo (shr H 2 mt sd) k + lo k * shr H 2 mt sd k) := rfl
    have s2 : Hid (sumTo hi (shr H 2 mt sd) (k + 1) = sumTo hi (shr H 2 mt sd) k + hi k * shr H 2 mt sd k) := rfl
    have s3 : Hid (shr H 2 mt sd k = sd k * (matOf H (mt k)).a2) := rfl
    rw [s1.out] at b3
    rw [s2.out] at b4
    clear HS H1 H2 y0 y1 yf
    generalize hk1 : sumTo lo (shr H 2 mt sd) (k + 1) = s' at *
    generalize hk2 : sumTo hi (shr H 2 mt sd) (k + 1) = t' at *
    generalize sumTo lo (shr H 2 mt sd) k = s at *
    generalize sumTo hi (shr H 2 mt sd) k = t at *
    generalize shr H 2 mt sd k = q at *
    generalize K k = K' at *
    generalize A k = A' at *
    generalize lo k = lo' at *
    generalize hi k = hi' at *
    generalize sd k = sd' at *
    generalize mt k = mt' at *
    unfold surfV at *
    gi_wp2
    (refine ⟨trivial, ?_⟩; ((with_reducible refine (callsIn_wide.2 (HSk.out _ _ hRk)).mono ?_); rintro e w3 ⟨hB3, pr, cap, rfl⟩))
    have h7 := Seven.new w3
    gi_wp2_with (refine Oper.wpIn_store rfl (store_surf _ _ _ _ _ _ _ _ _ _ _ h7) ?_)
    obtain ⟨_, _, z2, z3, z4, z5, _⟩ := set7_cells K' A' mt' lo' hi' sd' (fn k) pr cap h7
    have BX2 : Below w3.heap.size w3 (set7 (w3.alloc (.cells #[.int .i64 0, .int .i64 0, .string ⟨#[]⟩, .int .i64 0, .int .i64 0, .int .i64 0, .nilFunc] 151)) w3.heap.size K' A' mt' lo' hi' sd' (.func (.func (fn k)) pr cap)) := set7_below (by (repeat' first | with_reducible (first | apply bz0 | assumption | apply bz1 | apply bz2 | apply bz3 | apply bz4 | apply bz5) | (simp <;> omega))) (Nat.le_refl _)
    generalize hX2 : set7 _ _ _ _ _ _ _ _ _ = X2 at *
    have hR3 := (hRk.below hB3).below BX2
    have B3 : Below w1.heap.size w1 X2 := (hB.trans (hB3.lower hB.size)).trans (BX2.lower (hB.trans (hB3.lower hB.size)).size)
    have gz := has_of_cell z2
    have HMk := hidden (fun (W : World) (hW : Below X2.heap.size X2 W) => HM.out W b (hR3.below hW) mt')
    clear hX2 HM HSk
    have s3 := s3.out
    generalize matOf H mt' = m at *
    obtain ⟨mn, m0, m1, m2, m3, msc⟩ := m
    unfold matV at HMk
    try simp only at s3
    try simp only at HMk
    have e1 : IntKind.i64.wrap (sd' * m2) = q := by rw [← s3]; exact IntWalk.i64_in _ (by omega)
    have e2 : IntKind.i64.wrap (lo' * q) = lo' * q := IntWalk.i64_in _ (by omega)
    have e3 : IntKind.i64.wrap (hi' * q) = hi' * q := IntWalk.i64_in _ (by omega)
    have e4 : IntKind.i64.wrap (s + lo' * q) = s + lo' * q := IntWalk.i64_in _ (by omega)
    have e5 : IntKind.i64.wrap (t + hi' * q) = t + hi' * q := IntWalk.i64_in _ (by omega)
    have hfl : ∀ W : World, (Instr.field 82 (.agg #[.string mn, .int .i64 m0, .int .i64 m1, .int .i64 m2, .int .i64 m3, .int .i64 msc]) 1).run Tryz.prog W = .ok (.agg #[.int .i64 m0, .int .i64 m1, .int .i64 m2, .int .i64 m3]) W := fun W => rfl
    have hix : ∀ W : World, (Instr.index 77 (.agg #[.int .i64 m0, .int .i64 m1, .int .i64 m2, .int .i64 m3]) (.int .i64 2)).run Tryz.prog W = .ok (.int .i64 m2) W := fun W => rfl
    gi_wp2
    refine wpIn_wide.2 ?_
    (refine tmX (by kernel_rfl) (by kernel_rfl) ?_); (repeat (first | (refine tmS rfl ?_; simp only [Act.put, List.setIfInBounds_toArray, List.set_cons_succ, List.set_cons_zero]) | (refine tmP rfl rfl rfl (fun K hK => ?_); go_big_quiet_op; refine hK _ ?_; clear hK K) | (refine tmE rfl rfl (fun K hK => ?_); go_big_op; (first | (go_at_call 101; refine (HMk.out _ (by (repeat' first | with_reducible (first | apply bz0 | assumption | apply bz1 | apply bz2 | apply bz3 | apply bz4 | apply bz5) | (simp <;> omega)))).mono ?_; rintro e w' ⟨rfl, x4, rfl⟩) | skip); (refine hK _ _ rfl (ext_of_below (by (repeat' first | with_reducible (first | apply bz0 | assumption | apply bz1 | apply bz2 | apply bz3 | apply bz4 | apply bz5) | (simp <;> omega)))) ?_; clear hK K)))); (refine tmN ?_)
    gi_wp2
    exact ⟨⟨k + 1, by rw [hk1, s1.out, ← s3]; exact congrArg _ ((congrArg (fun z => wrap64 (s + z)) ((IntWalk.i64_left _).symm.trans e2)).trans ((IntWalk.i64_left _).symm.trans e4)), by rw [hk2, s2.out, ← s3]; exact congrArg _ ((congrArg (fun z => wrap64 (t + z)) ((IntWalk.i64_left _).symm.trans e3)).trans ((IntWalk.i64_left _).symm.trans e5)), by simp, hlt, B3.trans ((show Below X2.heap.size X2 _ by (repeat' first | with_reducible (first | apply bz0 | assumption | apply bz1 | apply bz2 | apply bz3 | apply bz4 | apply bz5) | (simp <;> omega))).lower B3.size)⟩, by simp [intOf]; omega⟩
  · obtain rfl : k = N := by omega
    obtain ⟨b1, b2⟩ := H2.out k (Nat.le_refl _)
    replace yf : ∀ i, wr.frozen? ⟨w.heap.size + 2, i, none⟩ = false := fun i => (World.frozen?_of_block (w := w1) (hB.block (w.heap.size + 2) gy)).trans (yf i)
    replace y0 := cell_below hB gy y0
    replace y1 := cell_below hB gy y1
    replace gy := has_of_cell y0
    clear H1 H2 HS HM HN hR1
    generalize sumTo lo (shr H 2 mt sd) k = s at *
    generalize sumTo hi (shr H 2 mt sd) k = t at *
    have e1 : IntKind.i64.wrap (t + 1000) = t + 1000 := IntWalk.i64_in _ (by omega)
    have e2 : IntKind.i64.wrap (t + 1000 - 1) = t + 999 := by rw [IntWalk.i64_in _ (by omega)]; omega
    gi_wp2
    have BW : Below w.heap.size w wr := BX.trans (hB.lower hgs)
    have hgw := BW.size
    refine bodyPost_ret (v := .tuple #[.agg #[.int .i64 (s / 1000), .int .i64 ((t + 999) / 1000)], .int .i64 0]) (by simp [results, Tryz.results44, go_sem, y0, y1, yf, gy]) rfl (retX rfl (BW.trans (by (repeat' first | with_reducible (first | apply bz0 | assumption | apply bz1 | apply bz2 | apply bz3 | apply bz4 | apply bz5) | (simp <;> omega)))))
end Go.Proofs.YtekieoamelahkaaGreat

/- surface, at the floor, the ceiling, a canopy. -/
namespace Go.Proofs.YtekieoamelahkaaGreat
open Go.RowKit Go.Shelf
attribute [local go_sem] Oper.semAt_some


theorem surface_floor {w : World} {bp : Nat} {H : Hal} {S : Stg} (hR : Room w bp H S) (hC : CorsIn H) (hN : H.cors.length ≤ 20) (hA : 0 < areaTo H H.cors.length) :
 Calls Tryz.prog 104 #[.pointer (some ⟨bp, 0, none⟩), .int .i64 H.wals.length] w (RetX w (surfV 2 0 H.floor (areaTo H H.cors.length / 2) ((areaTo H H.cors.length + 1) / 2) 1 (.func (.func 151) #[.pointer (some ⟨bp, 0, none⟩)] #[]))) := by
 have HW := hidden (fun (W : World) (hW : Below w.heap.size w W) => level_room (hR.below hW) hC hN hA 0 H.floor)
 obtain ⟨v4, v5, v6, v7, v8, u9, u10, hR⟩ := hR
 obtain ⟨A6, c6, rfl, hS6⟩ := slc_form hR.hal.wals
 have l6 := hS6.1
 have h6 := hR.c6
 have h2 := hR.c2
 have hbp := hR.has
 clear hR hS6
 have q1 : ((H.wals.length : Int) == (H.wals.length : Int)) = true := by simp
 generalize H.floor = m at *
 generalize (areaTo H H.cors.length + 1) / 2 = hi at *
 generalize areaTo H H.cors.length / 2 = lo at *
 unfold surfV at *
 refine (callsIn_wide (n := 10)).1 ?_; refine callsIn_of_wp Tryz.func104 rfl trivial ?_ rfl; simp only [Tryz.ntmps104, nt, Nat.reduceAdd, Nat.reduceSub]
 gi_wp2
 (refine ⟨trivial, ?_⟩; ((with_reducible refine (callsIn_wide.2 (HW.out _ ?hk)).mono ?_); (case hk => (repeat' first | with_reducible (first | apply bz0 | assumption | apply bz1 | apply bz2 | apply bz3 | apply bz4 | apply bz5) | (simp <;> omega))); rintro e w1 ⟨rfl, x1, rfl⟩))
 have h7 := (Seven.new w).kept (W' := (w.alloc (.cells #[.int .i64 0, .int .i64 0, .string ⟨#[]⟩, .int .i64 0, .int .i64 0, .int .i64 0, .nilFunc] 151)).ext x1) (by (repeat' first | with_reducible (first | apply bz0 | assumption | apply bz1 | apply bz2 | apply bz3 | apply bz4 | apply bz5) | (simp <;> omega)))
 gi_wp2_with (refine Oper.wpIn_store rfl (store_surf _ _ _ _ _ _ _ _ _ _ _ h7) ?_)
 obtain ⟨z0, z1, z2, z3, z4, z5, z6⟩ := set7_cells 2 0 m lo hi 1 151 #[.pointer (some ⟨bp, 0, none⟩)] #[] h7
 refine bodyPost_ret (v := .agg #[.int .i64 2, .int .i64 0, .string m, .int .i64 lo, .int .i64 hi, .int .i64 1, .func (.func 151) #[.pointer (some ⟨bp, 0, none⟩)] #[]]) ?_ rfl (retX rfl (set7_below (by (repeat' first | with_reducible (first | apply bz0 | assumption | apply bz1 | apply bz2 | apply bz3 | apply bz4 | apply bz5) | (simp <;> omega))) (Nat.le_refl _)))
 simp [results, Tryz.results104, go_sem, z0, z1, z2, z3, z4, z5, z6]

theorem surface_ceil {w : World} {bp : Nat} {H : Hal} {S : Stg} (hR : Room w bp H S) (hC : CorsIn H) (hN : H.cors.length ≤ 20) (hA : 0 < areaTo H H.cors.length) :
 Calls Tryz.prog 104 #[.pointer (some ⟨bp, 0, none⟩), .int .i64 ((H.wals.length : Int) + 1)] w (RetX w (surfV 2 H.height H.ceil (areaTo H H.cors.length / 2) ((areaTo H H.cors.length + 1) / 2) 1 (.func (.func 151) #[.pointer (some ⟨bp, 0, none⟩)] #[]))) := by
 have HW := hidden (fun (W : World) (hW : Below w.heap.size w W) => level_room (hR.below hW) hC hN hA H.height H.ceil)
 obtain ⟨v4, v5, v6, v7, v8, u9, u10, hR⟩ := hR
 obtain ⟨A6, c6, rfl, hS6⟩ := slc_form hR.hal.wals
 have l6 := hS6.1
 have h6 := hR.c6
 have h1 := hR.c1
 have h3 := hR.c3
 have hbp := hR.has
 clear hR hS6
 have e1 : IntKind.i64.wrap ((H.wals.length : Int) + 1) = (H.wals.length : Int) + 1 := IntWalk.i64_in _ (by omega)
 have q1 : ((H.wals.length : Int) + 1 == (H.wals.length : Int)) = false := by simp; omega
 have q2 : ((H.wals.length : Int) + 1 == (H.wals.length : Int) + 1) = true := by simp
 have nne : bp ≠ w.heap.size := Nat.ne_of_lt hbp
 generalize H.ceil = m at *
 generalize H.height = z at *
 generalize (areaTo H H.cors.length + 1) / 2 = hi at *
 generalize areaTo H H.cors.length / 2 = lo at *
 generalize H.wals.length = nw at *
 unfold surfV at *
 refine (callsIn_wide (n := 10)).1 ?_; refine callsIn_of_wp Tryz.func104 rfl trivial ?_ rfl; simp only [Tryz.ntmps104, nt, Nat.reduceAdd, Nat.reduceSub]
 gi_wp2
 refine wpIn_wide.2 ?_
 (refine wp_region_tameH (w.heap.size) (by kernel_rfl) (by kernel_rfl) ?_); (repeat (first | (refine tmE rfl rfl (fun K hK => ?_); refine Oper.wp_store (W' := ?Wn) rfl ?st ?_; (case st => (refine store_surf _ _ _ _ _ _ _ _ _ _ _ ?_; (constructor <;> simp [go_sem]))); (refine hK _ _ rfl (hole_of (by (repeat' (first | (with_reducible exact HoleRel.refl _ _ _) | (with_reducible assumption) | (with_reducible refine HoleRel.swap ?_ _ _) | (with_reducible refine HoleRel.drew ?_) | (with_reducible refine HoleRel.drewN ?_ _) | (with_reducible refine HoleRel.setCell ?_ ?_ _) | (with_reducible refine HoleRel.putObj ?_ ?_ _) | (with_reducible refine HoleRel.alloc ?_ ?_ _) | (with_reducible refine HoleRel.ext ?_ ?_ _) | (exact Or.inl rfl) | (simp; done) | (simp; omega))))) ?_; clear hK K)) | (refine tmS rfl ?_; simp only [Act.put, List.setIfInBounds_toArray, List.set_cons_succ, List.set_cons_zero]) | (refine tmP rfl rfl rfl (fun K hK => ?_); go_big_quiet_op; refine hK _ ?_; clear hK K) | (refine tmE rfl rfl (fun K hK => ?_); go_big_op; (first | (go_at_call 145; refine (HW.out _ (by (repeat' first | with_reducible (first | apply bz0 | assumption | apply bz1 | apply bz2 | apply bz3 | apply bz4 | apply bz5) | (simp <;> omega)))).mono ?_; rintro e w' ⟨rfl, x1, rfl⟩) | skip); (refine hK _ _ rfl (hole_of (by (repeat' (first | (with_reducible exact HoleRel.refl _ _ _) | (with_reducible assumption) | (with_reducible refine HoleRel.swap ?_ _ _) | (with_reducible refine HoleRel.drew ?_) | (with_reducible refine HoleRel.drewN ?_ _) | (with_reducible refine HoleRel.setCell ?_ ?_ _) | (with_reducible refine HoleRel.putObj ?_ ?_ _) | (with_reducible refine HoleRel.alloc ?_ ?_ _) | (with_reducible refine HoleRel.ext ?_ ?_ _) | (exact Or.inl rfl) | (simp; done) | (simp; omega))))) ?_; clear hK K)))); (refine tmN ?_)
 generalize hX : set7 _ _ _ _ _ _ _ _ _ = X
 have BX : Below w.heap.size w X := by rw [← hX]; exact set7_below (by (repeat' first | with_reducible (first | apply bz0 | assumption | apply bz1 | apply bz2 | apply bz3 | apply bz4 | apply bz5) | (simp <;> omega))) (Nat.le_refl _)
 have zz : X.cell? ⟨w.heap.size, 0, none⟩ = some (.int .i64 2) ∧ X.cell? ⟨w.heap.size, 1, none⟩ = some (.int .i64 z) ∧ X.cell? ⟨w.heap.size, 2, none⟩ = some (.string m) ∧ X.cell? ⟨w.heap.size, 3, none⟩ = some (.int .i64 lo) ∧ X.cell? ⟨w.heap.size, 4, none⟩ = some (.int .i64 hi) ∧ X.cell? ⟨w.heap.size, 5, none⟩ = some (.int .i64 1) ∧ X.cell? ⟨w.heap.size, 6, none⟩ = some (.func (.func 151) #[.pointer (some ⟨bp, 0, none⟩)] #[]) := by
  rw [← hX]
  exact set7_cells _ _ _ _ _ _ _ _ _ (by constructor <;> simp [go_sem])
 obtain ⟨z0, z1, z2, z3, z4, z5, z6⟩ := zz
 clear hX
 gi_wp2
 refine bodyPost_ret (v := .agg #[.int .i64 2, .int .i64 z, .string m, .int .i64 lo, .int .i64 hi, .int .i64 1, .func (.func 151) #[.pointer (some ⟨bp, 0, none⟩)] #[]]) ?_ rfl (retX rfl BX)
 simp [results, Tryz.results104, go_sem, z0, z1, z2, z3, z4, z5, z6]
end Go.Proofs.YtekieoamelahkaaGreat
