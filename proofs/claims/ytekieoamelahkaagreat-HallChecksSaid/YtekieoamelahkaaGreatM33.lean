/- What the hall of the examples is. -/
import Derived.Test.YtekieoamelahkaaGreatM27
import Derived.Test.YtekieoamelahkaaGreatM28
import Derived.Test.YtekieoamelahkaaGreatM24
import Derived.Test.YtekieoamelahkaaGreatM29
import Derived.Test.YtekieoamelahkaaGreatM26
import Derived.Test.YtekieoamelahkaaGreatM31
import Derived.Test.YtekieoamelahkaaGreatM32
import Derived.Test.YtekieoamelahkaaGreatM30
import Derived.Test.YtekieoamelahkaaGreatM23
set_option linter.unusedVariables false
set_option linter.unusedSimpArgs false
namespace Go.Proofs.YtekieoamelahkaaGreat
open Go.RowKit Go.Shelf

theorem box_ok : (hallF boxH).2.2 = 0 := by decide +kernel
theorem box_area : areaTo boxH boxH.cors.length = 4000000 := by decide +kernel
theorem box_low : inE boxH ⟨[0], []⟩ = 0 := by decide +kernel
theorem box_drawn : inE boxH ⟨[0], [1]⟩ = 0 := by decide +kernel
theorem box_curt : curL boxH boxH.wals.length = [1] := by decide +kernel
theorem box_mir : mirE 4 200 0 0 5 = 0 ∧ mirX 4 200 0 0 = 200 ∧ mirY 4 200 0 0 = -200 ∧ mirZ 4 200 5 = 5 := by decide +kernel
theorem box_count : cntE boxH = (4, 0) := by decide +kernel

theorem box_TwiceArea {w : World} {v4 v5 v6 v7 v8 : Value} (hV : HalVs w v4 v5 v6 v7 v8 boxH) : Calls Tryz.prog 23 #[halV boxH v4 v5 v6 v7 v8] w (RetX w (.tuple #[.int .i64 4000000, .int .i64 0])) := by
 have := TwiceArea_any hV
 rw [box_ok, if_pos rfl, box_area] at this
 exact this
theorem box_MirrorIn (w : World) : Calls Tryz.prog 47 #[.agg #[.int .i64 4, .int .i64 200], .agg #[.int .i64 0, .int .i64 0, .int .i64 5]] w (RetX w (.tuple #[.agg #[.int .i64 200, .int .i64 (-200), .int .i64 5], .int .i64 0])) := by
 have := MirrorIn_any 4 200 0 0 5 w
 obtain ⟨h0, h1, h2, h3⟩ := box_mir
 unfold mirV at this
 rw [h0, if_pos rfl, h1, h2, h3] at this
 exact this
theorem box_cors : CorsIn boxH := by
 intro k hk
 have hk : k < 4 := hk
 obtain rfl | rfl | rfl | rfl : k = 0 ∨ k = 1 ∨ k = 2 ∨ k = 3 := by omega
 all_goals decide +kernel
end Go.Proofs.YtekieoamelahkaaGreat

/- AbsorptionArea of the hall of the examples. -/
namespace Go.Proofs.YtekieoamelahkaaGreat
open Go.RowKit Go.Shelf

def bxK : Nat → Int | 0 => 1 | 1 => 0 | 2 => 1 | 3 => 0 | _ => 2
def bxA : Nat → Int | 0 => 0 | 1 => 1000 | 2 => 2000 | 3 => 0 | 4 => 0 | 5 => 600 | _ => 400
def bxL : Nat → Int | 0 => 600000 | 1 => 1200000 | 2 => 600000 | 3 => 1200000 | 4 => 2000000 | 5 => 2000000 | _ => 240000
def bxD : Nat → Int | 6 => 2 | _ => 1
def bxM : Nat → ByteArray | 1 => ⟨#[118]⟩ | _ => ⟨#[119]⟩
def bxF : Nat → Nat | 4 => 151 | 5 => 151 | 6 => 180 | _ => 177
def boxS : Stg := ⟨[0], [1]⟩

theorem box_surf {W : World} {b : Nat} (hR : Room W b boxH boxS) : ∀ n : Nat, n < 7 → Calls Tryz.prog 104 #[.pointer (some ⟨b, 0, none⟩), .int .i64 n] W (fun e w' => Below W.heap.size W w' ∧ ∃ pr cap, e = .returned (surfV (bxK n) (bxA n) (bxM n) (bxL n) (bxL n) (bxD n) (.func (.func (bxF n)) pr cap))) := by
 intro n hn
 have hok := hall_ok box_ok
 obtain rfl | rfl | rfl | rfl | rfl | rfl | rfl : n = 0 ∨ n = 1 ∨ n = 2 ∨ n = 3 ∨ n = 4 ∨ n = 5 ∨ n = 6 := by omega
 · exact (surface_wallIn hR 0 (by decide) (by decide) 0 0 1000 0 (by decide) (by decide) (by decide) (by decide) (by decide) (by decide) (by decide) (by decide) (by decide) (by decide)).mono (by rintro e w' ⟨hB, cap, rfl, _⟩; exact ⟨hB, _, cap, rfl⟩)
 · exact (surface_wallIn hR 1 (by decide) (by decide) 1000 0 1000 2000 (by decide) (by decide) (by decide) (by decide) (by decide) (by decide) (by decide) (by decide) (by decide) (by decide)).mono (by rintro e w' ⟨hB, cap, rfl, _⟩; exact ⟨hB, _, cap, rfl⟩)
 · exact (surface_wallIn hR 2 (by decide) (by decide) 1000 2000 0 2000 (by decide) (by decide) (by decide) (by decide) (by decide) (by decide) (by decide) (by decide) (by decide) (by decide)).mono (by rintro e w' ⟨hB, cap, rfl, _⟩; exact ⟨hB, _, cap, rfl⟩)
 · exact (surface_wallIn hR 3 (by decide) (by decide) 0 2000 0 0 (by decide) (by decide) (by decide) (by decide) (by decide) (by decide) (by decide) (by decide) (by decide) (by decide)).mono (by rintro e w' ⟨hB, cap, rfl, _⟩; exact ⟨hB, _, cap, rfl⟩)
 · have := surface_floor hR hok.cors (by decide) hok.area
   rw [box_area] at this
   exact this.mono (by rintro e w' ⟨rfl, x, rfl⟩; exact ⟨by (repeat' first | with_reducible (first | apply bz0 | assumption | apply bz1 | apply bz2 | apply bz3 | apply bz4 | apply bz5) | (simp <;> omega)), _, _, rfl⟩)
 · have := surface_ceil hR hok.cors (by decide) hok.area
   rw [box_area] at this
   exact this.mono (by rintro e w' ⟨rfl, x, rfl⟩; exact ⟨by (repeat' first | with_reducible (first | apply bz0 | assumption | apply bz1 | apply bz2 | apply bz3 | apply bz4 | apply bz5) | (simp <;> omega)), _, _, rfl⟩)
 · have := surface_canopy hR 0 (by decide) (by decide) (by decide) (by decide) (hok.can (by decide))
   exact this.mono (by rintro e w' ⟨rfl, x, rfl⟩; exact ⟨by (repeat' first | with_reducible (first | apply bz0 | assumption | apply bz1 | apply bz2 | apply bz3 | apply bz4 | apply bz5) | (simp <;> omega)), _, _, rfl⟩)

theorem box_AbsorptionArea {w : World} {v4 v5 v6 v7 v8 v9 v10 : Value} (hV : HalVs w v4 v5 v6 v7 v8 boxH) (h9 : SlcAt encInt w v9 [0]) (h10 : SlcAt encInt w v10 [1]) :
 Calls Tryz.prog 44 #[halV boxH v4 v5 v6 v7 v8, .agg #[v9, v10], .int .i64 2] w (RetX w (.tuple #[.agg #[.int .i64 1288000, .int .i64 1288000], .int .i64 0])) := by
 have := AbsorptionArea_good (S := boxS) hV h9 h10 box_drawn 7 (by decide) (by decide) bxK bxA bxL bxL bxD bxM bxF (fun n hn W b hR => box_surf hR n hn)
  (by
   intro n hn
   obtain rfl | rfl | rfl | rfl | rfl | rfl | rfl : n = 0 ∨ n = 1 ∨ n = 2 ∨ n = 3 ∨ n = 4 ∨ n = 5 ∨ n = 6 := by omega
   all_goals decide +kernel)
  (by
   intro n hn
   obtain rfl | rfl | rfl | rfl | rfl | rfl | rfl | rfl : n = 0 ∨ n = 1 ∨ n = 2 ∨ n = 3 ∨ n = 4 ∨ n = 5 ∨ n = 6 ∨ n = 7 := by omega
   all_goals decide +kernel)
 have hs : sumTo bxL (shr boxH 2 bxM bxD) 7 = 1288000000 := by decide +kernel
 rw [hs] at this
 exact this
end Go.Proofs.YtekieoamelahkaaGreat

/- IsFree, of the example. -/
namespace Go.Proofs.YtekieoamelahkaaGreat
open Go.RowKit Go.Shelf
def lowS : Stg := ⟨[0], []⟩
theorem box_IsFree {w : World} {v4 v5 v6 v7 v8 v9 v10 : Value} (hV : HalVs w v4 v5 v6 v7 v8 boxH) (h9 : SlcAt encInt w v9 [0]) (h10 : SlcAt encInt w v10 []) :
 Calls Tryz.prog 55 #[halV boxH v4 v5 v6 v7 v8, .agg #[v9, v10], .agg #[.int .i64 500, .int .i64 100, .int .i64 100, .int .i64 1, .int .i64 500, .int .i64 1900, .int .i64 100, .int .i64 1]] w (RetX w (.tuple #[.bool true, .int .i64 0])) := by
 have := IsFree_good (S := lowS) hV h9 h10 box_low 500 100 100 1 500 1900 100 1 (by decide) (by decide) (by decide) (by decide) (by decide) (by decide) (by decide) (by decide) (by decide +kernel) (by decide +kernel) (by decide)
 rw [show freeB boxH lowS 500 100 100 1 500 1900 100 1 = true by decide +kernel] at this
 exact this
end Go.Proofs.YtekieoamelahkaaGreat

/- CrossAt, of the example. -/
namespace Go.Proofs.YtekieoamelahkaaGreat
open Go.RowKit Go.Shelf
attribute [local go_sem] Oper.semAt_some

def boxL : Stg := ⟨[0], []⟩
theorem box_meet (W : World) : Calls Tryz.prog 118 #[.agg #[.int .i64 0, .int .i64 1000], .agg #[.int .i64 1700, .int .i64 100, .int .i64 150, .int .i64 1, .int .i64 300, .int .i64 800, .int .i64 50, .int .i64 1]] W (RetX W (.tuple #[.agg #[.int .i64 1400000, .int .i64 630000, .int .i64 140000, .int .i64 1400], .bool true])) :=
 meet_core 0 1000 1700 100 150 1 300 800 50 1 W (by decide) (by decide) (by decide) (by decide) (by decide) (by decide) (by decide) (by decide) (by decide) 700 (-700) (by unfold Hid; decide +kernel) (by unfold Hid; decide +kernel) _ (fun h => absurd h (by decide)) (fun h => absurd h (by decide)) (fun _ _ _ _ h => by
  rw [show (300 * 700 - 1700 * -700 : Int) = 1400000 by decide, show (800 * 700 - 100 * -700 : Int) = 630000 by decide, show (50 * 700 - 150 * -700 : Int) = 140000 by decide, show (1 * 700 - 1 * -700 : Int) = 1400 by decide] at h
  exact h)
theorem box_lowest (W : World) : Calls Tryz.prog 120 #[.agg #[.int .i64 1400000, .int .i64 630000, .int .i64 140000, .int .i64 1400]] W (RetX W (.agg #[.int .i64 1000, .int .i64 450, .int .i64 100, .int .i64 1])) := by
 have := lowest_any 1400000 630000 140000 1400 W (by decide) (by decide) (by decide) (by decide)
 rw [show dvP 1400000 630000 140000 1400 = 1400 by decide +kernel] at this
 exact this

set_option maxRecDepth 100000 in set_option maxHeartbeats 8000000 in
theorem box_CrossAt {w : World} {v4 v5 v6 v7 v8 v9 v10 : Value} (hV : HalVs w v4 v5 v6 v7 v8 boxH) (h9 : SlcAt encInt w v9 [0]) (h10 : SlcAt encInt w v10 []) :
 Calls Tryz.prog 59 #[halV boxH v4 v5 v6 v7 v8, .agg #[v9, v10], .agg #[.int .i64 1, .int .i64 1700, .int .i64 100, .int .i64 150, .int .i64 300, .int .i64 800, .int .i64 50, .int .i64 1]] w (RetX w (.tuple #[.agg #[.int .i64 1000, .int .i64 450, .int .i64 100, .int .i64 1], .int .i64 0])) := by
 have HC := hidden (fun (W : World) (hW : Below w.heap.size w W) => surfaceIn_wall (S := boxL) (hV.below hW) (h9.below hW) (h10.below hW) box_low 1 (by decide) (by decide) 1000 0 1000 2000 (by decide) (by decide) (by decide) (by decide) (by decide) (by decide) (by decide) (by decide) (by decide) (by decide))
 have HH := hidden (fun (W : World) (b c1 c2 : Nat) (hK : WallIn b boxH.height 1000 0 1000 2000 c1 c2 W) => wallHolds_any hK.2.2 (by decide) c1 c2 1000 0 1000 2000 hK.1 hK.2.1 (by decide) (by decide) (by decide) (by decide) 1400000 630000 140000 1400 (by decide))
 rw [show (betweenB boxH.height 140000 1400 && holdsWellB 1000 0 1000 2000 1400000 630000 1400) = true by decide +kernel] at HH
 have HP := hidden (fun W => placeError_any 1700 100 150 W)
 rw [show placeE 1700 100 150 = 0 by decide +kernel] at HP
 have HQ := hidden (fun W => pointError_any 300 800 50 1 W (by decide) (by decide) (by decide) (by decide))
 rw [show ptE 300 800 50 1 = 0 by decide +kernel] at HQ
 have HO := hidden (fun W => pointOf_any 1700 100 150 W)
 have HM := hidden box_meet
 have HL := hidden box_lowest
 rw [show plK 1000 0 1000 2000 = 0 by decide +kernel, show plA 1000 0 1000 2000 = 1000 by decide +kernel, show reachI 1000 0 1000 2000 * boxH.height = 1200000 by decide +kernel] at HC
 obtain ⟨_, g4, g5, g6, g7, g8⟩ := hV
 obtain ⟨A4, c4, rfl, _⟩ := slc_form g4
 obtain ⟨A5, c5, rfl, _⟩ := slc_form g5
 obtain ⟨A6, c6, rfl, _⟩ := slc_form g6
 obtain ⟨A7, c7, rfl, _⟩ := slc_form g7
 obtain ⟨A8, c8, rfl, _⟩ := slc_form g8
 obtain ⟨A9, c9, rfl, _⟩ := slc_form h9
 obtain ⟨A10, c10, rfl, _⟩ := slc_form h10
 clear g4 g5 g6 g7 g8 h9 h10
 rw [show ((1 : Nat) : Int) = (1 : Int) from rfl] at HC
 generalize ([0] : List Int).length = n9 at *
 generalize ([] : List Int).length = n10 at *
 unfold halV surfV at *
 refine (callsIn_wide (n := 10)).1 ?_
 refine callsIn_of_wp Tryz.func59 rfl trivial ?_ rfl
 simp only [Tryz.ntmps59, nt, Nat.reduceAdd, Nat.reduceSub]
 generalize wallMat boxH boxL 1 = mt at *
 generalize boxH.height = ht at *
 generalize boxH.mats.length = n4 at *
 generalize boxH.cors.length = n5 at *
 generalize boxH.wals.length = n6 at *
 generalize boxH.cans.length = n7 at *
 generalize boxH.seas.length = n8 at *
 gi_wp2
 (refine ⟨trivial, ?_⟩; ((with_reducible refine (callsIn_wide.2 (HC.out _ ?hk)).mono ?_); (case hk => (repeat' first | with_reducible (first | apply bz0 | assumption | apply bz1 | apply bz2 | apply bz3 | apply bz4 | apply bz5) | (simp <;> omega))); rintro e w1 ⟨hB1, b, c1, c2, rfl, hK⟩))
 generalize hY : World.alloc _ _ = Y at *
 have yr0 : Y.cell? ⟨w.heap.size + 3, 0, none⟩ = some (.int .i64 0) := by rw [← hY]; simp [go_sem]
 have yr1 : Y.cell? ⟨w.heap.size + 3, 1, none⟩ = some (.int .i64 0) := by rw [← hY]; simp [go_sem]
 have yr2 : Y.cell? ⟨w.heap.size + 3, 2, none⟩ = some (.int .i64 0) := by rw [← hY]; simp [go_sem]
 have yr3 : Y.cell? ⟨w.heap.size + 3, 3, none⟩ = some (.int .i64 0) := by rw [← hY]; simp [go_sem]
 have yf : ∀ i, Y.frozen? ⟨w.heap.size + 3, i, none⟩ = false := by intro i; rw [← hY]; simp [go_sem]
 have y1 : Y.cell? ⟨w.heap.size + 2, 1, none⟩ = some (.int .i64 1700) := by rw [← hY]; simp [go_sem]
 have y2 : Y.cell? ⟨w.heap.size + 2, 2, none⟩ = some (.int .i64 100) := by rw [← hY]; simp [go_sem]
 have y3 : Y.cell? ⟨w.heap.size + 2, 3, none⟩ = some (.int .i64 150) := by rw [← hY]; simp [go_sem]
 have y4 : Y.cell? ⟨w.heap.size + 2, 4, none⟩ = some (.int .i64 300) := by rw [← hY]; simp [go_sem]
 have y5 : Y.cell? ⟨w.heap.size + 2, 5, none⟩ = some (.int .i64 800) := by rw [← hY]; simp [go_sem]
 have y6 : Y.cell? ⟨w.heap.size + 2, 6, none⟩ = some (.int .i64 50) := by rw [← hY]; simp [go_sem]
 have y7 : Y.cell? ⟨w.heap.size + 2, 7, none⟩ = some (.int .i64 1) := by rw [← hY]; simp [go_sem]
 have BY : Below w.heap.size w Y := by rw [← hY]; (repeat' first | with_reducible (first | apply bz0 | assumption | apply bz1 | apply bz2 | apply bz3 | apply bz4 | apply bz5) | (simp <;> omega))
 clear hY HC
 have gr := has_of_cell yr0
 have gy := has_of_cell y1
 replace yf : ∀ i, w1.frozen? ⟨w.heap.size + 3, i, none⟩ = false := fun i => (World.frozen?_of_block (w := Y) (hB1.block (w.heap.size + 3) gr)).trans (yf i)
 replace yr0 := cell_below hB1 gr yr0
 replace yr1 := cell_below hB1 gr yr1
 replace yr2 := cell_below hB1 gr yr2
 replace yr3 := cell_below hB1 gr yr3
 replace y1 := cell_below hB1 gy y1
 replace y2 := cell_below hB1 gy y2
 replace y3 := cell_below hB1 gy y3
 replace y4 := cell_below hB1 gy y4
 replace y5 := cell_below hB1 gy y5
 replace y6 := cell_below hB1 gy y6
 replace y7 := cell_below hB1 gy y7
 replace gr := has_of_cell yr0
 replace gy := has_of_cell y1
 have BX : Below w.heap.size w w1 := BY.trans (hB1.lower BY.size)
 have hgs := BX.size
 clear hB1 BY
 have h7 := Seven.new w1
 gi_wp2_with (refine Oper.wpIn_store rfl (store_surf _ _ _ _ _ _ _ _ _ _ _ h7) ?_)
 obtain ⟨z0, z1, _, _, _, _, z6⟩ := set7_cells 0 1000 mt 1200000 1200000 1 177 #[] #[.pointer (some ⟨c1, 0, none⟩), .pointer (some ⟨c2, 0, none⟩)] h7
 have BX2 : Below w1.heap.size w1 (set7 (w1.alloc (.cells #[.int .i64 0, .int .i64 0, .string ⟨#[]⟩, .int .i64 0, .int .i64 0, .int .i64 0, .nilFunc] 151)) w1.heap.size 0 1000 mt 1200000 1200000 1 (.func (.func 177) #[] #[.pointer (some ⟨c1, 0, none⟩), .pointer (some ⟨c2, 0, none⟩)])) := set7_below (by (repeat' first | with_reducible (first | apply bz0 | assumption | apply bz1 | apply bz2 | apply bz3 | apply bz4 | apply bz5) | (simp <;> omega))) (Nat.le_refl _)
 generalize hX2 : set7 _ _ _ _ _ _ _ _ _ = X2 at *
 have hK2 := hK.below BX2
 replace yf : ∀ i, X2.frozen? ⟨w.heap.size + 3, i, none⟩ = false := fun i => (World.frozen?_of_block (w := w1) (BX2.block (w.heap.size + 3) gr)).trans (yf i)
 replace yr0 := cell_below BX2 gr yr0
 replace yr1 := cell_below BX2 gr yr1
 replace yr2 := cell_below BX2 gr yr2
 replace yr3 := cell_below BX2 gr yr3
 replace y1 := cell_below BX2 gy y1
 replace y2 := cell_below BX2 gy y2
 replace y3 := cell_below BX2 gy y3
 replace y4 := cell_below BX2 gy y4
 replace y5 := cell_below BX2 gy y5
 replace y6 := cell_below BX2 gy y6
 replace y7 := cell_below BX2 gy y7
 replace gr := has_of_cell yr0
 replace gy := has_of_cell y1
 have BW : Below w.heap.size w X2 := BX.trans (BX2.lower hgs)
 have hgw := BW.size
 have gz := has_of_cell z0
 have gl : w.heap.size + 3 < X2.heap.size := gr
 clear hX2 hK BX BX2 h7 hgs
 have HH2 := hidden (fun (W : World) (hW : Below X2.heap.size X2 W) => HH.out W b c1 c2 (hK2.below hW))
 clear HH hK2
 gi_wp2
 (refine ⟨trivial, ?_⟩; ((with_reducible refine (callsIn_wide.2 (HP.out _)).mono ?_); rintro e w' ⟨rfl, x3, rfl⟩))
 gi_wp2
 (refine ⟨trivial, ?_⟩; ((with_reducible refine (callsIn_wide.2 (HQ.out _)).mono ?_); rintro e w' ⟨rfl, x4, rfl⟩))
 gi_wp2
 refine wpIn_wide.2 ?_
 (refine wp_region_tree (by kernel_rfl) ?_)
 (refine tree_pure 0 rfl (by kernel_rfl) (by kernel_rfl) (by kernel_rfl) rfl rfl rfl (fun K hK => ?_)); go_big_quiet_op; refine hK _ ?_; clear hK K
 (refine tree_pure 1 rfl (by kernel_rfl) (by kernel_rfl) (by kernel_rfl) rfl rfl rfl (fun K hK => ?_)); go_big_quiet_op; refine hK _ ?_; clear hK K
 (refine tree_pure 2 rfl (by kernel_rfl) (by kernel_rfl) (by kernel_rfl) rfl rfl rfl (fun K hK => ?_)); go_big_quiet_op; refine hK _ ?_; clear hK K
 (refine tree_pure 3 rfl (by kernel_rfl) (by kernel_rfl) (by kernel_rfl) rfl rfl rfl (fun K hK => ?_)); go_big_quiet_op; refine hK _ ?_; clear hK K
 (refine tree_pure 5 rfl (by kernel_rfl) (by kernel_rfl) (by kernel_rfl) rfl rfl rfl (fun K hK => ?_)); go_big_quiet_op; refine hK _ ?_; clear hK K
 (refine tree_pure 6 rfl (by kernel_rfl) (by kernel_rfl) (by kernel_rfl) rfl rfl rfl (fun K hK => ?_)); go_big_quiet_op; refine hK _ ?_; clear hK K
 refine tree_all [4, 12] (by kernel_rfl) (by decide) ?_
 intro i hi
 simp only [List.mem_cons, List.not_mem_nil, or_false] at hi
 rcases hi with rfl | rfl
 · (refine tree_eff 4 rfl rfl rfl (fun K hK => ?_)); go_big_op; (first | (go_at_call 119; refine (HO.out _).mono ?_; rintro e w' ⟨rfl, x5, rfl⟩) | (go_at_call 118; refine (HM.out _).mono ?_; rintro e w' ⟨rfl, x6, rfl⟩) | skip); (refine hK _ _ rfl (ext_of_below (by (repeat' first | with_reducible (first | apply bz0 | assumption | apply bz1 | apply bz2 | apply bz3 | apply bz4 | apply bz5) | (simp <;> omega)))) ?_; clear hK K)
   (refine tree_pure 7 rfl (by kernel_rfl) (by kernel_rfl) (by kernel_rfl) rfl rfl rfl (fun K hK => ?_)); go_big_quiet_op; refine hK _ ?_; clear hK K
   refine tree_all [8, 12] (by kernel_rfl) (by decide) ?_
   intro i hi
   simp only [List.mem_cons, List.not_mem_nil, or_false] at hi
   rcases hi with rfl | rfl
   · (refine tree_eff 8 rfl rfl rfl (fun K hK => ?_)); go_big_op; (first | (go_at_call 119; refine (HO.out _).mono ?_; rintro e w' ⟨rfl, x5, rfl⟩) | (go_at_call 118; refine (HM.out _).mono ?_; rintro e w' ⟨rfl, x6, rfl⟩) | skip); (refine hK _ _ rfl (ext_of_below (by (repeat' first | with_reducible (first | apply bz0 | assumption | apply bz1 | apply bz2 | apply bz3 | apply bz4 | apply bz5) | (simp <;> omega)))) ?_; clear hK K)
     (refine tree_pure 9 rfl (by kernel_rfl) (by kernel_rfl) (by kernel_rfl) rfl rfl rfl (fun K hK => ?_)); go_big_quiet_op; refine hK _ ?_; clear hK K
     (refine tree_pure 10 rfl (by kernel_rfl) (by kernel_rfl) (by kernel_rfl) rfl rfl rfl (fun K hK => ?_)); go_big_quiet_op; refine hK _ ?_; clear hK K
     (refine tree_pure 11 rfl (by kernel_rfl) (by kernel_rfl) (by kernel_rfl) rfl rfl rfl (fun K hK => ?_)); go_big_quiet_op; refine hK _ ?_; clear hK K
     refine tree_all [12] (by kernel_rfl) (by decide) ?_
     intro i hi
     simp only [List.mem_cons, List.not_mem_nil, or_false] at hi
     subst hi
     (refine tree_eff 12 rfl rfl rfl (fun K hK => ?_)); go_big_op; (first | (go_at_call 119; refine (HO.out _).mono ?_; rintro e w' ⟨rfl, x5, rfl⟩) | (go_at_call 118; refine (HM.out _).mono ?_; rintro e w' ⟨rfl, x6, rfl⟩) | skip); (refine hK _ _ rfl (ext_of_below (by (repeat' first | with_reducible (first | apply bz0 | assumption | apply bz1 | apply bz2 | apply bz3 | apply bz4 | apply bz5) | (simp <;> omega)))) ?_; clear hK K)
     refine tree_all [13] (by kernel_rfl) (by decide) ?_
     intro i hi
     simp only [List.mem_cons, List.not_mem_nil, or_false] at hi
     subst hi
     (refine tree_eff 13 rfl rfl rfl (fun K hK => ?_)); go_big_op; (first | (go_at_call 119; refine (HO.out _).mono ?_; rintro e w' ⟨rfl, x5, rfl⟩) | (go_at_call 118; refine (HM.out _).mono ?_; rintro e w' ⟨rfl, x6, rfl⟩) | skip); (refine hK _ _ rfl (ext_of_below (by (repeat' first | with_reducible (first | apply bz0 | assumption | apply bz1 | apply bz2 | apply bz3 | apply bz4 | apply bz5) | (simp <;> omega)))) ?_; clear hK K)
     (refine tree_pure 14 rfl (by kernel_rfl) (by kernel_rfl) (by kernel_rfl) rfl rfl rfl (fun K hK => ?_)); go_big_quiet_op; refine hK _ ?_; clear hK K
     refine tree_done (by kernel_rfl) ?_
     (gi_wp2; (refine ⟨trivial, ?_⟩; ((with_reducible refine (callsIn_wide.2 (HH2.out _ ?hk)).mono ?_); (case hk => (repeat' first | with_reducible (first | apply bz0 | assumption | apply bz1 | apply bz2 | apply bz3 | apply bz4 | apply bz5) | (simp <;> omega))); rintro e w' ⟨rfl, x7, rfl⟩)); gi_wp2; (refine ⟨trivial, ?_⟩; ((with_reducible refine (callsIn_wide.2 (HL.out _)).mono ?_); rintro e w' ⟨rfl, x8, rfl⟩)); generalize hW8 : World.ext _ x8 = W8; (first | (rw [show X2.heap.size + x3.heap.size + x4.heap.size + x5.heap.size + x6.heap.size = id (X2.heap.size + x3.heap.size + x4.heap.size + x5.heap.size + x6.heap.size) from rfl]; generalize hP : id (X2.heap.size + x3.heap.size + x4.heap.size + x5.heap.size + x6.heap.size) = P; simp only [id] at hP) | (rw [show X2.heap.size + x3.heap.size + x4.heap.size + x5.heap.size = id (X2.heap.size + x3.heap.size + x4.heap.size + x5.heap.size) from rfl]; generalize hP : id (X2.heap.size + x3.heap.size + x4.heap.size + x5.heap.size) = P; simp only [id] at hP) | (rw [show X2.heap.size + x3.heap.size + x4.heap.size = id (X2.heap.size + x3.heap.size + x4.heap.size) from rfl]; generalize hP : id (X2.heap.size + x3.heap.size + x4.heap.size) = P; simp only [id] at hP)); have f8 : Four 1400000 630000 140000 1400 P W8 := (by constructor <;> (rw [← hW8, ← hP]; simp [go_sem])); have g8 : ∀ i, W8.frozen? ⟨P, i, none⟩ = false := (by intro i; rw [← hW8, ← hP]; simp [go_sem]); have B8 : Below X2.heap.size X2 W8 := (by rw [← hW8]; (repeat' first | with_reducible (first | apply bz0 | assumption | apply bz1 | apply bz2 | apply bz3 | apply bz4 | apply bz5) | (simp <;> omega))); have l8 : X2.heap.size ≤ P := (by rw [← hP]; omega); clear hW8 hP; have u0 := cell_below B8 gr yr0; have u1 := cell_below B8 gr yr1; have u2 := cell_below B8 gr yr2; have u3 := cell_below B8 gr yr3; have uf : ∀ i, W8.frozen? ⟨w.heap.size + 3, i, none⟩ = false := (fun i => (World.frozen?_of_block (w := X2) (B8.block (w.heap.size + 3) gr)).trans (yf i)); have nP : w.heap.size + 1 + 1 + 1 ≠ P := (by omega); have nl : w.heap.size ≤ P := (by omega); have R0 : Four 0 0 0 0 (w.heap.size + 1 + 1 + 1) (set4 W8 P 1000 450 100 1) := ⟨(set4_other _ _ _ _ nP).trans u0, (set4_other _ _ _ _ nP).trans u1, (set4_other _ _ _ _ nP).trans u2, (set4_other _ _ _ _ nP).trans u3⟩; have RF : ∀ i, (set4 W8 P 1000 450 100 1).frozen? ⟨w.heap.size + 1 + 1 + 1, i, none⟩ = false := (fun i => (set4_fother _ _ _ _ nP).trans (uf i)); obtain ⟨s0, s1, s2, s3⟩ := set4_four f8 1000 450 100 1; obtain ⟨t0, t1, t2, t3⟩ := set4_four R0 1000 450 100 1; have BF : Below w.heap.size w (set4 (set4 W8 P 1000 450 100 1) (w.heap.size + 1 + 1 + 1) 1000 450 100 1) := set4_below (set4_below (BW.trans (B8.lower hgw)) nl) (by omega); clear u0 u1 u2 u3 uf yr0 yr1 yr2 yr3 yf; gi_wp2_with (refine Oper.wpIn_store rfl (store_pt (by first | exact f8 | exact R0) (by first | exact g8 | exact RF) _ _ _ _) ?_); refine bodyPost_ret (v := .tuple #[.agg #[.int .i64 1000, .int .i64 450, .int .i64 100, .int .i64 1], .int .i64 0]) (by simp [results, Tryz.results59, go_sem, t0, t1, t2, t3]) rfl (retX rfl BF))
   · (refine tree_eff 12 rfl rfl rfl (fun K hK => ?_)); go_big_op; (first | (go_at_call 119; refine (HO.out _).mono ?_; rintro e w' ⟨rfl, x5, rfl⟩) | (go_at_call 118; refine (HM.out _).mono ?_; rintro e w' ⟨rfl, x6, rfl⟩) | skip); (refine hK _ _ rfl (ext_of_below (by (repeat' first | with_reducible (first | apply bz0 | assumption | apply bz1 | apply bz2 | apply bz3 | apply bz4 | apply bz5) | (simp <;> omega)))) ?_; clear hK K)
     refine tree_all [8] (by kernel_rfl) (by decide) ?_
     intro i hi
     simp only [List.mem_cons, List.not_mem_nil, or_false] at hi
     subst hi
     (refine tree_eff 8 rfl rfl rfl (fun K hK => ?_)); go_big_op; (first | (go_at_call 119; refine (HO.out _).mono ?_; rintro e w' ⟨rfl, x5, rfl⟩) | (go_at_call 118; refine (HM.out _).mono ?_; rintro e w' ⟨rfl, x6, rfl⟩) | skip); (refine hK _ _ rfl (ext_of_below (by (repeat' first | with_reducible (first | apply bz0 | assumption | apply bz1 | apply bz2 | apply bz3 | apply bz4 | apply bz5) | (simp <;> omega)))) ?_; clear hK K)
     (refine tree_pure 9 rfl (by kernel_rfl) (by kernel_rfl) (by kernel_rfl) rfl rfl rfl (fun K hK => ?_)); go_big_quiet_op; refine hK _ ?_; clear hK K
     (refine tree_pure 10 rfl (by kernel_rfl) (by kernel_rfl) (by kernel_rfl) rfl rfl rfl (fun K hK => ?_)); go_big_quiet_op; refine hK _ ?_; clear hK K
     (refine tree_pure 11 rfl (by kernel_rfl) (by kernel_rfl) (by kernel_rfl) rfl rfl rfl (fun K hK => ?_)); go_big_quiet_op; refine hK _ ?_; clear hK K
     refine tree_all [13] (by kernel_rfl) (by decide) ?_
     intro i hi
     simp only [List.mem_cons, List.not_mem_nil, or_false] at hi
     subst hi
     (refine tree_eff 13 rfl rfl rfl (fun K hK => ?_)); go_big_op; (first | (go_at_call 119; refine (HO.out _).mono ?_; rintro e w' ⟨rfl, x5, rfl⟩) | (go_at_call 118; refine (HM.out _).mono ?_; rintro e w' ⟨rfl, x6, rfl⟩) | skip); (refine hK _ _ rfl (ext_of_below (by (repeat' first | with_reducible (first | apply bz0 | assumption | apply bz1 | apply bz2 | apply bz3 | apply bz4 | apply bz5) | (simp <;> omega)))) ?_; clear hK K)
     (refine tree_pure 14 rfl (by kernel_rfl) (by kernel_rfl) (by kernel_rfl) rfl rfl rfl (fun K hK => ?_)); go_big_quiet_op; refine hK _ ?_; clear hK K
     refine tree_done (by kernel_rfl) ?_
     (gi_wp2; (refine ⟨trivial, ?_⟩; ((with_reducible refine (callsIn_wide.2 (HH2.out _ ?hk)).mono ?_); (case hk => (repeat' first | with_reducible (first | apply bz0 | assumption | apply bz1 | apply bz2 | apply bz3 | apply bz4 | apply bz5) | (simp <;> omega))); rintro e w' ⟨rfl, x7, rfl⟩)); gi_wp2; (refine ⟨trivial, ?_⟩; ((with_reducible refine (callsIn_wide.2 (HL.out _)).mono ?_); rintro e w' ⟨rfl, x8, rfl⟩)); generalize hW8 : World.ext _ x8 = W8; (first | (rw [show X2.heap.size + x3.heap.size + x4.heap.size + x5.heap.size + x6.heap.size = id (X2.heap.size + x3.heap.size + x4.heap.size + x5.heap.size + x6.heap.size) from rfl]; generalize hP : id (X2.heap.size + x3.heap.size + x4.heap.size + x5.heap.size + x6.heap.size) = P; simp only [id] at hP) | (rw [show X2.heap.size + x3.heap.size + x4.heap.size + x5.heap.size = id (X2.heap.size + x3.heap.size + x4.heap.size + x5.heap.size) from rfl]; generalize hP : id (X2.heap.size + x3.heap.size + x4.heap.size + x5.heap.size) = P; simp only [id] at hP) | (rw [show X2.heap.size + x3.heap.size + x4.heap.size = id (X2.heap.size + x3.heap.size + x4.heap.size) from rfl]; generalize hP : id (X2.heap.size + x3.heap.size + x4.heap.size) = P; simp only [id] at hP)); have f8 : Four 1400000 630000 140000 1400 P W8 := (by constructor <;> (rw [← hW8, ← hP]; simp [go_sem])); have g8 : ∀ i, W8.frozen? ⟨P, i, none⟩ = false := (by intro i; rw [← hW8, ← hP]; simp [go_sem]); have B8 : Below X2.heap.size X2 W8 := (by rw [← hW8]; (repeat' first | with_reducible (first | apply bz0 | assumption | apply bz1 | apply bz2 | apply bz3 | apply bz4 | apply bz5) | (simp <;> omega))); have l8 : X2.heap.size ≤ P := (by rw [← hP]; omega); clear hW8 hP; have u0 := cell_below B8 gr yr0; have u1 := cell_below B8 gr yr1; have u2 := cell_below B8 gr yr2; have u3 := cell_below B8 gr yr3; have uf : ∀ i, W8.frozen? ⟨w.heap.size + 3, i, none⟩ = false := (fun i => (World.frozen?_of_block (w := X2) (B8.block (w.heap.size + 3) gr)).trans (yf i)); have nP : w.heap.size + 1 + 1 + 1 ≠ P := (by omega); have nl : w.heap.size ≤ P := (by omega); have R0 : Four 0 0 0 0 (w.heap.size + 1 + 1 + 1) (set4 W8 P 1000 450 100 1) := ⟨(set4_other _ _ _ _ nP).trans u0, (set4_other _ _ _ _ nP).trans u1, (set4_other _ _ _ _ nP).trans u2, (set4_other _ _ _ _ nP).trans u3⟩; have RF : ∀ i, (set4 W8 P 1000 450 100 1).frozen? ⟨w.heap.size + 1 + 1 + 1, i, none⟩ = false := (fun i => (set4_fother _ _ _ _ nP).trans (uf i)); obtain ⟨s0, s1, s2, s3⟩ := set4_four f8 1000 450 100 1; obtain ⟨t0, t1, t2, t3⟩ := set4_four R0 1000 450 100 1; have BF : Below w.heap.size w (set4 (set4 W8 P 1000 450 100 1) (w.heap.size + 1 + 1 + 1) 1000 450 100 1) := set4_below (set4_below (BW.trans (B8.lower hgw)) nl) (by omega); clear u0 u1 u2 u3 uf yr0 yr1 yr2 yr3 yf; gi_wp2_with (refine Oper.wpIn_store rfl (store_pt (by first | exact f8 | exact R0) (by first | exact g8 | exact RF) _ _ _ _) ?_); refine bodyPost_ret (v := .tuple #[.agg #[.int .i64 1000, .int .i64 450, .int .i64 100, .int .i64 1], .int .i64 0]) (by simp [results, Tryz.results59, go_sem, t0, t1, t2, t3]) rfl (retX rfl BF))
 · (refine tree_eff 12 rfl rfl rfl (fun K hK => ?_)); go_big_op; (first | (go_at_call 119; refine (HO.out _).mono ?_; rintro e w' ⟨rfl, x5, rfl⟩) | (go_at_call 118; refine (HM.out _).mono ?_; rintro e w' ⟨rfl, x6, rfl⟩) | skip); (refine hK _ _ rfl (ext_of_below (by (repeat' first | with_reducible (first | apply bz0 | assumption | apply bz1 | apply bz2 | apply bz3 | apply bz4 | apply bz5) | (simp <;> omega)))) ?_; clear hK K)
   refine tree_all [4] (by kernel_rfl) (by decide) ?_
   intro i hi
   simp only [List.mem_cons, List.not_mem_nil, or_false] at hi
   subst hi
   (refine tree_eff 4 rfl rfl rfl (fun K hK => ?_)); go_big_op; (first | (go_at_call 119; refine (HO.out _).mono ?_; rintro e w' ⟨rfl, x5, rfl⟩) | (go_at_call 118; refine (HM.out _).mono ?_; rintro e w' ⟨rfl, x6, rfl⟩) | skip); (refine hK _ _ rfl (ext_of_below (by (repeat' first | with_reducible (first | apply bz0 | assumption | apply bz1 | apply bz2 | apply bz3 | apply bz4 | apply bz5) | (simp <;> omega)))) ?_; clear hK K)
   (refine tree_pure 7 rfl (by kernel_rfl) (by kernel_rfl) (by kernel_rfl) rfl rfl rfl (fun K hK => ?_)); go_big_quiet_op; refine hK _ ?_; clear hK K
   refine tree_all [8] (by kernel_rfl) (by decide) ?_
   intro i hi
   simp only [List.mem_cons, List.not_mem_nil, or_false] at hi
   subst hi
   (refine tree_eff 8 rfl rfl rfl (fun K hK => ?_)); go_big_op; (first | (go_at_call 119; refine (HO.out _).mono ?_; rintro e w' ⟨rfl, x5, rfl⟩) | (go_at_call 118; refine (HM.out _).mono ?_; rintro e w' ⟨rfl, x6, rfl⟩) | skip); (refine hK _ _ rfl (ext_of_below (by (repeat' first | with_reducible (first | apply bz0 | assumption | apply bz1 | apply bz2 | apply bz3 | apply bz4 | apply bz5) | (simp <;> omega)))) ?_; clear hK K)
   (refine tree_pure 9 rfl (by kernel_rfl) (by kernel_rfl) (by kernel_rfl) rfl rfl rfl (fun K hK => ?_)); go_big_quiet_op; refine hK _ ?_; clear hK K
   (refine tree_pure 10 rfl (by kernel_rfl) (by kernel_rfl) (by kernel_rfl) rfl rfl rfl (fun K hK => ?_)); go_big_quiet_op; refine hK _ ?_; clear hK K
   (refine tree_pure 11 rfl (by kernel_rfl) (by kernel_rfl) (by kernel_rfl) rfl rfl rfl (fun K hK => ?_)); go_big_quiet_op; refine hK _ ?_; clear hK K
   refine tree_all [13] (by kernel_rfl) (by decide) ?_
   intro i hi
   simp only [List.mem_cons, List.not_mem_nil, or_false] at hi
   subst hi
   (refine tree_eff 13 rfl rfl rfl (fun K hK => ?_)); go_big_op; (first | (go_at_call 119; refine (HO.out _).mono ?_; rintro e w' ⟨rfl, x5, rfl⟩) | (go_at_call 118; refine (HM.out _).mono ?_; rintro e w' ⟨rfl, x6, rfl⟩) | skip); (refine hK _ _ rfl (ext_of_below (by (repeat' first | with_reducible (first | apply bz0 | assumption | apply bz1 | apply bz2 | apply bz3 | apply bz4 | apply bz5) | (simp <;> omega)))) ?_; clear hK K)
   (refine tree_pure 14 rfl (by kernel_rfl) (by kernel_rfl) (by kernel_rfl) rfl rfl rfl (fun K hK => ?_)); go_big_quiet_op; refine hK _ ?_; clear hK K
   refine tree_done (by kernel_rfl) ?_
   (gi_wp2; (refine ⟨trivial, ?_⟩; ((with_reducible refine (callsIn_wide.2 (HH2.out _ ?hk)).mono ?_); (case hk => (repeat' first | with_reducible (first | apply bz0 | assumption | apply bz1 | apply bz2 | apply bz3 | apply bz4 | apply bz5) | (simp <;> omega))); rintro e w' ⟨rfl, x7, rfl⟩)); gi_wp2; (refine ⟨trivial, ?_⟩; ((with_reducible refine (callsIn_wide.2 (HL.out _)).mono ?_); rintro e w' ⟨rfl, x8, rfl⟩)); generalize hW8 : World.ext _ x8 = W8; (first | (rw [show X2.heap.size + x3.heap.size + x4.heap.size + x5.heap.size + x6.heap.size = id (X2.heap.size + x3.heap.size + x4.heap.size + x5.heap.size + x6.heap.size) from rfl]; generalize hP : id (X2.heap.size + x3.heap.size + x4.heap.size + x5.heap.size + x6.heap.size) = P; simp only [id] at hP) | (rw [show X2.heap.size + x3.heap.size + x4.heap.size + x5.heap.size = id (X2.heap.size + x3.heap.size + x4.heap.size + x5.heap.size) from rfl]; generalize hP : id (X2.heap.size + x3.heap.size + x4.heap.size + x5.heap.size) = P; simp only [id] at hP) | (rw [show X2.heap.size + x3.heap.size + x4.heap.size = id (X2.heap.size + x3.heap.size + x4.heap.size) from rfl]; generalize hP : id (X2.heap.size + x3.heap.size + x4.heap.size) = P; simp only [id] at hP)); have f8 : Four 1400000 630000 140000 1400 P W8 := (by constructor <;> (rw [← hW8, ← hP]; simp [go_sem])); have g8 : ∀ i, W8.frozen? ⟨P, i, none⟩ = false := (by intro i; rw [← hW8, ← hP]; simp [go_sem]); have B8 : Below X2.heap.size X2 W8 := (by rw [← hW8]; (repeat' first | with_reducible (first | apply bz0 | assumption | apply bz1 | apply bz2 | apply bz3 | apply bz4 | apply bz5) | (simp <;> omega))); have l8 : X2.heap.size ≤ P := (by rw [← hP]; omega); clear hW8 hP; have u0 := cell_below B8 gr yr0; have u1 := cell_below B8 gr yr1; have u2 := cell_below B8 gr yr2; have u3 := cell_below B8 gr yr3; have uf : ∀ i, W8.frozen? ⟨w.heap.size + 3, i, none⟩ = false := (fun i => (World.frozen?_of_block (w := X2) (B8.block (w.heap.size + 3) gr)).trans (yf i)); have nP : w.heap.size + 1 + 1 + 1 ≠ P := (by omega); have nl : w.heap.size ≤ P := (by omega); have R0 : Four 0 0 0 0 (w.heap.size + 1 + 1 + 1) (set4 W8 P 1000 450 100 1) := ⟨(set4_other _ _ _ _ nP).trans u0, (set4_other _ _ _ _ nP).trans u1, (set4_other _ _ _ _ nP).trans u2, (set4_other _ _ _ _ nP).trans u3⟩; have RF : ∀ i, (set4 W8 P 1000 450 100 1).frozen? ⟨w.heap.size + 1 + 1 + 1, i, none⟩ = false := (fun i => (set4_fother _ _ _ _ nP).trans (uf i)); obtain ⟨s0, s1, s2, s3⟩ := set4_four f8 1000 450 100 1; obtain ⟨t0, t1, t2, t3⟩ := set4_four R0 1000 450 100 1; have BF : Below w.heap.size w (set4 (set4 W8 P 1000 450 100 1) (w.heap.size + 1 + 1 + 1) 1000 450 100 1) := set4_below (set4_below (BW.trans (B8.lower hgw)) nl) (by omega); clear u0 u1 u2 u3 uf yr0 yr1 yr2 yr3 yf; gi_wp2_with (refine Oper.wpIn_store rfl (store_pt (by first | exact f8 | exact R0) (by first | exact g8 | exact RF) _ _ _ _) ?_); refine bodyPost_ret (v := .tuple #[.agg #[.int .i64 1000, .int .i64 450, .int .i64 100, .int .i64 1], .int .i64 0]) (by simp [results, Tryz.results59, go_sem, t0, t1, t2, t3]) rfl (retX rfl BF))
end Go.Proofs.YtekieoamelahkaaGreat
