/- What the hall of the examples is. -/
import Derived.Test.YtbonjgeglhbhnaaGreatM39
import Derived.Test.YtbonjgeglhbhnaaGreatM43
import Derived.Test.YtbonjgeglhbhnaaGreatM42
import Derived.Test.YtbonjgeglhbhnaaGreatM45
import Derived.Test.YtbonjgeglhbhnaaGreatM46
set_option linter.unusedVariables false
set_option linter.unusedSimpArgs false
namespace Go.Proofs.YtbonjgeglhbhnaaGreat
open Go.RowKit Go.Shelf

theorem box_ok : (hallF boxH).2.2 = 0 := by decide +kernel
theorem box_area : areaTo boxH boxH.cors.length = 4000000 := by decide +kernel
theorem box_low : inE boxH ⟨[0], []⟩ = 0 := by decide +kernel
theorem box_drawn : inE boxH ⟨[0], [1]⟩ = 0 := by decide +kernel
theorem box_curt : curL boxH boxH.wals.length = [1] := by decide +kernel
theorem box_mir : mirE 4 200 0 0 5 = 0 ∧ mirX 4 200 0 0 = 200 ∧ mirY 4 200 0 0 = -200 ∧ mirZ 4 200 5 = 5 := by decide +kernel
theorem box_count : cntE boxH = (4, 0) := by decide +kernel

/-- the first three of the six examples' calls -/
theorem box_TwiceArea {w : World} {v4 v5 v6 v7 v8 : Value} (hV : HalVs w v4 v5 v6 v7 v8 boxH) : Calls Tryz.prog 49 #[halV boxH v4 v5 v6 v7 v8] w (RetX w (.tuple #[.int .i64 4000000, .int .i64 0])) := by
  have := TwiceArea_any hV
  rw [box_ok, if_pos rfl, box_area] at this
  exact this
theorem box_MirrorIn (w : World) : Calls Tryz.prog 12 #[.agg #[.int .i64 4, .int .i64 200], .agg #[.int .i64 0, .int .i64 0, .int .i64 5]] w (RetX w (.tuple #[.agg #[.int .i64 200, .int .i64 (-200), .int .i64 5], .int .i64 0])) := by
  have := MirrorIn_any 4 200 0 0 5 w
  obtain ⟨h0, h1, h2, h3⟩ := box_mir
  unfold mirV at this
  rw [h0, if_pos rfl, h1, h2, h3] at this
  exact this
theorem box_cors : CorsIn boxH := by
  intro k hk
  have hk : k < 4 := hk
  obtain rfl | rfl | rfl | rfl : k = 0 ∨ k = 1 ∨ k = 2 ∨ k = 3 := by omega
  all_goals decide +kernel
end Go.Proofs.YtbonjgeglhbhnaaGreat

/- AbsorptionArea of the hall of the examples. -/
namespace Go.Proofs.YtbonjgeglhbhnaaGreat
open Go.RowKit Go.Shelf

def bxK : Nat → Int | 0 => 1 | 1 => 0 | 2 => 1 | 3 => 0 | _ => 2
def bxA : Nat → Int | 0 => 0 | 1 => 1000 | 2 => 2000 | 3 => 0 | 4 => 0 | 5 => 600 | _ => 400
def bxL : Nat → Int | 0 => 600000 | 1 => 1200000 | 2 => 600000 | 3 => 1200000 | 4 => 2000000 | 5 => 2000000 | _ => 240000
def bxD : Nat → Int | 6 => 2 | _ => 1
def bxM : Nat → ByteArray | 1 => ⟨#[118]⟩ | _ => ⟨#[119]⟩
def bxF : Nat → Nat | 4 => 113 | 5 => 113 | 6 => 149 | _ => 146
def boxS : Stg := ⟨[0], [1]⟩

theorem box_surf {W : World} {b : Nat} (hR : Room W b boxH boxS) : ∀ n : Nat, n < 7 → Calls Tryz.prog 83 #[.pointer (some ⟨b, 0, none⟩), .int .i64 n] W (fun e w' => Below W.heap.size W w' ∧ ∃ pr cap, e = .returned (surfV (bxK n) (bxA n) (bxM n) (bxL n) (bxL n) (bxD n) (.func (.func (bxF n)) pr cap))) := by
  intro n hn
  have hok := hall_ok box_ok
  obtain rfl | rfl | rfl | rfl | rfl | rfl | rfl : n = 0 ∨ n = 1 ∨ n = 2 ∨ n = 3 ∨ n = 4 ∨ n = 5 ∨ n = 6 := by omega
  · exact (surface_wallIn hR 0 (by decide) (by decide) 0 0 1000 0 (by decide) (by decide) (by decide) (by decide) (by decide) (by decide) (by decide) (by decide) (by decide) (by decide)).mono (by rintro e w' ⟨hB, cap, rfl, _⟩; exact ⟨hB, _, cap, rfl⟩)
  · exact (surface_wallIn hR 1 (by decide) (by decide) 1000 0 1000 2000 (by decide) (by decide) (by decide) (by decide) (by decide) (by decide) (by decide) (by decide) (by decide) (by decide)).mono (by rintro e w' ⟨hB, cap, rfl, _⟩; exact ⟨hB, _, cap, rfl⟩)
  · exact (surface_wallIn hR 2 (by decide) (by decide) 1000 2000 0 2000 (by decide) (by decide) (by decide) (by decide) (by decide) (by decide) (by decide) (by decide) (by decide) (by decide)).mono (by rintro e w' ⟨hB, cap, rfl, _⟩; exact ⟨hB, _, cap, rfl⟩)
  · exact (surface_wallIn hR 3 (by decide) (by decide) 0 2000 0 0 (by decide) (by decide) (by decide) (by decide) (by decide) (by decide) (by decide) (by decide) (by decide) (by decide)).mono (by rintro e w' ⟨hB, cap, rfl, _⟩; exact ⟨hB, _, cap, rfl⟩)
  · have := surface_floor hR hok.cors (by decide) hok.area
    rw [box_area] at this
    exact this.mono (by rintro e w' ⟨rfl, x, rfl⟩; exact ⟨by (repeat' (first | (with_reducible exact Below.refl _ _) | (with_reducible assumption) | (with_reducible refine Below.drew ?_) | (with_reducible refine Below.drewNStep ?_ _) | (with_reducible refine Below.alloc ?_ ?_ _) | (with_reducible refine Below.setCell ?_ ?_ _) | (with_reducible refine Below.extStep ?_ ?_ _) | (simp; done) | (simp; omega))), _, _, rfl⟩)
  · have := surface_ceil hR hok.cors (by decide) hok.area
    rw [box_area] at this
    exact this.mono (by rintro e w' ⟨rfl, x, rfl⟩; exact ⟨by (repeat' (first | (with_reducible exact Below.refl _ _) | (with_reducible assumption) | (with_reducible refine Below.drew ?_) | (with_reducible refine Below.drewNStep ?_ _) | (with_reducible refine Below.alloc ?_ ?_ _) | (with_reducible refine Below.setCell ?_ ?_ _) | (with_reducible refine Below.extStep ?_ ?_ _) | (simp; done) | (simp; omega))), _, _, rfl⟩)
  · have := surface_canopy hR 0 (by decide) (by decide) (by decide) (by decide) (hok.can (by decide))
    exact this.mono (by rintro e w' ⟨rfl, x, rfl⟩; exact ⟨by (repeat' (first | (with_reducible exact Below.refl _ _) | (with_reducible assumption) | (with_reducible refine Below.drew ?_) | (with_reducible refine Below.drewNStep ?_ _) | (with_reducible refine Below.alloc ?_ ?_ _) | (with_reducible refine Below.setCell ?_ ?_ _) | (with_reducible refine Below.extStep ?_ ?_ _) | (simp; done) | (simp; omega))), _, _, rfl⟩)

theorem box_AbsorptionArea {w : World} {v4 v5 v6 v7 v8 v9 v10 : Value} (hV : HalVs w v4 v5 v6 v7 v8 boxH) (h9 : SlcAt encInt w v9 [0]) (h10 : SlcAt encInt w v10 [1]) :
    Calls Tryz.prog 37 #[halV boxH v4 v5 v6 v7 v8, .agg #[v9, v10], .int .i64 2] w (RetX w (.tuple #[.agg #[.int .i64 1288000, .int .i64 1288000], .int .i64 0])) := by
  have := AbsorptionArea_good (S := boxS) hV h9 h10 box_drawn 7 (by decide) (by decide) bxK bxA bxL bxL bxD bxM bxF (fun n hn W b hR => box_surf hR n hn)
    (by
      intro n hn
      obtain rfl | rfl | rfl | rfl | rfl | rfl | rfl : n = 0 ∨ n = 1 ∨ n = 2 ∨ n = 3 ∨ n = 4 ∨ n = 5 ∨ n = 6 := by omega
      all_goals decide +kernel)
    (by
      intro n hn
      obtain rfl | rfl | rfl | rfl | rfl | rfl | rfl | rfl : n = 0 ∨ n = 1 ∨ n = 2 ∨ n = 3 ∨ n = 4 ∨ n = 5 ∨ n = 6 ∨ n = 7 := by omega
      all_goals decide +kernel)
  have hs : sumTo bxL (shr boxH 2 bxM bxD) 7 = 1288000000 := by decide +kernel
  rw [hs] at this
  exact this
end Go.Proofs.YtbonjgeglhbhnaaGreat

/- IsFree, of the example. -/
namespace Go.Proofs.YtbonjgeglhbhnaaGreat
open Go.RowKit Go.Shelf
def lowS : Stg := ⟨[0], []⟩
theorem box_IsFree {w : World} {v4 v5 v6 v7 v8 v9 v10 : Value} (hV : HalVs w v4 v5 v6 v7 v8 boxH) (h9 : SlcAt encInt w v9 [0]) (h10 : SlcAt encInt w v10 []) :
    Calls Tryz.prog 43 #[halV boxH v4 v5 v6 v7 v8, .agg #[v9, v10], .agg #[.int .i64 500, .int .i64 100, .int .i64 100, .int .i64 1, .int .i64 500, .int .i64 1900, .int .i64 100, .int .i64 1]] w (RetX w (.tuple #[.bool true, .int .i64 0])) := by
  have := IsFree_good (S := lowS) hV h9 h10 box_low 500 100 100 1 500 1900 100 1 (by decide) (by decide) (by decide) (by decide) (by decide) (by decide) (by decide) (by decide) (by decide +kernel) (by decide +kernel) (by decide)
  rw [show freeB boxH lowS 500 100 100 1 500 1900 100 1 = true by decide +kernel] at this
  exact this
end Go.Proofs.YtbonjgeglhbhnaaGreat
