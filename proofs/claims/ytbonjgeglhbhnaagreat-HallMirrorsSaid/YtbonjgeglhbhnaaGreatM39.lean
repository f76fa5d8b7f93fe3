/- Box of shoeboxlaw01. -/
import Derived.Test.YtbonjgeglhbhnaaGreatM34
import Derived.Test.YtbonjgeglhbhnaaGreatM38
set_option linter.unusedVariables false
set_option linter.unusedSimpArgs false
namespace Go.Proofs.YtbonjgeglhbhnaaGreat
open Go.RowKit Go.Shelf

def boxH : Hal := { name := ⟨#[104]⟩, height := 600, floor := ⟨#[119]⟩, ceil := ⟨#[119]⟩, mats := [⟨⟨#[119]⟩, 100, 100, 100, 100, 0⟩, ⟨⟨#[118]⟩, 500, 500, 500, 500, 0⟩], cors := [⟨0, 0⟩, ⟨1000, 0⟩, ⟨1000, 2000⟩, ⟨0, 2000⟩], wals := [⟨⟨#[97]⟩, ⟨#[119]⟩, ⟨#[]⟩⟩, ⟨⟨#[98]⟩, ⟨#[119]⟩, ⟨#[118]⟩⟩, ⟨⟨#[99]⟩, ⟨#[119]⟩, ⟨#[]⟩⟩, ⟨⟨#[100]⟩, ⟨#[119]⟩, ⟨#[]⟩⟩], cans := [⟨⟨#[107]⟩, ⟨#[119]⟩, ⟨200, 500⟩, ⟨800, 900⟩, [400, 500]⟩], seas := [] }
theorem slc_mk {α : Type} {E : Enc α} {w : World} {g c : Nat} {xs : List α} (hl : xs.length ≤ 1000000) (hg : w.Has g) (h : ∀ i (hi : i < xs.length) j, j < E.size → ∃ u, w.cell? ⟨g, i * E.size + j, none⟩ = some u ∧ E.at_ w xs[i] j u) : SlcAt E w (.slice (some ⟨g, 0, none⟩) xs.length c) xs := by
  refine ⟨hl, _, c, rfl, fun _ => ⟨g, 0, rfl, hg, fun i x hx j hj => ?_⟩⟩
  obtain ⟨hi, rfl⟩ := List.getElem?_eq_some_iff.1 hx
  obtain ⟨u, h1, h2⟩ := h i hi j hj
  exact ⟨u, by simpa using h1, h2⟩
theorem boxH_sized : boxH.Sized := by
  constructor <;> decide

set_option maxRecDepth 100000 in set_option maxHeartbeats 1000000 in
theorem law_Box (w : World) : Calls Tryz.prog 50 #[] w (fun e w' => Below w.heap.size w w' ∧ ∃ v4 v5 v6 v7 v8, e = .returned (halV boxH v4 v5 v6 v7 v8) ∧ HalVs w' v4 v5 v6 v7 v8 boxH) := by
  go_enter Tryz.func50, Tryz.ntmps50
  go_wp2
  generalize hX : World.alloc _ _ = X
  have BX : Below w.heap.size w X := by rw [← hX]; (repeat' (first | (with_reducible exact Below.refl _ _) | (with_reducible assumption) | (with_reducible refine Below.drew ?_) | (with_reducible refine Below.drewNStep ?_ _) | (with_reducible refine Below.alloc ?_ ?_ _) | (with_reducible refine Below.setCell ?_ ?_ _) | (with_reducible refine Below.extStep ?_ ?_ _) | (simp; done) | (simp; omega)))
  have hz : X.heap.size = w.heap.size + 6 := by rw [← hX]; simp
  have x0_0 : X.cell? ⟨w.heap.size, 0, none⟩ = some (.string ⟨#[104]⟩) := by rw [← hX]; simp [go_sem]
  have x0_1 : X.cell? ⟨w.heap.size, 1, none⟩ = some (.int .i64 600) := by rw [← hX]; simp [go_sem]
  have x0_2 : X.cell? ⟨w.heap.size, 2, none⟩ = some (.string ⟨#[119]⟩) := by rw [← hX]; simp [go_sem]
  have x0_3 : X.cell? ⟨w.heap.size, 3, none⟩ = some (.string ⟨#[119]⟩) := by rw [← hX]; simp [go_sem]
  have x0_4 : X.cell? ⟨w.heap.size, 4, none⟩ = some (.slice (some ⟨w.heap.size + 1, 0, none⟩) 2 2) := by rw [← hX]; simp [go_sem]
  have x0_5 : X.cell? ⟨w.heap.size, 5, none⟩ = some (.slice (some ⟨w.heap.size + 2, 0, none⟩) 4 4) := by rw [← hX]; simp [go_sem]
  have x0_6 : X.cell? ⟨w.heap.size, 6, none⟩ = some (.slice (some ⟨w.heap.size + 3, 0, none⟩) 4 4) := by rw [← hX]; simp [go_sem]
  have x0_7 : X.cell? ⟨w.heap.size, 7, none⟩ = some (.slice (some ⟨w.heap.size + 5, 0, none⟩) 1 1) := by rw [← hX]; simp [go_sem]
  have x0_8 : X.cell? ⟨w.heap.size, 8, none⟩ = some (.slice none 0 0) := by rw [← hX]; simp [go_sem]
  have x1_0 : X.cell? ⟨w.heap.size + 1, 0, none⟩ = some (.string ⟨#[119]⟩) := by rw [← hX]; simp [go_sem]
  have x1_1 : X.cell? ⟨w.heap.size + 1, 1, none⟩ = some (.int .i64 100) := by rw [← hX]; simp [go_sem]
  have x1_2 : X.cell? ⟨w.heap.size + 1, 2, none⟩ = some (.int .i64 100) := by rw [← hX]; simp [go_sem]
  have x1_3 : X.cell? ⟨w.heap.size + 1, 3, none⟩ = some (.int .i64 100) := by rw [← hX]; simp [go_sem]
  have x1_4 : X.cell? ⟨w.heap.size + 1, 4, none⟩ = some (.int .i64 100) := by rw [← hX]; simp [go_sem]
  have x1_5 : X.cell? ⟨w.heap.size + 1, 5, none⟩ = some (.int .i64 0) := by rw [← hX]; simp [go_sem]
  have x1_6 : X.cell? ⟨w.heap.size + 1, 6, none⟩ = some (.string ⟨#[118]⟩) := by rw [← hX]; simp [go_sem]
  have x1_7 : X.cell? ⟨w.heap.size + 1, 7, none⟩ = some (.int .i64 500) := by rw [← hX]; simp [go_sem]
  have x1_8 : X.cell? ⟨w.heap.size + 1, 8, none⟩ = some (.int .i64 500) := by rw [← hX]; simp [go_sem]
  have x1_9 : X.cell? ⟨w.heap.size + 1, 9, none⟩ = some (.int .i64 500) := by rw [← hX]; simp [go_sem]
  have x1_10 : X.cell? ⟨w.heap.size + 1, 10, none⟩ = some (.int .i64 500) := by rw [← hX]; simp [go_sem]
  have x1_11 : X.cell? ⟨w.heap.size + 1, 11, none⟩ = some (.int .i64 0) := by rw [← hX]; simp [go_sem]
  have x2_0 : X.cell? ⟨w.heap.size + 2, 0, none⟩ = some (.int .i64 0) := by rw [← hX]; simp [go_sem]
  have x2_1 : X.cell? ⟨w.heap.size + 2, 1, none⟩ = some (.int .i64 0) := by rw [← hX]; simp [go_sem]
  have x2_2 : X.cell? ⟨w.heap.size + 2, 2, none⟩ = some (.int .i64 1000) := by rw [← hX]; simp [go_sem]
  have x2_3 : X.cell? ⟨w.heap.size + 2, 3, none⟩ = some (.int .i64 0) := by rw [← hX]; simp [go_sem]
  have x2_4 : X.cell? ⟨w.heap.size + 2, 4, none⟩ = some (.int .i64 1000) := by rw [← hX]; simp [go_sem]
  have x2_5 : X.cell? ⟨w.heap.size + 2, 5, none⟩ = some (.int .i64 2000) := by rw [← hX]; simp [go_sem]
  have x2_6 : X.cell? ⟨w.heap.size + 2, 6, none⟩ = some (.int .i64 0) := by rw [← hX]; simp [go_sem]
  have x2_7 : X.cell? ⟨w.heap.size + 2, 7, none⟩ = some (.int .i64 2000) := by rw [← hX]; simp [go_sem]
  have x3_0 : X.cell? ⟨w.heap.size + 3, 0, none⟩ = some (.string ⟨#[97]⟩) := by rw [← hX]; simp [go_sem]
  have x3_1 : X.cell? ⟨w.heap.size + 3, 1, none⟩ = some (.string ⟨#[119]⟩) := by rw [← hX]; simp [go_sem]
  have x3_2 : X.cell? ⟨w.heap.size + 3, 2, none⟩ = some (.string ⟨#[]⟩) := by rw [← hX]; simp [go_sem]
  have x3_3 : X.cell? ⟨w.heap.size + 3, 3, none⟩ = some (.string ⟨#[98]⟩) := by rw [← hX]; simp [go_sem]
  have x3_4 : X.cell? ⟨w.heap.size + 3, 4, none⟩ = some (.string ⟨#[119]⟩) := by rw [← hX]; simp [go_sem]
  have x3_5 : X.cell? ⟨w.heap.size + 3, 5, none⟩ = some (.string ⟨#[118]⟩) := by rw [← hX]; simp [go_sem]
  have x3_6 : X.cell? ⟨w.heap.size + 3, 6, none⟩ = some (.string ⟨#[99]⟩) := by rw [← hX]; simp [go_sem]
  have x3_7 : X.cell? ⟨w.heap.size + 3, 7, none⟩ = some (.string ⟨#[119]⟩) := by rw [← hX]; simp [go_sem]
  have x3_8 : X.cell? ⟨w.heap.size + 3, 8, none⟩ = some (.string ⟨#[]⟩) := by rw [← hX]; simp [go_sem]
  have x3_9 : X.cell? ⟨w.heap.size + 3, 9, none⟩ = some (.string ⟨#[100]⟩) := by rw [← hX]; simp [go_sem]
  have x3_10 : X.cell? ⟨w.heap.size + 3, 10, none⟩ = some (.string ⟨#[119]⟩) := by rw [← hX]; simp [go_sem]
  have x3_11 : X.cell? ⟨w.heap.size + 3, 11, none⟩ = some (.string ⟨#[]⟩) := by rw [← hX]; simp [go_sem]
  have x4_0 : X.cell? ⟨w.heap.size + 4, 0, none⟩ = some (.int .i64 400) := by rw [← hX]; simp [go_sem]
  have x4_1 : X.cell? ⟨w.heap.size + 4, 1, none⟩ = some (.int .i64 500) := by rw [← hX]; simp [go_sem]
  have x5_0 : X.cell? ⟨w.heap.size + 5, 0, none⟩ = some (.string ⟨#[107]⟩) := by rw [← hX]; simp [go_sem]
  have x5_1 : X.cell? ⟨w.heap.size + 5, 1, none⟩ = some (.string ⟨#[119]⟩) := by rw [← hX]; simp [go_sem]
  have x5_2 : X.cell? ⟨w.heap.size + 5, 2, none⟩ = some (.int .i64 200) := by rw [← hX]; simp [go_sem]
  have x5_3 : X.cell? ⟨w.heap.size + 5, 3, none⟩ = some (.int .i64 500) := by rw [← hX]; simp [go_sem]
  have x5_4 : X.cell? ⟨w.heap.size + 5, 4, none⟩ = some (.int .i64 800) := by rw [← hX]; simp [go_sem]
  have x5_5 : X.cell? ⟨w.heap.size + 5, 5, none⟩ = some (.int .i64 900) := by rw [← hX]; simp [go_sem]
  have x5_6 : X.cell? ⟨w.heap.size + 5, 6, none⟩ = some (.slice (some ⟨w.heap.size + 4, 0, none⟩) 2 2) := by rw [← hX]; simp [go_sem]
  clear hX
  refine bodyPost_ret (v := halV boxH (.slice (some ⟨w.heap.size + 1, 0, none⟩) 2 2) (.slice (some ⟨w.heap.size + 2, 0, none⟩) 4 4) (.slice (some ⟨w.heap.size + 3, 0, none⟩) 4 4) (.slice (some ⟨w.heap.size + 5, 0, none⟩) 1 1) (.slice none 0 0)) (by simp [results, Tryz.results50, halV, boxH, go_sem, x0_0, x0_1, x0_2, x0_3, x0_4, x0_5, x0_6, x0_7, x0_8]) rfl ⟨BX, _, _, _, _, _, rfl, boxH_sized, ?_, ?_, ?_, ?_, ?_⟩
  · refine slc_mk (xs := boxH.mats) (by decide) (has_of_cell x1_0) ?_
    intro i hi j hj
    have hi : i < 2 := hi
    have hj : j < 6 := hj
    obtain rfl | rfl : i = 0 ∨ i = 1 := by omega
    all_goals (obtain rfl | rfl | rfl | rfl | rfl | rfl : j = 0 ∨ j = 1 ∨ j = 2 ∨ j = 3 ∨ j = 4 ∨ j = 5 := by omega)
    · exact ⟨_, x1_0, rfl⟩
    · exact ⟨_, x1_1, rfl⟩
    · exact ⟨_, x1_2, rfl⟩
    · exact ⟨_, x1_3, rfl⟩
    · exact ⟨_, x1_4, rfl⟩
    · exact ⟨_, x1_5, rfl⟩
    · exact ⟨_, x1_6, rfl⟩
    · exact ⟨_, x1_7, rfl⟩
    · exact ⟨_, x1_8, rfl⟩
    · exact ⟨_, x1_9, rfl⟩
    · exact ⟨_, x1_10, rfl⟩
    · exact ⟨_, x1_11, rfl⟩
  · refine slc_mk (xs := boxH.cors) (by decide) (has_of_cell x2_0) ?_
    intro i hi j hj
    have hi : i < 4 := hi
    have hj : j < 2 := hj
    obtain rfl | rfl | rfl | rfl : i = 0 ∨ i = 1 ∨ i = 2 ∨ i = 3 := by omega
    all_goals (obtain rfl | rfl : j = 0 ∨ j = 1 := by omega)
    · exact ⟨_, x2_0, rfl⟩
    · exact ⟨_, x2_1, rfl⟩
    · exact ⟨_, x2_2, rfl⟩
    · exact ⟨_, x2_3, rfl⟩
    · exact ⟨_, x2_4, rfl⟩
    · exact ⟨_, x2_5, rfl⟩
    · exact ⟨_, x2_6, rfl⟩
    · exact ⟨_, x2_7, rfl⟩
  · refine slc_mk (xs := boxH.wals) (by decide) (has_of_cell x3_0) ?_
    intro i hi j hj
    have hi : i < 4 := hi
    have hj : j < 3 := hj
    obtain rfl | rfl | rfl | rfl : i = 0 ∨ i = 1 ∨ i = 2 ∨ i = 3 := by omega
    all_goals (obtain rfl | rfl | rfl : j = 0 ∨ j = 1 ∨ j = 2 := by omega)
    · exact ⟨_, x3_0, rfl⟩
    · exact ⟨_, x3_1, rfl⟩
    · exact ⟨_, x3_2, rfl⟩
    · exact ⟨_, x3_3, rfl⟩
    · exact ⟨_, x3_4, rfl⟩
    · exact ⟨_, x3_5, rfl⟩
    · exact ⟨_, x3_6, rfl⟩
    · exact ⟨_, x3_7, rfl⟩
    · exact ⟨_, x3_8, rfl⟩
    · exact ⟨_, x3_9, rfl⟩
    · exact ⟨_, x3_10, rfl⟩
    · exact ⟨_, x3_11, rfl⟩
  · have h4 : SlcAt encInt X (.slice (some ⟨w.heap.size + 4, 0, none⟩) 2 2) [400, 500] := by
      refine slc_mk (xs := [400, 500]) (by decide) (has_of_cell x4_0) ?_
      intro i hi j hj
      have hi : i < 2 := hi
      obtain rfl : j = 0 := by have : j < 1 := hj; omega
      obtain rfl | rfl : i = 0 ∨ i = 1 := by omega
      · exact ⟨_, x4_0, rfl⟩
      · exact ⟨_, x4_1, rfl⟩
    refine slc_mk (xs := boxH.cans) (by decide) (has_of_cell x5_0) ?_
    intro i hi j hj
    obtain rfl : i = 0 := by have : i < 1 := hi; omega
    have hj : j < 7 := hj
    obtain rfl | rfl | rfl | rfl | rfl | rfl | rfl : j = 0 ∨ j = 1 ∨ j = 2 ∨ j = 3 ∨ j = 4 ∨ j = 5 ∨ j = 6 := by omega
    · exact ⟨_, x5_0, rfl⟩
    · exact ⟨_, x5_1, rfl⟩
    · exact ⟨_, x5_2, rfl⟩
    · exact ⟨_, x5_3, rfl⟩
    · exact ⟨_, x5_4, rfl⟩
    · exact ⟨_, x5_5, rfl⟩
    · exact ⟨_, x5_6, h4⟩
  · exact ⟨by decide, _, 0, rfl, fun h => absurd h (by decide)⟩
end Go.Proofs.YtbonjgeglhbhnaaGreat
