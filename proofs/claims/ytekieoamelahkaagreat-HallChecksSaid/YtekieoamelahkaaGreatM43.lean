/- Copy of a hall: the same hall in rows of its own. -/
import Derived.Test.YtekieoamelahkaaGreatM41
import Derived.Maps.AppendAt
set_option linter.unusedVariables false
set_option linter.unusedSimpArgs false
namespace Go.Proofs.YtekieoamelahkaaGreat
open Go.RowKit Go.Shelf
attribute [local go_sem] Oper.semAt_some

theorem info_mat : (Tryz.prog.info? 82).map (fun i => (i.zero, i.size, i.bytes)) = some (some (.agg #[.string .empty, .int .i64 0, .int .i64 0, .int .i64 0, .int .i64 0, .int .i64 0]), 6, 56) := by kernel_rfl
theorem info_cor : (Tryz.prog.info? 48).map (fun i => (i.zero, i.size, i.bytes)) = some (some (.agg #[.int .i64 0, .int .i64 0]), 2, 16) := by kernel_rfl
theorem info_wal : (Tryz.prog.info? 50).map (fun i => (i.zero, i.size, i.bytes)) = some (some (.agg #[.string .empty, .string .empty, .string .empty]), 3, 48) := by kernel_rfl
theorem info_sea : (Tryz.prog.info? 124).map (fun i => (i.zero, i.size, i.bytes)) = some (some (.agg #[.string .empty, .int .i64 0, .int .i64 0, .int .i64 0]), 4, 40) := by kernel_rfl
theorem encMat_1 : ∀ (w : World) (x : Mat) (j : Nat), j < encMat.size → encMat.at_ w x j (fMat x j) := fun _ _ _ _ => rfl
theorem encMat_2 : ∀ (w : World) (x : Mat) (j : Nat) (v : Value), j < encMat.size → encMat.at_ w x j v → v = fMat x j := fun _ _ _ _ _ h => h
theorem encCor_1 : ∀ (w : World) (x : Cor) (j : Nat), j < encCor.size → encCor.at_ w x j (fCor x j) := fun _ _ _ _ => rfl
theorem encCor_2 : ∀ (w : World) (x : Cor) (j : Nat) (v : Value), j < encCor.size → encCor.at_ w x j v → v = fCor x j := fun _ _ _ _ _ h => h
theorem encWal_1 : ∀ (w : World) (x : Wal) (j : Nat), j < encWal.size → encWal.at_ w x j (fWal x j) := fun _ _ _ _ => rfl
theorem encWal_2 : ∀ (w : World) (x : Wal) (j : Nat) (v : Value), j < encWal.size → encWal.at_ w x j v → v = fWal x j := fun _ _ _ _ _ h => h
theorem encSea_1 : ∀ (w : World) (x : Sea) (j : Nat), j < encSea.size → encSea.at_ w x j (fSea x j) := fun _ _ _ _ => rfl
theorem encSea_2 : ∀ (w : World) (x : Sea) (j : Nat) (v : Value), j < encSea.size → encSea.at_ w x j v → v = fSea x j := fun _ _ _ _ _ h => h
theorem info_can : (Tryz.prog.info? 122).map (fun i => (i.zero, i.size, i.bytes)) = some (some (.agg #[.string .empty, .string .empty, .int .i64 0, .int .i64 0, .int .i64 0, .int .i64 0, .slice none 0 0]), 7, 88) := by kernel_rfl
theorem u_cans : Tryz.prog.underlying 25 = some (.slice 122) := by kernel_rfl
theorem cells_new (W : World) (l : List Value) (t : TypeId) : ∀ j u, l[j]? = some u → (W.alloc (.cells l.toArray t)).cell? ((⟨W.heap.size, 0, none⟩ : Addr).add j) = some u := by
 intro j u hj
 have hb : ((⟨W.heap.size, 0, none⟩ : Addr).add j) = ⟨W.heap.size, j, none⟩ := by
  unfold Addr.add
  split
  · rename_i h; rw [h]
  · simp
 rw [hb]
 unfold World.cell?
 rw [World.alloc_heap_new]
 simpa using hj
theorem heap_set (w : World) (b i k : Nat) (v : Value) (h : k ≠ b) : (w.setCell ⟨b, i, none⟩ v).heap[k]? = w.heap[k]? := Below.heap_setCell _ _ _ _ h
theorem SlcAt.later {α : Type} {E : Enc α} (hF : ∀ w w' x j v, E.at_ w x j v → E.at_ w' x j v) {w1 w2 : World} {v u : Value} {xs : List α} {b bx i : Nat} {o : Obj} (h : SlcAt E w1 v xs) (hv : FromB b v) (hbx : bx < b)
 (hg : ((w1.setCell ⟨bx, i, none⟩ u).alloc o).grownBy w2 (some w1.heap.size)) : SlcAt E w2 v xs := by
 have hs := hg.size
 rw [World.size_alloc] at hs
 simp only [World.size_setCell] at hs
 refine h.block hF (by omega) fun g o' s n c he hlt => ?_
 have hbg := hv g o' s n c he
 have h1 := hg.block g (by first | (simp; done) | (simp; omega)) (by first | (simp; done) | (simp; omega))
 rw [h1, heap_alloc_old _ _ (by first | (simp; done) | (simp; omega))]
 exact Below.heap_setCell _ _ _ _ (show g ≠ bx by omega)
set_option maxRecDepth 100000 in set_option maxHeartbeats 8000000 in
theorem Copy_any {w : World} {H : Hal} {v4 v5 v6 v7 v8 : Value} (hV : HalVs w v4 v5 v6 v7 v8 H) :
 Calls Tryz.prog 18 #[halV H v4 v5 v6 v7 v8] w (fun e w' => Below w.heap.size w w' ∧ ∃ u4 u5 u6 u7 u8, e = .returned (halV H u4 u5 u6 u7 u8) ∧ HalVs w' u4 u5 u6 u7 u8 H) := by
 obtain ⟨hsz, g4, g5, g6, g7, g8⟩ := hV
 obtain ⟨A4, c4, rfl, hO4⟩ := slc_form g4
 obtain ⟨A5, c5, rfl, hO5⟩ := slc_form g5
 obtain ⟨A6, c6, rfl, hO6⟩ := slc_form g6
 obtain ⟨A7, c7, rfl, hO7⟩ := slc_form g7
 obtain ⟨A8, c8, rfl, hO8⟩ := slc_form g8
 clear g4 g5 g6 g7 g8
 unfold halV
 obtain ⟨i4, hi4, hz4, ha4, hb4⟩ := info_parts info_mat
 obtain ⟨i5, hi5, hz5, ha5, hb5⟩ := info_parts info_cor
 obtain ⟨i6, hi6, hz6, ha6, hb6⟩ := info_parts info_wal
 obtain ⟨i8, hi8, hz8, ha8, hb8⟩ := info_parts info_sea
 go_enter Tryz.func18, Tryz.ntmps18
 have hP0 : Below w.heap.size w (((w.alloc (.cells #[.string H.name, .int .i64 H.height, .string H.floor, .string H.ceil, .slice A4 H.mats.length c4, .slice A5 H.cors.length c5, .slice A6 H.wals.length c6, .slice A7 H.cans.length c7, .slice A8 H.seas.length c8] 28)).alloc (.cells #[.string ⟨#[]⟩, .int .i64 0, .string ⟨#[]⟩, .string ⟨#[]⟩, .slice none 0 0, .slice none 0 0, .slice none 0 0, .slice none 0 0, .slice none 0 0] 28)).alloc (.cells #[] 82)) := by (repeat' first | with_reducible (first | apply bz0 | assumption | apply bz1 | apply bz2 | apply bz3 | apply bz4 | apply bz5) | (simp <;> omega))
 have hX4 := hO4.below hP0
 go_wp2_with (first
  | (at_builtin; refine wpList_append_slc rfl _ _ 22 rfl 82 i4 (.agg #[.string .empty, .int .i64 0, .int .i64 0, .int .i64 0, .int .i64 0, .int .i64 0]) 56 u_mats hi4 hz4 ha4 hb4 rfl (by decide) encMat_1 encMat_2 fMat_one (w.heap.size + 1 + 1) rfl ?c1 A4 _ c4 H.mats rfl hX4 (by decide) ?_))
 case c1 => have h := World.alloc_heap_new ((w.alloc (.cells #[.string H.name, .int .i64 H.height, .string H.floor, .string H.ceil, .slice A4 H.mats.length c4, .slice A5 H.cors.length c5, .slice A6 H.wals.length c6, .slice A7 H.cans.length c7, .slice A8 H.seas.length c8] 28)).alloc (.cells #[.string ⟨#[]⟩, .int .i64 0, .string ⟨#[]⟩, .string ⟨#[]⟩, .slice none 0 0, .slice none 0 0, .slice none 0 0, .slice none 0 0, .slice none 0 0] 28)) (.cells #[] 82); rw [show ((w.alloc (.cells #[.string H.name, .int .i64 H.height, .string H.floor, .string H.ceil, .slice A4 H.mats.length c4, .slice A5 H.cors.length c5, .slice A6 H.wals.length c6, .slice A7 H.cans.length c7, .slice A8 H.seas.length c8] 28)).alloc (.cells #[.string ⟨#[]⟩, .int .i64 0, .string ⟨#[]⟩, .string ⟨#[]⟩, .slice none 0 0, .slice none 0 0, .slice none 0 0, .slice none 0 0, .slice none 0 0] 28)).heap.size = w.heap.size + 1 + 1 by simp] at h; exact h
 intro u4 w1 hS4 hF4 hg
 obtain ⟨D4, e4, rfl, hS4'⟩ := slc_form hS4; clear hS4; have hS4 := hS4'; clear hS4'
 have hs1 := hg.size
 simp at hs1
 have hB1 : Below w.heap.size w w1 := Below.grown hP0 hg (by first | (simp; done) | (simp; omega)) (fun k hk => by cases hk; omega)
 have y0' : w1.cell? ⟨w.heap.size, 0, none⟩ = some (.string H.name) := (World.cell?_of_block (a := ⟨w.heap.size, 0, none⟩) (hg.block w.heap.size (by first | (simp; done) | (simp; omega)) (by first | (simp; done) | (simp; omega)))).trans (by simp [go_sem])
 have y1' : w1.cell? ⟨w.heap.size, 1, none⟩ = some (.int .i64 H.height) := (World.cell?_of_block (a := ⟨w.heap.size, 1, none⟩) (hg.block w.heap.size (by first | (simp; done) | (simp; omega)) (by first | (simp; done) | (simp; omega)))).trans (by simp [go_sem])
 have y2' : w1.cell? ⟨w.heap.size, 2, none⟩ = some (.string H.floor) := (World.cell?_of_block (a := ⟨w.heap.size, 2, none⟩) (hg.block w.heap.size (by first | (simp; done) | (simp; omega)) (by first | (simp; done) | (simp; omega)))).trans (by simp [go_sem])
 have y3' : w1.cell? ⟨w.heap.size, 3, none⟩ = some (.string H.ceil) := (World.cell?_of_block (a := ⟨w.heap.size, 3, none⟩) (hg.block w.heap.size (by first | (simp; done) | (simp; omega)) (by first | (simp; done) | (simp; omega)))).trans (by simp [go_sem])
 have y4' : w1.cell? ⟨w.heap.size, 4, none⟩ = some (.slice A4 H.mats.length c4) := (World.cell?_of_block (a := ⟨w.heap.size, 4, none⟩) (hg.block w.heap.size (by first | (simp; done) | (simp; omega)) (by first | (simp; done) | (simp; omega)))).trans (by simp [go_sem])
 have y5' : w1.cell? ⟨w.heap.size, 5, none⟩ = some (.slice A5 H.cors.length c5) := (World.cell?_of_block (a := ⟨w.heap.size, 5, none⟩) (hg.block w.heap.size (by first | (simp; done) | (simp; omega)) (by first | (simp; done) | (simp; omega)))).trans (by simp [go_sem])
 have y6' : w1.cell? ⟨w.heap.size, 6, none⟩ = some (.slice A6 H.wals.length c6) := (World.cell?_of_block (a := ⟨w.heap.size, 6, none⟩) (hg.block w.heap.size (by first | (simp; done) | (simp; omega)) (by first | (simp; done) | (simp; omega)))).trans (by simp [go_sem])
 have y7' : w1.cell? ⟨w.heap.size, 7, none⟩ = some (.slice A7 H.cans.length c7) := (World.cell?_of_block (a := ⟨w.heap.size, 7, none⟩) (hg.block w.heap.size (by first | (simp; done) | (simp; omega)) (by first | (simp; done) | (simp; omega)))).trans (by simp [go_sem])
 have y8' : w1.cell? ⟨w.heap.size, 8, none⟩ = some (.slice A8 H.seas.length c8) := (World.cell?_of_block (a := ⟨w.heap.size, 8, none⟩) (hg.block w.heap.size (by first | (simp; done) | (simp; omega)) (by first | (simp; done) | (simp; omega)))).trans (by simp [go_sem])
 have z0' : w1.cell? ⟨w.heap.size + 1, 0, none⟩ = some (.string ⟨#[]⟩) := (World.cell?_of_block (a := ⟨w.heap.size + 1, 0, none⟩) (hg.block (w.heap.size + 1) (by first | (simp; done) | (simp; omega)) (by first | (simp; done) | (simp; omega)))).trans (by simp [go_sem])
 have z1' : w1.cell? ⟨w.heap.size + 1, 1, none⟩ = some (.int .i64 0) := (World.cell?_of_block (a := ⟨w.heap.size + 1, 1, none⟩) (hg.block (w.heap.size + 1) (by first | (simp; done) | (simp; omega)) (by first | (simp; done) | (simp; omega)))).trans (by simp [go_sem])
 have z2' : w1.cell? ⟨w.heap.size + 1, 2, none⟩ = some (.string ⟨#[]⟩) := (World.cell?_of_block (a := ⟨w.heap.size + 1, 2, none⟩) (hg.block (w.heap.size + 1) (by first | (simp; done) | (simp; omega)) (by first | (simp; done) | (simp; omega)))).trans (by simp [go_sem])
 have z3' : w1.cell? ⟨w.heap.size + 1, 3, none⟩ = some (.string ⟨#[]⟩) := (World.cell?_of_block (a := ⟨w.heap.size + 1, 3, none⟩) (hg.block (w.heap.size + 1) (by first | (simp; done) | (simp; omega)) (by first | (simp; done) | (simp; omega)))).trans (by simp [go_sem])
 have z4' : w1.cell? ⟨w.heap.size + 1, 4, none⟩ = some (.slice none 0 0) := (World.cell?_of_block (a := ⟨w.heap.size + 1, 4, none⟩) (hg.block (w.heap.size + 1) (by first | (simp; done) | (simp; omega)) (by first | (simp; done) | (simp; omega)))).trans (by simp [go_sem])
 have z5' : w1.cell? ⟨w.heap.size + 1, 5, none⟩ = some (.slice none 0 0) := (World.cell?_of_block (a := ⟨w.heap.size + 1, 5, none⟩) (hg.block (w.heap.size + 1) (by first | (simp; done) | (simp; omega)) (by first | (simp; done) | (simp; omega)))).trans (by simp [go_sem])
 have z6' : w1.cell? ⟨w.heap.size + 1, 6, none⟩ = some (.slice none 0 0) := (World.cell?_of_block (a := ⟨w.heap.size + 1, 6, none⟩) (hg.block (w.heap.size + 1) (by first | (simp; done) | (simp; omega)) (by first | (simp; done) | (simp; omega)))).trans (by simp [go_sem])
 have z7' : w1.cell? ⟨w.heap.size + 1, 7, none⟩ = some (.slice none 0 0) := (World.cell?_of_block (a := ⟨w.heap.size + 1, 7, none⟩) (hg.block (w.heap.size + 1) (by first | (simp; done) | (simp; omega)) (by first | (simp; done) | (simp; omega)))).trans (by simp [go_sem])
 have z8' : w1.cell? ⟨w.heap.size + 1, 8, none⟩ = some (.slice none 0 0) := (World.cell?_of_block (a := ⟨w.heap.size + 1, 8, none⟩) (hg.block (w.heap.size + 1) (by first | (simp; done) | (simp; omega)) (by first | (simp; done) | (simp; omega)))).trans (by simp [go_sem])
 have yf' : ∀ i, w1.frozen? ⟨w.heap.size, i, none⟩ = false := fun i => (World.frozen?_of_block (a := ⟨w.heap.size, i, none⟩) (hg.block w.heap.size (by first | (simp; done) | (simp; omega)) (by first | (simp; done) | (simp; omega)))).trans (by simp [go_sem])
 have zf' : ∀ i, w1.frozen? ⟨w.heap.size + 1, i, none⟩ = false := fun i => (World.frozen?_of_block (a := ⟨w.heap.size + 1, i, none⟩) (hg.block (w.heap.size + 1) (by first | (simp; done) | (simp; omega)) (by first | (simp; done) | (simp; omega)))).trans (by simp [go_sem])
 replace hF4 : FromB (w.heap.size + 2) (.slice D4 H.mats.length e4) := fun g o s n c he => by have := hF4 g o s n c he; omega
 clear hg hP0 hX4 hO4
 have y0 := y0'; have z0 := z0'; clear y0' z0'
 have y1 := y1'; have z1 := z1'; clear y1' z1'
 have y2 := y2'; have z2 := z2'; clear y2' z2'
 have y3 := y3'; have z3 := z3'; clear y3' z3'
 have y4 := y4'; have z4 := z4'; clear y4' z4'
 have y5 := y5'; have z5 := z5'; clear y5' z5'
 have y6 := y6'; have z6 := z6'; clear y6' z6'
 have y7 := y7'; have z7 := z7'; clear y7' z7'
 have y8 := y8'; have z8 := z8'; clear y8' z8'
 have yf := yf'; have zf := zf'; clear yf' zf'
 have gy := has_of_cell y0; have gz := has_of_cell z0
 have yq := yf 4
 have hP1 : Below w.heap.size w ((w1.setCell ⟨w.heap.size, 4, none⟩ (.slice D4 H.mats.length e4)).alloc (.cells #[] 48)) := by (repeat' first | with_reducible (first | apply bz0 | assumption | apply bz1 | apply bz2 | apply bz3 | apply bz4 | apply bz5) | (simp <;> omega))
 have hX5 := hO5.below hP1
 go_wp2_with (first
  | (at_builtin; refine wpList_append_slc rfl _ _ 23 rfl 48 i5 (.agg #[.int .i64 0, .int .i64 0]) 16 u_cors hi5 hz5 ha5 hb5 rfl (by decide) encCor_1 encCor_2 (fun _ _ => rfl) (w1.heap.size) rfl ?c1 A5 _ c5 H.cors rfl hX5 (by decide) ?_))
 case c1 => have h := World.alloc_heap_new (w1.setCell ⟨w.heap.size, 4, none⟩ (.slice D4 H.mats.length e4)) (.cells #[] 48); rw [show (w1.setCell ⟨w.heap.size, 4, none⟩ (.slice D4 H.mats.length e4)).heap.size = w1.heap.size by simp] at h; exact h
 intro u5 w2 hS5 hF5 hg
 obtain ⟨D5, e5, rfl, hS5'⟩ := slc_form hS5; clear hS5; have hS5 := hS5'; clear hS5'
 have hs2 := hg.size
 simp at hs2
 have hB2 : Below w.heap.size w w2 := Below.grown hP1 hg (by first | (simp; done) | (simp; omega)) (fun k hk => by cases hk; omega)
 have y0' : w2.cell? ⟨w.heap.size, 0, none⟩ = some (.string H.name) := (World.cell?_of_block (a := ⟨w.heap.size, 0, none⟩) (hg.block w.heap.size (by first | (simp; done) | (simp; omega)) (by first | (simp; done) | (simp; omega)))).trans (by simp [go_sem, y0, y1, y2, y3, y4, y5, y6, y7, y8, z0, z1, z2, z3, z4, z5, z6, z7, z8, gy, gz])
 have y1' : w2.cell? ⟨w.heap.size, 1, none⟩ = some (.int .i64 H.height) := (World.cell?_of_block (a := ⟨w.heap.size, 1, none⟩) (hg.block w.heap.size (by first | (simp; done) | (simp; omega)) (by first | (simp; done) | (simp; omega)))).trans (by simp [go_sem, y0, y1, y2, y3, y4, y5, y6, y7, y8, z0, z1, z2, z3, z4, z5, z6, z7, z8, gy, gz])
 have y2' : w2.cell? ⟨w.heap.size, 2, none⟩ = some (.string H.floor) := (World.cell?_of_block (a := ⟨w.heap.size, 2, none⟩) (hg.block w.heap.size (by first | (simp; done) | (simp; omega)) (by first | (simp; done) | (simp; omega)))).trans (by simp [go_sem, y0, y1, y2, y3, y4, y5, y6, y7, y8, z0, z1, z2, z3, z4, z5, z6, z7, z8, gy, gz])
 have y3' : w2.cell? ⟨w.heap.size, 3, none⟩ = some (.string H.ceil) := (World.cell?_of_block (a := ⟨w.heap.size, 3, none⟩) (hg.block w.heap.size (by first | (simp; done) | (simp; omega)) (by first | (simp; done) | (simp; omega)))).trans (by simp [go_sem, y0, y1, y2, y3, y4, y5, y6, y7, y8, z0, z1, z2, z3, z4, z5, z6, z7, z8, gy, gz])
 have y4' : w2.cell? ⟨w.heap.size, 4, none⟩ = some (.slice D4 H.mats.length e4) := (World.cell?_of_block (a := ⟨w.heap.size, 4, none⟩) (hg.block w.heap.size (by first | (simp; done) | (simp; omega)) (by first | (simp; done) | (simp; omega)))).trans (by simp [go_sem, y0, y1, y2, y3, y4, y5, y6, y7, y8, z0, z1, z2, z3, z4, z5, z6, z7, z8, gy, gz])
 have y5' : w2.cell? ⟨w.heap.size, 5, none⟩ = some (.slice A5 H.cors.length c5) := (World.cell?_of_block (a := ⟨w.heap.size, 5, none⟩) (hg.block w.heap.size (by first | (simp; done) | (simp; omega)) (by first | (simp; done) | (simp; omega)))).trans (by simp [go_sem, y0, y1, y2, y3, y4, y5, y6, y7, y8, z0, z1, z2, z3, z4, z5, z6, z7, z8, gy, gz])
 have y6' : w2.cell? ⟨w.heap.size, 6, none⟩ = some (.slice A6 H.wals.length c6) := (World.cell?_of_block (a := ⟨w.heap.size, 6, none⟩) (hg.block w.heap.size (by first | (simp; done) | (simp; omega)) (by first | (simp; done) | (simp; omega)))).trans (by simp [go_sem, y0, y1, y2, y3, y4, y5, y6, y7, y8, z0, z1, z2, z3, z4, z5, z6, z7, z8, gy, gz])
 have y7' : w2.cell? ⟨w.heap.size, 7, none⟩ = some (.slice A7 H.cans.length c7) := (World.cell?_of_block (a := ⟨w.heap.size, 7, none⟩) (hg.block w.heap.size (by first | (simp; done) | (simp; omega)) (by first | (simp; done) | (simp; omega)))).trans (by simp [go_sem, y0, y1, y2, y3, y4, y5, y6, y7, y8, z0, z1, z2, z3, z4, z5, z6, z7, z8, gy, gz])
 have y8' : w2.cell? ⟨w.heap.size, 8, none⟩ = some (.slice A8 H.seas.length c8) := (World.cell?_of_block (a := ⟨w.heap.size, 8, none⟩) (hg.block w.heap.size (by first | (simp; done) | (simp; omega)) (by first | (simp; done) | (simp; omega)))).trans (by simp [go_sem, y0, y1, y2, y3, y4, y5, y6, y7, y8, z0, z1, z2, z3, z4, z5, z6, z7, z8, gy, gz])
 have z0' : w2.cell? ⟨w.heap.size + 1, 0, none⟩ = some (.string ⟨#[]⟩) := (World.cell?_of_block (a := ⟨w.heap.size + 1, 0, none⟩) (hg.block (w.heap.size + 1) (by first | (simp; done) | (simp; omega)) (by first | (simp; done) | (simp; omega)))).trans (by simp [go_sem, y0, y1, y2, y3, y4, y5, y6, y7, y8, z0, z1, z2, z3, z4, z5, z6, z7, z8, gy, gz])
 have z1' : w2.cell? ⟨w.heap.size + 1, 1, none⟩ = some (.int .i64 0) := (World.cell?_of_block (a := ⟨w.heap.size + 1, 1, none⟩) (hg.block (w.heap.size + 1) (by first | (simp; done) | (simp; omega)) (by first | (simp; done) | (simp; omega)))).trans (by simp [go_sem, y0, y1, y2, y3, y4, y5, y6, y7, y8, z0, z1, z2, z3, z4, z5, z6, z7, z8, gy, gz])
 have z2' : w2.cell? ⟨w.heap.size + 1, 2, none⟩ = some (.string ⟨#[]⟩) := (World.cell?_of_block (a := ⟨w.heap.size + 1, 2, none⟩) (hg.block (w.heap.size + 1) (by first | (simp; done) | (simp; omega)) (by first | (simp; done) | (simp; omega)))).trans (by simp [go_sem, y0, y1, y2, y3, y4, y5, y6, y7, y8, z0, z1, z2, z3, z4, z5, z6, z7, z8, gy, gz])
 have z3' : w2.cell? ⟨w.heap.size + 1, 3, none⟩ = some (.string ⟨#[]⟩) := (World.cell?_of_block (a := ⟨w.heap.size + 1, 3, none⟩) (hg.block (w.heap.size + 1) (by first | (simp; done) | (simp; omega)) (by first | (simp; done) | (simp; omega)))).trans (by simp [go_sem, y0, y1, y2, y3, y4, y5, y6, y7, y8, z0, z1, z2, z3, z4, z5, z6, z7, z8, gy, gz])
 have z4' : w2.cell? ⟨w.heap.size + 1, 4, none⟩ = some (.slice none 0 0) := (World.cell?_of_block (a := ⟨w.heap.size + 1, 4, none⟩) (hg.block (w.heap.size + 1) (by first | (simp; done) | (simp; omega)) (by first | (simp; done) | (simp; omega)))).trans (by simp [go_sem, y0, y1, y2, y3, y4, y5, y6, y7, y8, z0, z1, z2, z3, z4, z5, z6, z7, z8, gy, gz])
 have z5' : w2.cell? ⟨w.heap.size + 1, 5, none⟩ = some (.slice none 0 0) := (World.cell?_of_block (a := ⟨w.heap.size + 1, 5, none⟩) (hg.block (w.heap.size + 1) (by first | (simp; done) | (simp; omega)) (by first | (simp; done) | (simp; omega)))).trans (by simp [go_sem, y0, y1, y2, y3, y4, y5, y6, y7, y8, z0, z1, z2, z3, z4, z5, z6, z7, z8, gy, gz])
 have z6' : w2.cell? ⟨w.heap.size + 1, 6, none⟩ = some (.slice none 0 0) := (World.cell?_of_block (a := ⟨w.heap.size + 1, 6, none⟩) (hg.block (w.heap.size + 1) (by first | (simp; done) | (simp; omega)) (by first | (simp; done) | (simp; omega)))).trans (by simp [go_sem, y0, y1, y2, y3, y4, y5, y6, y7, y8, z0, z1, z2, z3, z4, z5, z6, z7, z8, gy, gz])
 have z7' : w2.cell? ⟨w.heap.size + 1, 7, none⟩ = some (.slice none 0 0) := (World.cell?_of_block (a := ⟨w.heap.size + 1, 7, none⟩) (hg.block (w.heap.size + 1) (by first | (simp; done) | (simp; omega)) (by first | (simp; done) | (simp; omega)))).trans (by simp [go_sem, y0, y1, y2, y3, y4, y5, y6, y7, y8, z0, z1, z2, z3, z4, z5, z6, z7, z8, gy, gz])
 have z8' : w2.cell? ⟨w.heap.size + 1, 8, none⟩ = some (.slice none 0 0) := (World.cell?_of_block (a := ⟨w.heap.size + 1, 8, none⟩) (hg.block (w.heap.size + 1) (by first | (simp; done) | (simp; omega)) (by first | (simp; done) | (simp; omega)))).trans (by simp [go_sem, y0, y1, y2, y3, y4, y5, y6, y7, y8, z0, z1, z2, z3, z4, z5, z6, z7, z8, gy, gz])
 have yf' : ∀ i, w2.frozen? ⟨w.heap.size, i, none⟩ = false := fun i => (World.frozen?_of_block (a := ⟨w.heap.size, i, none⟩) (hg.block w.heap.size (by first | (simp; done) | (simp; omega)) (by first | (simp; done) | (simp; omega)))).trans (by simp [go_sem, yf, zf, gy, gz])
 have zf' : ∀ i, w2.frozen? ⟨w.heap.size + 1, i, none⟩ = false := fun i => (World.frozen?_of_block (a := ⟨w.heap.size + 1, i, none⟩) (hg.block (w.heap.size + 1) (by first | (simp; done) | (simp; omega)) (by first | (simp; done) | (simp; omega)))).trans (by simp [go_sem, yf, zf, gy, gz])
 replace hS4 := hS4.later (fun _ _ _ _ _ h => h) hF4 (by omega) hg
 replace hF5 : FromB (w.heap.size + 2) (.slice D5 H.cors.length e5) := fun g o s n c he => by have := hF5 g o s n c he; omega
 clear hg hP1 hX5 hO5 hB1 y0 y1 y2 y3 y4 y5 y6 y7 y8 z0 z1 z2 z3 z4 z5 z6 z7 z8 yf zf gy gz yq
 have y0 := y0'; have z0 := z0'; clear y0' z0'
 have y1 := y1'; have z1 := z1'; clear y1' z1'
 have y2 := y2'; have z2 := z2'; clear y2' z2'
 have y3 := y3'; have z3 := z3'; clear y3' z3'
 have y4 := y4'; have z4 := z4'; clear y4' z4'
 have y5 := y5'; have z5 := z5'; clear y5' z5'
 have y6 := y6'; have z6 := z6'; clear y6' z6'
 have y7 := y7'; have z7 := z7'; clear y7' z7'
 have y8 := y8'; have z8 := z8'; clear y8' z8'
 have yf := yf'; have zf := zf'; clear yf' zf'
 have gy := has_of_cell y0; have gz := has_of_cell z0
 have yq := yf 5
 have hP2 : Below w.heap.size w ((w2.setCell ⟨w.heap.size, 5, none⟩ (.slice D5 H.cors.length e5)).alloc (.cells #[] 50)) := by (repeat' first | with_reducible (first | apply bz0 | assumption | apply bz1 | apply bz2 | apply bz3 | apply bz4 | apply bz5) | (simp <;> omega))
 have hX6 := hO6.below hP2
 go_wp2_with (first
  | (at_builtin; refine wpList_append_slc rfl _ _ 24 rfl 50 i6 (.agg #[.string .empty, .string .empty, .string .empty]) 48 u_wals hi6 hz6 ha6 hb6 rfl (by decide) encWal_1 encWal_2 (fun _ _ => rfl) (w2.heap.size) rfl ?c1 A6 _ c6 H.wals rfl hX6 (by decide) ?_))
 case c1 => have h := World.alloc_heap_new (w2.setCell ⟨w.heap.size, 5, none⟩ (.slice D5 H.cors.length e5)) (.cells #[] 50); rw [show (w2.setCell ⟨w.heap.size, 5, none⟩ (.slice D5 H.cors.length e5)).heap.size = w2.heap.size by simp] at h; exact h
 intro u6 w3 hS6 hF6 hg
 obtain ⟨D6, e6, rfl, hS6'⟩ := slc_form hS6; clear hS6; have hS6 := hS6'; clear hS6'
 have hs3 := hg.size
 simp at hs3
 have hB3 : Below w.heap.size w w3 := Below.grown hP2 hg (by first | (simp; done) | (simp; omega)) (fun k hk => by cases hk; omega)
 have y0' : w3.cell? ⟨w.heap.size, 0, none⟩ = some (.string H.name) := (World.cell?_of_block (a := ⟨w.heap.size, 0, none⟩) (hg.block w.heap.size (by first | (simp; done) | (simp; omega)) (by first | (simp; done) | (simp; omega)))).trans (by simp [go_sem, y0, y1, y2, y3, y4, y5, y6, y7, y8, z0, z1, z2, z3, z4, z5, z6, z7, z8, gy, gz])
 have y1' : w3.cell? ⟨w.heap.size, 1, none⟩ = some (.int .i64 H.height) := (World.cell?_of_block (a := ⟨w.heap.size, 1, none⟩) (hg.block w.heap.size (by first | (simp; done) | (simp; omega)) (by first | (simp; done) | (simp; omega)))).trans (by simp [go_sem, y0, y1, y2, y3, y4, y5, y6, y7, y8, z0, z1, z2, z3, z4, z5, z6, z7, z8, gy, gz])
 have y2' : w3.cell? ⟨w.heap.size, 2, none⟩ = some (.string H.floor) := (World.cell?_of_block (a := ⟨w.heap.size, 2, none⟩) (hg.block w.heap.size (by first | (simp; done) | (simp; omega)) (by first | (simp; done) | (simp; omega)))).trans (by simp [go_sem, y0, y1, y2, y3, y4, y5, y6, y7, y8, z0, z1, z2, z3, z4, z5, z6, z7, z8, gy, gz])
 have y3' : w3.cell? ⟨w.heap.size, 3, none⟩ = some (.string H.ceil) := (World.cell?_of_block (a := ⟨w.heap.size, 3, none⟩) (hg.block w.heap.size (by first | (simp; done) | (simp; omega)) (by first | (simp; done) | (simp; omega)))).trans (by simp [go_sem, y0, y1, y2, y3, y4, y5, y6, y7, y8, z0, z1, z2, z3, z4, z5, z6, z7, z8, gy, gz])
 have y4' : w3.cell? ⟨w.heap.size, 4, none⟩ = some (.slice D4 H.mats.length e4) := (World.cell?_of_block (a := ⟨w.heap.size, 4, none⟩) (hg.block w.heap.size (by first | (simp; done) | (simp; omega)) (by first | (simp; done) | (simp; omega)))).trans (by simp [go_sem, y0, y1, y2, y3, y4, y5, y6, y7, y8, z0, z1, z2, z3, z4, z5, z6, z7, z8, gy, gz])
 have y5' : w3.cell? ⟨w.heap.size, 5, none⟩ = some (.slice D5 H.cors.length e5) := (World.cell?_of_block (a := ⟨w.heap.size, 5, none⟩) (hg.block w.heap.size (by first | (simp; done) | (simp; omega)) (by first | (simp; done) | (simp; omega)))).trans (by simp [go_sem, y0, y1, y2, y3, y4, y5, y6, y7, y8, z0, z1, z2, z3, z4, z5, z6, z7, z8, gy, gz])
 have y6' : w3.cell? ⟨w.heap.size, 6, none⟩ = some (.slice A6 H.wals.length c6) := (World.cell?_of_block (a := ⟨w.heap.size, 6, none⟩) (hg.block w.heap.size (by first | (simp; done) | (simp; omega)) (by first | (simp; done) | (simp; omega)))).trans (by simp [go_sem, y0, y1, y2, y3, y4, y5, y6, y7, y8, z0, z1, z2, z3, z4, z5, z6, z7, z8, gy, gz])
 have y7' : w3.cell? ⟨w.heap.size, 7, none⟩ = some (.slice A7 H.cans.length c7) := (World.cell?_of_block (a := ⟨w.heap.size, 7, none⟩) (hg.block w.heap.size (by first | (simp; done) | (simp; omega)) (by first | (simp; done) | (simp; omega)))).trans (by simp [go_sem, y0, y1, y2, y3, y4, y5, y6, y7, y8, z0, z1, z2, z3, z4, z5, z6, z7, z8, gy, gz])
 have y8' : w3.cell? ⟨w.heap.size, 8, none⟩ = some (.slice A8 H.seas.length c8) := (World.cell?_of_block (a := ⟨w.heap.size, 8, none⟩) (hg.block w.heap.size (by first | (simp; done) | (simp; omega)) (by first | (simp; done) | (simp; omega)))).trans (by simp [go_sem, y0, y1, y2, y3, y4, y5, y6, y7, y8, z0, z1, z2, z3, z4, z5, z6, z7, z8, gy, gz])
 have z0' : w3.cell? ⟨w.heap.size + 1, 0, none⟩ = some (.string ⟨#[]⟩) := (World.cell?_of_block (a := ⟨w.heap.size + 1, 0, none⟩) (hg.block (w.heap.size + 1) (by first | (simp; done) | (simp; omega)) (by first | (simp; done) | (simp; omega)))).trans (by simp [go_sem, y0, y1, y2, y3, y4, y5, y6, y7, y8, z0, z1, z2, z3, z4, z5, z6, z7, z8, gy, gz])
 have z1' : w3.cell? ⟨w.heap.size + 1, 1, none⟩ = some (.int .i64 0) := (World.cell?_of_block (a := ⟨w.heap.size + 1, 1, none⟩) (hg.block (w.heap.size + 1) (by first | (simp; done) | (simp; omega)) (by first | (simp; done) | (simp; omega)))).trans (by simp [go_sem, y0, y1, y2, y3, y4, y5, y6, y7, y8, z0, z1, z2, z3, z4, z5, z6, z7, z8, gy, gz])
 have z2' : w3.cell? ⟨w.heap.size + 1, 2, none⟩ = some (.string ⟨#[]⟩) := (World.cell?_of_block (a := ⟨w.heap.size + 1, 2, none⟩) (hg.block (w.heap.size + 1) (by first | (simp; done) | (simp; omega)) (by first | (simp; done) | (simp; omega)))).trans (by simp [go_sem, y0, y1, y2, y3, y4, y5, y6, y7, y8, z0, z1, z2, z3, z4, z5, z6, z7, z8, gy, gz])
 have z3' : w3.cell? ⟨w.heap.size + 1, 3, none⟩ = some (.string ⟨#[]⟩) := (World.cell?_of_block (a := ⟨w.heap.size + 1, 3, none⟩) (hg.block (w.heap.size + 1) (by first | (simp; done) | (simp; omega)) (by first | (simp; done) | (simp; omega)))).trans (by simp [go_sem, y0, y1, y2, y3, y4, y5, y6, y7, y8, z0, z1, z2, z3, z4, z5, z6, z7, z8, gy, gz])
 have z4' : w3.cell? ⟨w.heap.size + 1, 4, none⟩ = some (.slice none 0 0) := (World.cell?_of_block (a := ⟨w.heap.size + 1, 4, none⟩) (hg.block (w.heap.size + 1) (by first | (simp; done) | (simp; omega)) (by first | (simp; done) | (simp; omega)))).trans (by simp [go_sem, y0, y1, y2, y3, y4, y5, y6, y7, y8, z0, z1, z2, z3, z4, z5, z6, z7, z8, gy, gz])
 have z5' : w3.cell? ⟨w.heap.size + 1, 5, none⟩ = some (.slice none 0 0) := (World.cell?_of_block (a := ⟨w.heap.size + 1, 5, none⟩) (hg.block (w.heap.size + 1) (by first | (simp; done) | (simp; omega)) (by first | (simp; done) | (simp; omega)))).trans (by simp [go_sem, y0, y1, y2, y3, y4, y5, y6, y7, y8, z0, z1, z2, z3, z4, z5, z6, z7, z8, gy, gz])
 have z6' : w3.cell? ⟨w.heap.size + 1, 6, none⟩ = some (.slice none 0 0) := (World.cell?_of_block (a := ⟨w.heap.size + 1, 6, none⟩) (hg.block (w.heap.size + 1) (by first | (simp; done) | (simp; omega)) (by first | (simp; done) | (simp; omega)))).trans (by simp [go_sem, y0, y1, y2, y3, y4, y5, y6, y7, y8, z0, z1, z2, z3, z4, z5, z6, z7, z8, gy, gz])
 have z7' : w3.cell? ⟨w.heap.size + 1, 7, none⟩ = some (.slice none 0 0) := (World.cell?_of_block (a := ⟨w.heap.size + 1, 7, none⟩) (hg.block (w.heap.size + 1) (by first | (simp; done) | (simp; omega)) (by first | (simp; done) | (simp; omega)))).trans (by simp [go_sem, y0, y1, y2, y3, y4, y5, y6, y7, y8, z0, z1, z2, z3, z4, z5, z6, z7, z8, gy, gz])
 have z8' : w3.cell? ⟨w.heap.size + 1, 8, none⟩ = some (.slice none 0 0) := (World.cell?_of_block (a := ⟨w.heap.size + 1, 8, none⟩) (hg.block (w.heap.size + 1) (by first | (simp; done) | (simp; omega)) (by first | (simp; done) | (simp; omega)))).trans (by simp [go_sem, y0, y1, y2, y3, y4, y5, y6, y7, y8, z0, z1, z2, z3, z4, z5, z6, z7, z8, gy, gz])
 have yf' : ∀ i, w3.frozen? ⟨w.heap.size, i, none⟩ = false := fun i => (World.frozen?_of_block (a := ⟨w.heap.size, i, none⟩) (hg.block w.heap.size (by first | (simp; done) | (simp; omega)) (by first | (simp; done) | (simp; omega)))).trans (by simp [go_sem, yf, zf, gy, gz])
 have zf' : ∀ i, w3.frozen? ⟨w.heap.size + 1, i, none⟩ = false := fun i => (World.frozen?_of_block (a := ⟨w.heap.size + 1, i, none⟩) (hg.block (w.heap.size + 1) (by first | (simp; done) | (simp; omega)) (by first | (simp; done) | (simp; omega)))).trans (by simp [go_sem, yf, zf, gy, gz])
 replace hS4 := hS4.later (fun _ _ _ _ _ h => h) hF4 (by omega) hg
 replace hS5 := hS5.later (fun _ _ _ _ _ h => h) hF5 (by omega) hg
 replace hF6 : FromB (w.heap.size + 2) (.slice D6 H.wals.length e6) := fun g o s n c he => by have := hF6 g o s n c he; omega
 clear hg hP2 hX6 hO6 hB2 y0 y1 y2 y3 y4 y5 y6 y7 y8 z0 z1 z2 z3 z4 z5 z6 z7 z8 yf zf gy gz yq
 have y0 := y0'; have z0 := z0'; clear y0' z0'
 have y1 := y1'; have z1 := z1'; clear y1' z1'
 have y2 := y2'; have z2 := z2'; clear y2' z2'
 have y3 := y3'; have z3 := z3'; clear y3' z3'
 have y4 := y4'; have z4 := z4'; clear y4' z4'
 have y5 := y5'; have z5 := z5'; clear y5' z5'
 have y6 := y6'; have z6 := z6'; clear y6' z6'
 have y7 := y7'; have z7 := z7'; clear y7' z7'
 have y8 := y8'; have z8 := z8'; clear y8' z8'
 have yf := yf'; have zf := zf'; clear yf' zf'
 have gy := has_of_cell y0; have gz := has_of_cell z0
 have yq := yf 6
 have hP3 : Below w.heap.size w ((w3.setCell ⟨w.heap.size, 6, none⟩ (.slice D6 H.wals.length e6)).alloc (.cells #[] 124)) := by (repeat' first | with_reducible (first | apply bz0 | assumption | apply bz1 | apply bz2 | apply bz3 | apply bz4 | apply bz5) | (simp <;> omega))
 have hX8 := hO8.below hP3
 go_wp2_with (first
  | (at_builtin; refine wpList_append_slc rfl _ _ 26 rfl 124 i8 (.agg #[.string .empty, .int .i64 0, .int .i64 0, .int .i64 0]) 40 u_seas hi8 hz8 ha8 hb8 rfl (by decide) encSea_1 encSea_2 fSea_one (w3.heap.size) rfl ?c1 A8 _ c8 H.seas rfl hX8 (by decide) ?_))
 case c1 => have h := World.alloc_heap_new (w3.setCell ⟨w.heap.size, 6, none⟩ (.slice D6 H.wals.length e6)) (.cells #[] 124); rw [show (w3.setCell ⟨w.heap.size, 6, none⟩ (.slice D6 H.wals.length e6)).heap.size = w3.heap.size by simp] at h; exact h
 intro u8 w4 hS8 hF8 hg
 obtain ⟨D8, e8, rfl, hS8'⟩ := slc_form hS8; clear hS8; have hS8 := hS8'; clear hS8'
 have hs4 := hg.size
 simp at hs4
 have hB4 : Below w.heap.size w w4 := Below.grown hP3 hg (by first | (simp; done) | (simp; omega)) (fun k hk => by cases hk; omega)
 have y0' : w4.cell? ⟨w.heap.size, 0, none⟩ = some (.string H.name) := (World.cell?_of_block (a := ⟨w.heap.size, 0, none⟩) (hg.block w.heap.size (by first | (simp; done) | (simp; omega)) (by first | (simp; done) | (simp; omega)))).trans (by simp [go_sem, y0, y1, y2, y3, y4, y5, y6, y7, y8, z0, z1, z2, z3, z4, z5, z6, z7, z8, gy, gz])
 have y1' : w4.cell? ⟨w.heap.size, 1, none⟩ = some (.int .i64 H.height) := (World.cell?_of_block (a := ⟨w.heap.size, 1, none⟩) (hg.block w.heap.size (by first | (simp; done) | (simp; omega)) (by first | (simp; done) | (simp; omega)))).trans (by simp [go_sem, y0, y1, y2, y3, y4, y5, y6, y7, y8, z0, z1, z2, z3, z4, z5, z6, z7, z8, gy, gz])
 have y2' : w4.cell? ⟨w.heap.size, 2, none⟩ = some (.string H.floor) := (World.cell?_of_block (a := ⟨w.heap.size, 2, none⟩) (hg.block w.heap.size (by first | (simp; done) | (simp; omega)) (by first | (simp; done) | (simp; omega)))).trans (by simp [go_sem, y0, y1, y2, y3, y4, y5, y6, y7, y8, z0, z1, z2, z3, z4, z5, z6, z7, z8, gy, gz])
 have y3' : w4.cell? ⟨w.heap.size, 3, none⟩ = some (.string H.ceil) := (World.cell?_of_block (a := ⟨w.heap.size, 3, none⟩) (hg.block w.heap.size (by first | (simp; done) | (simp; omega)) (by first | (simp; done) | (simp; omega)))).trans (by simp [go_sem, y0, y1, y2, y3, y4, y5, y6, y7, y8, z0, z1, z2, z3, z4, z5, z6, z7, z8, gy, gz])
 have y4' : w4.cell? ⟨w.heap.size, 4, none⟩ = some (.slice D4 H.mats.length e4) := (World.cell?_of_block (a := ⟨w.heap.size, 4, none⟩) (hg.block w.heap.size (by first | (simp; done) | (simp; omega)) (by first | (simp; done) | (simp; omega)))).trans (by simp [go_sem, y0, y1, y2, y3, y4, y5, y6, y7, y8, z0, z1, z2, z3, z4, z5, z6, z7, z8, gy, gz])
 have y5' : w4.cell? ⟨w.heap.size, 5, none⟩ = some (.slice D5 H.cors.length e5) := (World.cell?_of_block (a := ⟨w.heap.size, 5, none⟩) (hg.block w.heap.size (by first | (simp; done) | (simp; omega)) (by first | (simp; done) | (simp; omega)))).trans (by simp [go_sem, y0, y1, y2, y3, y4, y5, y6, y7, y8, z0, z1, z2, z3, z4, z5, z6, z7, z8, gy, gz])
 have y6' : w4.cell? ⟨w.heap.size, 6, none⟩ = some (.slice D6 H.wals.length e6) := (World.cell?_of_block (a := ⟨w.heap.size, 6, none⟩) (hg.block w.heap.size (by first | (simp; done) | (simp; omega)) (by first | (simp; done) | (simp; omega)))).trans (by simp [go_sem, y0, y1, y2, y3, y4, y5, y6, y7, y8, z0, z1, z2, z3, z4, z5, z6, z7, z8, gy, gz])
 have y7' : w4.cell? ⟨w.heap.size, 7, none⟩ = some (.slice A7 H.cans.length c7) := (World.cell?_of_block (a := ⟨w.heap.size, 7, none⟩) (hg.block w.heap.size (by first | (simp; done) | (simp; omega)) (by first | (simp; done) | (simp; omega)))).trans (by simp [go_sem, y0, y1, y2, y3, y4, y5, y6, y7, y8, z0, z1, z2, z3, z4, z5, z6, z7, z8, gy, gz])
 have y8' : w4.cell? ⟨w.heap.size, 8, none⟩ = some (.slice A8 H.seas.length c8) := (World.cell?_of_block (a := ⟨w.heap.size, 8, none⟩) (hg.block w.heap.size (by first | (simp; done) | (simp; omega)) (by first | (simp; done) | (simp; omega)))).trans (by simp [go_sem, y0, y1, y2, y3, y4, y5, y6, y7, y8, z0, z1, z2, z3, z4, z5, z6, z7, z8, gy, gz])
 have z0' : w4.cell? ⟨w.heap.size + 1, 0, none⟩ = some (.string ⟨#[]⟩) := (World.cell?_of_block (a := ⟨w.heap.size + 1, 0, none⟩) (hg.block (w.heap.size + 1) (by first | (simp; done) | (simp; omega)) (by first | (simp; done) | (simp; omega)))).trans (by simp [go_sem, y0, y1, y2, y3, y4, y5, y6, y7, y8, z0, z1, z2, z3, z4, z5, z6, z7, z8, gy, gz])
 have z1' : w4.cell? ⟨w.heap.size + 1, 1, none⟩ = some (.int .i64 0) := (World.cell?_of_block (a := ⟨w.heap.size + 1, 1, none⟩) (hg.block (w.heap.size + 1) (by first | (simp; done) | (simp; omega)) (by first | (simp; done) | (simp; omega)))).trans (by simp [go_sem, y0, y1, y2, y3, y4, y5, y6, y7, y8, z0, z1, z2, z3, z4, z5, z6, z7, z8, gy, gz])
 have z2' : w4.cell? ⟨w.heap.size + 1, 2, none⟩ = some (.string ⟨#[]⟩) := (World.cell?_of_block (a := ⟨w.heap.size + 1, 2, none⟩) (hg.block (w.heap.size + 1) (by first | (simp; done) | (simp; omega)) (by first | (simp; done) | (simp; omega)))).trans (by simp [go_sem, y0, y1, y2, y3, y4, y5, y6, y7, y8, z0, z1, z2, z3, z4, z5, z6, z7, z8, gy, gz])
 have z3' : w4.cell? ⟨w.heap.size + 1, 3, none⟩ = some (.string ⟨#[]⟩) := (World.cell?_of_block (a := ⟨w.heap.size + 1, 3, none⟩) (hg.block (w.heap.size + 1) (by first | (simp; done) | (simp; omega)) (by first | (simp; done) | (simp; omega)))).trans (by simp [go_sem, y0, y1, y2, y3, y4, y5, y6, y7, y8, z0, z1, z2, z3, z4, z5, z6, z7, z8, gy, gz])
 have z4' : w4.cell? ⟨w.heap.size + 1, 4, none⟩ = some (.slice none 0 0) := (World.cell?_of_block (a := ⟨w.heap.size + 1, 4, none⟩) (hg.block (w.heap.size + 1) (by first | (simp; done) | (simp; omega)) (by first | (simp; done) | (simp; omega)))).trans (by simp [go_sem, y0, y1, y2, y3, y4, y5, y6, y7, y8, z0, z1, z2, z3, z4, z5, z6, z7, z8, gy, gz])
 have z5' : w4.cell? ⟨w.heap.size + 1, 5, none⟩ = some (.slice none 0 0) := (World.cell?_of_block (a := ⟨w.heap.size + 1, 5, none⟩) (hg.block (w.heap.size + 1) (by first | (simp; done) | (simp; omega)) (by first | (simp; done) | (simp; omega)))).trans (by simp [go_sem, y0, y1, y2, y3, y4, y5, y6, y7, y8, z0, z1, z2, z3, z4, z5, z6, z7, z8, gy, gz])
 have z6' : w4.cell? ⟨w.heap.size + 1, 6, none⟩ = some (.slice none 0 0) := (World.cell?_of_block (a := ⟨w.heap.size + 1, 6, none⟩) (hg.block (w.heap.size + 1) (by first | (simp; done) | (simp; omega)) (by first | (simp; done) | (simp; omega)))).trans (by simp [go_sem, y0, y1, y2, y3, y4, y5, y6, y7, y8, z0, z1, z2, z3, z4, z5, z6, z7, z8, gy, gz])
 have z7' : w4.cell? ⟨w.heap.size + 1, 7, none⟩ = some (.slice none 0 0) := (World.cell?_of_block (a := ⟨w.heap.size + 1, 7, none⟩) (hg.block (w.heap.size + 1) (by first | (simp; done) | (simp; omega)) (by first | (simp; done) | (simp; omega)))).trans (by simp [go_sem, y0, y1, y2, y3, y4, y5, y6, y7, y8, z0, z1, z2, z3, z4, z5, z6, z7, z8, gy, gz])
 have z8' : w4.cell? ⟨w.heap.size + 1, 8, none⟩ = some (.slice none 0 0) := (World.cell?_of_block (a := ⟨w.heap.size + 1, 8, none⟩) (hg.block (w.heap.size + 1) (by first | (simp; done) | (simp; omega)) (by first | (simp; done) | (simp; omega)))).trans (by simp [go_sem, y0, y1, y2, y3, y4, y5, y6, y7, y8, z0, z1, z2, z3, z4, z5, z6, z7, z8, gy, gz])
 have yf' : ∀ i, w4.frozen? ⟨w.heap.size, i, none⟩ = false := fun i => (World.frozen?_of_block (a := ⟨w.heap.size, i, none⟩) (hg.block w.heap.size (by first | (simp; done) | (simp; omega)) (by first | (simp; done) | (simp; omega)))).trans (by simp [go_sem, yf, zf, gy, gz])
 have zf' : ∀ i, w4.frozen? ⟨w.heap.size + 1, i, none⟩ = false := fun i => (World.frozen?_of_block (a := ⟨w.heap.size + 1, i, none⟩) (hg.block (w.heap.size + 1) (by first | (simp; done) | (simp; omega)) (by first | (simp; done) | (simp; omega)))).trans (by simp [go_sem, yf, zf, gy, gz])
 replace hS4 := hS4.later (fun _ _ _ _ _ h => h) hF4 (by omega) hg
 replace hS5 := hS5.later (fun _ _ _ _ _ h => h) hF5 (by omega) hg
 replace hS6 := hS6.later (fun _ _ _ _ _ h => h) hF6 (by omega) hg
 replace hF8 : FromB (w.heap.size + 2) (.slice D8 H.seas.length e8) := fun g o s n c he => by have := hF8 g o s n c he; omega
 clear hg hP3 hX8 hO8 hB3 y0 y1 y2 y3 y4 y5 y6 y7 y8 z0 z1 z2 z3 z4 z5 z6 z7 z8 yf zf gy gz yq
 have y0 := y0'; have z0 := z0'; clear y0' z0'
 have y1 := y1'; have z1 := z1'; clear y1' z1'
 have y2 := y2'; have z2 := z2'; clear y2' z2'
 have y3 := y3'; have z3 := z3'; clear y3' z3'
 have y4 := y4'; have z4 := z4'; clear y4' z4'
 have y5 := y5'; have z5 := z5'; clear y5' z5'
 have y6 := y6'; have z6 := z6'; clear y6' z6'
 have y7 := y7'; have z7 := z7'; clear y7' z7'
 have y8 := y8'; have z8 := z8'; clear y8' z8'
 have yf := yf'; have zf := zf'; clear yf' zf'
 have gy := has_of_cell y0; have gz := has_of_cell z0
 have yq := yf 8
 go_wp2
 generalize hY : World.setCell _ _ _ = Y
 have y0' : Y.cell? ⟨w.heap.size, 0, none⟩ = some (.string H.name) := by rw [← hY]; simp [go_sem, y0, y1, y2, y3, y4, y5, y6, y7, y8, z0, z1, z2, z3, z4, z5, z6, z7, z8, gy, gz, yf, zf]
 have y1' : Y.cell? ⟨w.heap.size, 1, none⟩ = some (.int .i64 H.height) := by rw [← hY]; simp [go_sem, y0, y1, y2, y3, y4, y5, y6, y7, y8, z0, z1, z2, z3, z4, z5, z6, z7, z8, gy, gz, yf, zf]
 have y2' : Y.cell? ⟨w.heap.size, 2, none⟩ = some (.string H.floor) := by rw [← hY]; simp [go_sem, y0, y1, y2, y3, y4, y5, y6, y7, y8, z0, z1, z2, z3, z4, z5, z6, z7, z8, gy, gz, yf, zf]
 have y3' : Y.cell? ⟨w.heap.size, 3, none⟩ = some (.string H.ceil) := by rw [← hY]; simp [go_sem, y0, y1, y2, y3, y4, y5, y6, y7, y8, z0, z1, z2, z3, z4, z5, z6, z7, z8, gy, gz, yf, zf]
 have y4' : Y.cell? ⟨w.heap.size, 4, none⟩ = some (.slice D4 H.mats.length e4) := by rw [← hY]; simp [go_sem, y0, y1, y2, y3, y4, y5, y6, y7, y8, z0, z1, z2, z3, z4, z5, z6, z7, z8, gy, gz, yf, zf]
 have y5' : Y.cell? ⟨w.heap.size, 5, none⟩ = some (.slice D5 H.cors.length e5) := by rw [← hY]; simp [go_sem, y0, y1, y2, y3, y4, y5, y6, y7, y8, z0, z1, z2, z3, z4, z5, z6, z7, z8, gy, gz, yf, zf]
 have y6' : Y.cell? ⟨w.heap.size, 6, none⟩ = some (.slice D6 H.wals.length e6) := by rw [← hY]; simp [go_sem, y0, y1, y2, y3, y4, y5, y6, y7, y8, z0, z1, z2, z3, z4, z5, z6, z7, z8, gy, gz, yf, zf]
 have y7' : Y.cell? ⟨w.heap.size, 7, none⟩ = some (.slice A7 H.cans.length c7) := by rw [← hY]; simp [go_sem, y0, y1, y2, y3, y4, y5, y6, y7, y8, z0, z1, z2, z3, z4, z5, z6, z7, z8, gy, gz, yf, zf]
 have y8' : Y.cell? ⟨w.heap.size, 8, none⟩ = some (.slice D8 H.seas.length e8) := by rw [← hY]; simp [go_sem, y0, y1, y2, y3, y4, y5, y6, y7, y8, z0, z1, z2, z3, z4, z5, z6, z7, z8, gy, gz, yf, zf]
 have z0' : Y.cell? ⟨w.heap.size + 1, 0, none⟩ = some (.string ⟨#[]⟩) := by rw [← hY]; simp [go_sem, y0, y1, y2, y3, y4, y5, y6, y7, y8, z0, z1, z2, z3, z4, z5, z6, z7, z8, gy, gz, yf, zf]
 have z1' : Y.cell? ⟨w.heap.size + 1, 1, none⟩ = some (.int .i64 0) := by rw [← hY]; simp [go_sem, y0, y1, y2, y3, y4, y5, y6, y7, y8, z0, z1, z2, z3, z4, z5, z6, z7, z8, gy, gz, yf, zf]
 have z2' : Y.cell? ⟨w.heap.size + 1, 2, none⟩ = some (.string ⟨#[]⟩) := by rw [← hY]; simp [go_sem, y0, y1, y2, y3, y4, y5, y6, y7, y8, z0, z1, z2, z3, z4, z5, z6, z7, z8, gy, gz, yf, zf]
 have z3' : Y.cell? ⟨w.heap.size + 1, 3, none⟩ = some (.string ⟨#[]⟩) := by rw [← hY]; simp [go_sem, y0, y1, y2, y3, y4, y5, y6, y7, y8, z0, z1, z2, z3, z4, z5, z6, z7, z8, gy, gz, yf, zf]
 have z4' : Y.cell? ⟨w.heap.size + 1, 4, none⟩ = some (.slice none 0 0) := by rw [← hY]; simp [go_sem, y0, y1, y2, y3, y4, y5, y6, y7, y8, z0, z1, z2, z3, z4, z5, z6, z7, z8, gy, gz, yf, zf]
 have z5' : Y.cell? ⟨w.heap.size + 1, 5, none⟩ = some (.slice none 0 0) := by rw [← hY]; simp [go_sem, y0, y1, y2, y3, y4, y5, y6, y7, y8, z0, z1, z2, z3, z4, z5, z6, z7, z8, gy, gz, yf, zf]
 have z6' : Y.cell? ⟨w.heap.size + 1, 6, none⟩ = some (.slice none 0 0) := by rw [← hY]; simp [go_sem, y0, y1, y2, y3, y4, y5, y6, y7, y8, z0, z1, z2, z3, z4, z5, z6, z7, z8, gy, gz, yf, zf]
 have z7' : Y.cell? ⟨w.heap.size + 1, 7, none⟩ = some (.slice none 0 0) := by rw [← hY]; simp [go_sem, y0, y1, y2, y3, y4, y5, y6, y7, y8, z0, z1, z2, z3, z4, z5, z6, z7, z8, gy, gz, yf, zf]
 have z8' : Y.cell? ⟨w.heap.size + 1, 8, none⟩ = some (.slice none 0 0) := by rw [← hY]; simp [go_sem, y0, y1, y2, y3, y4, y5, y6, y7, y8, z0, z1, z2, z3, z4, z5, z6, z7, z8, gy, gz, yf, zf]
 have yf' : ∀ i, Y.frozen? ⟨w.heap.size, i, none⟩ = false := fun i => by rw [← hY]; simp [go_sem, yf, gy]
 have zf' : ∀ i, Y.frozen? ⟨w.heap.size + 1, i, none⟩ = false := fun i => by rw [← hY]; simp [go_sem, zf, gz]
 have hBY : Below w.heap.size w Y := by rw [← hY]; (repeat' first | with_reducible (first | apply bz0 | assumption | apply bz1 | apply bz2 | apply bz3 | apply bz4 | apply bz5) | (simp <;> omega))
 have hsY : w4.heap.size = Y.heap.size := by rw [← hY]; simp
 have hhY : ∀ g, w.heap.size + 2 ≤ g → Y.heap[g]? = w4.heap[g]? := fun g hg => by rw [← hY]; exact Below.heap_setCell _ _ _ _ (show g ≠ w.heap.size by omega)
 replace hS4 := hS4.block (fun _ _ _ _ _ h => h) (show _ ≤ Y.heap.size by omega) (fun g o s n c he _ => hhY g (hF4 g o s n c he))
 replace hS5 := hS5.block (fun _ _ _ _ _ h => h) (show _ ≤ Y.heap.size by omega) (fun g o s n c he _ => hhY g (hF5 g o s n c he))
 replace hS6 := hS6.block (fun _ _ _ _ _ h => h) (show _ ≤ Y.heap.size by omega) (fun g o s n c he _ => hhY g (hF6 g o s n c he))
 replace hS8 := hS8.block (fun _ _ _ _ _ h => h) (show _ ≤ Y.heap.size by omega) (fun g o s n c he _ => hhY g (hF8 g o s n c he))
 clear hY hhY hsY hB4 yq gy gz yf zf y0 y1 y2 y3 y4 y5 y6 y7 y8 z0 z1 z2 z3 z4 z5 z6 z7 z8
 have gy := has_of_cell y0'; have gz := has_of_cell z0'
 have hY2 : w.heap.size + 2 ≤ Y.heap.size := by have : w.heap.size + 1 < Y.heap.size := gz; omega
 obtain ⟨i7, hi7, hz7, ha7, hb7⟩ := info_parts info_can
 go_loopw [3, 4] (fun l i wr => ∃ k : Nat, ∃ vs : List Value, k ≤ H.cans.length ∧ i = .int .i64 k ∧ wr.ownsRow Y.heap.size 122 7 l k vs ∧ CansAt H Y.heap.size wr l k vs ∧ Below Y.heap.size Y wr) (fun _ i _ => H.cans.length - (intOf i).toNat)
 case atStart => exact ⟨0, [], Nat.zero_le _, rfl, World.ownsRow_nil _ _ _ _, CansAt.zero _ _ _ _, Below.refl _ _⟩
 case round =>
  obtain ⟨k, vs, hk, rfl, hown, hcan, hB⟩ := hrel
  have hBw : Below w.heap.size w wr := hBY.trans (hB.lower hBY.size)
  have hgs := hB.size
  obtain ⟨Al, cl, rfl⟩ := own_form hown
  replace y0' := cell_below hB gy y0'
  replace y1' := cell_below hB gy y1'
  replace y2' := cell_below hB gy y2'
  replace y3' := cell_below hB gy y3'
  replace y4' := cell_below hB gy y4'
  replace y5' := cell_below hB gy y5'
  replace y6' := cell_below hB gy y6'
  replace y7' := cell_below hB gy y7'
  replace y8' := cell_below hB gy y8'
  replace z0' := cell_below hB gz z0'
  replace z1' := cell_below hB gz z1'
  replace z2' := cell_below hB gz z2'
  replace z3' := cell_below hB gz z3'
  replace z4' := cell_below hB gz z4'
  replace z5' := cell_below hB gz z5'
  replace z6' := cell_below hB gz z6'
  replace z7' := cell_below hB gz z7'
  replace z8' := cell_below hB gz z8'
  replace yf' : ∀ i, wr.frozen? ⟨w.heap.size, i, none⟩ = false := fun i => (World.frozen?_of_block (a := ⟨w.heap.size, i, none⟩) (hB.block w.heap.size gy)).trans (yf' i)
  replace zf' : ∀ i, wr.frozen? ⟨w.heap.size + 1, i, none⟩ = false := fun i => (World.frozen?_of_block (a := ⟨w.heap.size + 1, i, none⟩) (hB.block (w.heap.size + 1) gz)).trans (zf' i)
  replace gy := has_of_cell y0'; replace gz := has_of_cell z0'
  have hlo := hown.lt
  rcases Nat.lt_or_ge k H.cans.length with hlt | hge
  · obtain ⟨g, o, rfl, hg, hcs⟩ := can_at (hO7.below hBw) hlt
    obtain ⟨k0, k1, k2, k3, k4, k5, A', c', k6, hHs⟩ := hcs k hlt
    have hHc : SlcAt encInt (wr.alloc (.cells #[.string (canAt H.cans k).name, .string (canAt H.cans k).mat, .int .i64 (canAt H.cans k).f.x, .int .i64 (canAt H.cans k).f.y, .int .i64 (canAt H.cans k).t.x, .int .i64 (canAt H.cans k).t.y, .slice A' (canAt H.cans k).hs.length c'] 122)) (.slice A' (canAt H.cans k).hs.length c') (canAt H.cans k).hs := hHs.below (by (repeat' first | with_reducible (first | apply bz0 | assumption | apply bz1 | apply bz2 | apply bz3 | apply bz4 | apply bz5) | (simp <;> omega)))
    have l7 := hO7.1
    clear hcs hO7
    go_wp2_with (first | (go_at_call 76; refine (CopyInts_any _ A' _ c' _ hHc).mono ?_))
    rintro e wm ⟨hBm, v, rfl, hSv, hFv, hFw⟩
    obtain ⟨Dv, ev, rfl, hSv'⟩ := slc_form hSv
    have hsm := hBm.size
    simp at hsm
    have n0 : wm.cell? ⟨wr.heap.size, 0, none⟩ = some (.string (canAt H.cans k).name) := (World.cell?_of_block (a := ⟨wr.heap.size, 0, none⟩) (hBm.block wr.heap.size (by simp))).trans (by simp [go_sem])
    have n1 : wm.cell? ⟨wr.heap.size, 1, none⟩ = some (.string (canAt H.cans k).mat) := (World.cell?_of_block (a := ⟨wr.heap.size, 1, none⟩) (hBm.block wr.heap.size (by simp))).trans (by simp [go_sem])
    have n2 : wm.cell? ⟨wr.heap.size, 2, none⟩ = some (.int .i64 (canAt H.cans k).f.x) := (World.cell?_of_block (a := ⟨wr.heap.size, 2, none⟩) (hBm.block wr.heap.size (by simp))).trans (by simp [go_sem])
    have n3 : wm.cell? ⟨wr.heap.size, 3, none⟩ = some (.int .i64 (canAt H.cans k).f.y) := (World.cell?_of_block (a := ⟨wr.heap.size, 3, none⟩) (hBm.block wr.heap.size (by simp))).trans (by simp [go_sem])
    have n4 : wm.cell? ⟨wr.heap.size, 4, none⟩ = some (.int .i64 (canAt H.cans k).t.x) := (World.cell?_of_block (a := ⟨wr.heap.size, 4, none⟩) (hBm.block wr.heap.size (by simp))).trans (by simp [go_sem])
    have n5 : wm.cell? ⟨wr.heap.size, 5, none⟩ = some (.int .i64 (canAt H.cans k).t.y) := (World.cell?_of_block (a := ⟨wr.heap.size, 5, none⟩) (hBm.block wr.heap.size (by simp))).trans (by simp [go_sem])
    have n6 : wm.cell? ⟨wr.heap.size, 6, none⟩ = some (.slice A' (canAt H.cans k).hs.length c') := (World.cell?_of_block (a := ⟨wr.heap.size, 6, none⟩) (hBm.block wr.heap.size (by simp))).trans (by simp [go_sem])
    have nf : wm.frozen? ⟨wr.heap.size, 6, none⟩ = false := (World.frozen?_of_block (a := ⟨wr.heap.size, 6, none⟩) (hBm.block wr.heap.size (by simp))).trans (by simp [go_sem])
    have gn := has_of_cell n0
    have hold : ∀ g, g < wr.heap.size → wm.heap[g]? = wr.heap[g]? := fun g hg => (hBm.block g (by simp; omega)).trans (heap_alloc_old _ _ hg)
    have hpre : ∀ g, g ≠ wr.heap.size → g < wm.heap.size → ((wm.setCell ⟨wr.heap.size, 6, none⟩ (.slice Dv (canAt H.cans k).hs.length ev)).alloc (.cells ([.string (canAt H.cans k).name, .string (canAt H.cans k).mat, .int .i64 (canAt H.cans k).f.x, .int .i64 (canAt H.cans k).f.y, .int .i64 (canAt H.cans k).t.x, .int .i64 (canAt H.cans k).t.y, .slice Dv (canAt H.cans k).hs.length ev] : List Value).toArray 122)).heap[g]? = wm.heap[g]? := fun g hn hg => (heap_alloc_old _ _ (by simp; omega)).trans (Below.heap_setCell _ _ _ _ hn)
    have hBp : Below Y.heap.size Y ((wm.setCell ⟨wr.heap.size, 6, none⟩ (.slice Dv (canAt H.cans k).hs.length ev)).alloc (.cells ([.string (canAt H.cans k).name, .string (canAt H.cans k).mat, .int .i64 (canAt H.cans k).f.x, .int .i64 (canAt H.cans k).f.y, .int .i64 (canAt H.cans k).t.x, .int .i64 (canAt H.cans k).t.y, .slice Dv (canAt H.cans k).hs.length ev] : List Value).toArray 122)) := by have hq : Below Y.heap.size Y wm := (hB.alloc (by omega) _).trans (hBm.lower (by simp; omega)); (repeat' first | with_reducible (first | apply bz0 | assumption | apply bz1 | apply bz2 | apply bz3 | apply bz4 | apply bz5) | (simp <;> omega))
    have hownp := own_same (w' := ((wm.setCell ⟨wr.heap.size, 6, none⟩ (.slice Dv (canAt H.cans k).hs.length ev)).alloc (.cells ([.string (canAt H.cans k).name, .string (canAt H.cans k).mat, .int .i64 (canAt H.cans k).f.x, .int .i64 (canAt H.cans k).f.y, .int .i64 (canAt H.cans k).t.x, .int .i64 (canAt H.cans k).t.y, .slice Dv (canAt H.cans k).hs.length ev] : List Value).toArray 122))) hown (fun g hg hlt => (hpre g (by omega) (by omega)).trans (hold g hlt))
    clear hBm k0 k1 k2 k3 k4 k5 k6 hHs hHc
    go_wp2_with (first | (at_builtin; refine wpList_append_own_at _ rfl _ _ 25 rfl Y.heap.size 122 i7 _ 7 88 u_cans hi7 hz7 ha7 hb7 rfl (by decide) _ _ _ rfl hownp ⟨wm.heap.size, 0, none⟩ 1 1 [.string (canAt H.cans k).name, .string (canAt H.cans k).mat, .int .i64 (canAt H.cans k).f.x, .int .i64 (canAt H.cans k).f.y, .int .i64 (canAt H.cans k).t.x, .int .i64 (canAt H.cans k).t.y, .slice Dv (canAt H.cans k).hs.length ev] rfl rfl ?c1 ?c2 ?c3 ?c4 ?c5 ?_))
    case c1 => have h := cells_new (wm.setCell ⟨wr.heap.size, 6, none⟩ (.slice Dv (canAt H.cans k).hs.length ev)) [.string (canAt H.cans k).name, .string (canAt H.cans k).mat, .int .i64 (canAt H.cans k).f.x, .int .i64 (canAt H.cans k).f.y, .int .i64 (canAt H.cans k).t.x, .int .i64 (canAt H.cans k).t.y, .slice Dv (canAt H.cans k).hs.length ev] 122; rw [show (wm.setCell ⟨wr.heap.size, 6, none⟩ (.slice Dv (canAt H.cans k).hs.length ev)).heap.size = wm.heap.size by simp] at h; exact h
    case c2 => intro u hu; simp at hu; rcases hu with rfl | rfl | rfl | rfl | rfl | rfl | rfl <;> rfl
    case c3 => unfold maxLen; omega
    case c4 => omega
    case c5 => simp; omega
    intro v' w1 hown' hgrow _ hat
    have hsg := hgrow.size
    simp at hsg
    have hcan' := CansAt.next (C := wr.heap.size) (wm := ((wm.setCell ⟨wr.heap.size, 6, none⟩ (.slice Dv (canAt H.cans k).hs.length ev)).alloc (.cells ([.string (canAt H.cans k).name, .string (canAt H.cans k).mat, .int .i64 (canAt H.cans k).f.x, .int .i64 (canAt H.cans k).f.y, .int .i64 (canAt H.cans k).t.x, .int .i64 (canAt H.cans k).t.y, .slice Dv (canAt H.cans k).hs.length ev] : List Value).toArray 122))) (w1 := w1) (l' := v') hcan hown.1 rfl (fun g hg => (hlo g hg).2) (by simpa using hat) (by omega) (hSv'.block flat_int (by simp) (fun g o s n c he hlt => hpre g (by have := hFv g o s n c he; simp at this; omega) hlt)) (fun g o s n c he => by have := hFv g o s n c he; simp at this; omega) (fun g o s he => by subst he; have := hFw g o s _ _ rfl; simp; omega) (fun g hg hne => (hgrow.block g (by simp; omega) (fun h => hne h.symm)).trans ((hpre g (by omega) (by omega)).trans (hold g hg))) (fun g hC hlt => hgrow.block g hlt (fun h => by have := (hlo g h.symm).2; omega)) (by simp; omega) (by simp; omega)
    have hB' : Below Y.heap.size Y w1 := Below.grown hBp hgrow (by simp; omega) (fun k hk => (hlo k hk).1)
    clear hown hcan hgrow hat hownp hBp hpre hold n0 n1 n2 n3 n4 n5 n6 nf gn hSv hSv' hFv hFw hlo hB hBw y0' z0' y1' z1' y2' z2' y3' z3' y4' z4' y5' z5' y6' z6' y7' z7' y8' z8' yf' zf' gy gz
    go_wp2
    exact ⟨⟨k + 1, _, by omega, by simp, hown', hcan', hB'⟩, by simp [intOf]; omega⟩
  · obtain rfl : k = H.cans.length := by omega
    have l7 := hO7.1
    replace hS4 := hS4.below hB
    replace hS5 := hS5.below hB
    replace hS6 := hS6.below hB
    replace hS8 := hS8.below hB
    clear hO7
    have q0 := zf' 0
    have q1 := zf' 1
    have q2 := zf' 2
    have q3 := zf' 3
    have q4 := zf' 4
    have q5 := zf' 5
    have q6 := zf' 6
    have q7 := zf' 7
    have q8 := zf' 8
    have p7 := yf' 7
    go_wp2
    generalize hF : World.setCell _ _ _ = F
    have hFs : F.heap.size = wr.heap.size := by rw [← hF]; simp
    have hFh : ∀ g, w.heap.size + 2 ≤ g → F.heap[g]? = wr.heap[g]? := fun g hg => by
     have h1 : g ≠ w.heap.size := by omega
     have h2 : g ≠ w.heap.size + 1 := by omega
     rw [← hF]
     simp only [heap_set _ _ _ _ _ h1, heap_set _ _ _ _ _ h2]
    have hFb : Below w.heap.size w F := by rw [← hF]; (repeat' first | with_reducible (first | apply bz0 | assumption | apply bz1 | apply bz2 | apply bz3 | apply bz4 | apply bz5) | (simp <;> omega))
    have t0 : F.cell? ⟨w.heap.size + 1, 0, none⟩ = some (.string H.name) := by rw [← hF]; simp [go_sem, y0', y1', y2', y3', y4', y5', y6', y7', y8', z0', z1', z2', z3', z4', z5', z6', z7', z8', gy, gz]
    have t1 : F.cell? ⟨w.heap.size + 1, 1, none⟩ = some (.int .i64 H.height) := by rw [← hF]; simp [go_sem, y0', y1', y2', y3', y4', y5', y6', y7', y8', z0', z1', z2', z3', z4', z5', z6', z7', z8', gy, gz]
    have t2 : F.cell? ⟨w.heap.size + 1, 2, none⟩ = some (.string H.floor) := by rw [← hF]; simp [go_sem, y0', y1', y2', y3', y4', y5', y6', y7', y8', z0', z1', z2', z3', z4', z5', z6', z7', z8', gy, gz]
    have t3 : F.cell? ⟨w.heap.size + 1, 3, none⟩ = some (.string H.ceil) := by rw [← hF]; simp [go_sem, y0', y1', y2', y3', y4', y5', y6', y7', y8', z0', z1', z2', z3', z4', z5', z6', z7', z8', gy, gz]
    have t4 : F.cell? ⟨w.heap.size + 1, 4, none⟩ = some (.slice D4 H.mats.length e4) := by rw [← hF]; simp [go_sem, y0', y1', y2', y3', y4', y5', y6', y7', y8', z0', z1', z2', z3', z4', z5', z6', z7', z8', gy, gz]
    have t5 : F.cell? ⟨w.heap.size + 1, 5, none⟩ = some (.slice D5 H.cors.length e5) := by rw [← hF]; simp [go_sem, y0', y1', y2', y3', y4', y5', y6', y7', y8', z0', z1', z2', z3', z4', z5', z6', z7', z8', gy, gz]
    have t6 : F.cell? ⟨w.heap.size + 1, 6, none⟩ = some (.slice D6 H.wals.length e6) := by rw [← hF]; simp [go_sem, y0', y1', y2', y3', y4', y5', y6', y7', y8', z0', z1', z2', z3', z4', z5', z6', z7', z8', gy, gz]
    have t7 : F.cell? ⟨w.heap.size + 1, 7, none⟩ = some (.slice Al H.cans.length cl) := by rw [← hF]; simp [go_sem, y0', y1', y2', y3', y4', y5', y6', y7', y8', z0', z1', z2', z3', z4', z5', z6', z7', z8', gy, gz]
    have t8 : F.cell? ⟨w.heap.size + 1, 8, none⟩ = some (.slice D8 H.seas.length e8) := by rw [← hF]; simp [go_sem, y0', y1', y2', y3', y4', y5', y6', y7', y8', z0', z1', z2', z3', z4', z5', z6', z7', z8', gy, gz]
    replace hS4 := hS4.block (fun _ _ _ _ _ h => h) (show _ ≤ F.heap.size by omega) (fun g o s n c he _ => hFh g (hF4 g o s n c he))
    replace hS5 := hS5.block (fun _ _ _ _ _ h => h) (show _ ≤ F.heap.size by omega) (fun g o s n c he _ => hFh g (hF5 g o s n c he))
    replace hS6 := hS6.block (fun _ _ _ _ _ h => h) (show _ ≤ F.heap.size by omega) (fun g o s n c he _ => hFh g (hF6 g o s n c he))
    replace hS8 := hS8.block (fun _ _ _ _ _ h => h) (show _ ≤ F.heap.size by omega) (fun g o s n c he _ => hFh g (hF8 g o s n c he))
    have hS7 := hcan.slc (w' := F) hown l7 (by omega) (fun g hg _ => hFh g (by omega))
    clear hF
    exact bodyPost_ret (v := .agg #[.string H.name, .int .i64 H.height, .string H.floor, .string H.ceil, .slice D4 H.mats.length e4, .slice D5 H.cors.length e5, .slice D6 H.wals.length e6, .slice Al H.cans.length cl, .slice D8 H.seas.length e8]) (by simp [results, Tryz.results18, go_sem, t0, t1, t2, t3, t4, t5, t6, t7, t8]) rfl ⟨hFb, _, _, _, _, _, rfl, ⟨hsz, hS4, hS5, hS6, hS7, hS8⟩⟩
end Go.Proofs.YtekieoamelahkaaGreat
