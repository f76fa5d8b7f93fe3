/- CheckHall. -/
import Derived.Test.YtbonjgeglhbhnaaGreatM32
set_option linter.unusedVariables false
set_option linter.unusedSimpArgs false
namespace Go.Proofs.YtbonjgeglhbhnaaGreat
open Go.RowKit Go.Shelf
attribute [local go_sem] Oper.semAt_some

def halV (H : Hal) (v4 v5 v6 v7 v8 : Value) : Value := .agg #[.string H.name, .int .i64 H.height, .string H.floor, .string H.ceil, v4, v5, v6, v7, v8]
def markV (f : Flt) : Value := .tuple #[.agg #[.int .i64 (f.1), .int .i64 (f.2.1)], .int .i64 f.2.2]
theorem SetAt_new (W : World) : SetAt (W.alloc (.map #[] 0)) W.heap.size [] := ⟨#[], 0, World.alloc_heap_new W _, rfl⟩

theorem has_putObj (w : World) (l n : Nat) (o : Obj) : (w.putObj l o).Has n = w.Has n := by simp [World.Has]
theorem SetAt_putObj {w : World} {b c : Nat} {ns : List ByteArray} (o : Obj) (h : b ≠ c) : SetAt (w.putObj c o) b ns = SetAt w b ns := by
  unfold SetAt; rw [World.putObj_heap_other h]
theorem cell_putO {w : World} {l n i : Nat} (o : Obj) (h : n ≠ l) : (w.putObj l o).cell? ⟨n, i, none⟩ = w.cell? ⟨n, i, none⟩ := World.cell?_of_block (World.putObj_heap_other h)
theorem frozen_putO {w : World} {l n i : Nat} (o : Obj) (h : n ≠ l) : (w.putObj l o).frozen? ⟨n, i, none⟩ = w.frozen? ⟨n, i, none⟩ := World.frozen?_of_block (World.putObj_heap_other h)
theorem hallF_stop {H : Hal} {k : Nat} (hk : k < 8) (he : (flt H k).2.2 ≠ 0) (h : ∀ j, j < k → (flt H j).2.2 = 0) : hallF H = flt H k := by
  unfold hallF; rw [firstBad_stop hk he h]
theorem hallF_end {H : Hal} (h : ∀ j, j < 8 → (flt H j).2.2 = 0) : hallF H = (0, 0, 0) := by
  unfold hallF; rw [firstBad_end h]

set_option maxRecDepth 100000 in set_option maxHeartbeats 1000000 in
theorem CheckHall_any {w : World} {H : Hal} {v4 v5 v6 v7 v8 : Value} (hV : HalVs w v4 v5 v6 v7 v8 H) : Calls Tryz.prog 99 #[halV H v4 v5 v6 v7 v8] w (RetX w (markV (hallF H))) := by
  have hV' := hV
  obtain ⟨_, g4, g5, g6, g7, g8⟩ := hV'
  obtain ⟨A4, c4, rfl, _⟩ := slc_form g4
  obtain ⟨A5, c5, rfl, _⟩ := slc_form g5
  obtain ⟨A6, c6, rfl, _⟩ := slc_form g6
  obtain ⟨A7, c7, rfl, _⟩ := slc_form g7
  obtain ⟨A8, c8, rfl, _⟩ := slc_form g8
  unfold halV
  have HS1 : ∀ o1 o2 : Obj, SetAt ((((w.alloc o1).alloc o2).alloc (.map #[] 0)).alloc (.map #[] 0)) (w.heap.size + 1 + 1 + 1) [] := fun o1 o2 => by
    have h := SetAt_new (((w.alloc o1).alloc o2).alloc (.map #[] 0))
    simpa using h
  have HI1 : ∀ o1 o2 : Obj, (Instr.mapUpdate 179 (.map (some (w.heap.size + 1 + 1 + 1))) (.string ⟨#[102, 108, 111, 111, 114]⟩) (.bool true)).run Tryz.prog ((((w.alloc o1).alloc o2).alloc (.map #[] 0)).alloc (.map #[] 0)) = .ok () (((((w.alloc o1).alloc o2).alloc (.map #[] 0)).alloc (.map #[] 0)).putObj (w.heap.size + 1 + 1 + 1) (putMap ((((w.alloc o1).alloc o2).alloc (.map #[] 0)).alloc (.map #[] 0)) (w.heap.size + 1 + 1 + 1) floorN)) := fun o1 o2 => put_set _ (HS1 o1 o2) floorN rfl
  have HI2 : ∀ o1 o2 : Obj, (Instr.mapUpdate 179 (.map (some (w.heap.size + 1 + 1 + 1))) (.string ⟨#[99, 101, 105, 108, 105, 110, 103]⟩) (.bool true)).run Tryz.prog (((((w.alloc o1).alloc o2).alloc (.map #[] 0)).alloc (.map #[] 0)).putObj (w.heap.size + 1 + 1 + 1) (putMap ((((w.alloc o1).alloc o2).alloc (.map #[] 0)).alloc (.map #[] 0)) (w.heap.size + 1 + 1 + 1) floorN)) = .ok () _ := fun o1 o2 => put_set _ ((HS1 o1 o2).put floorN) ceilN (by decide)
  have HMM : ∀ W : World, (Instr.makeMap 179 none).run Tryz.prog W = .ok (.map (some W.heap.size)) (W.alloc (.map #[] 0)) := fun W => by kernel_rfl
  refine (callsIn_wide (n := 10)).1 ?_
  refine callsIn_of_wp Tryz.func99 rfl trivial ?_ rfl
  simp only [Tryz.ntmps99, List.size_toArray, List.length_cons, List.length_nil, Nat.reduceAdd, Nat.reduceSub, Array.replicate_succ, Array.replicate_zero, List.push_toArray, List.append_toArray, List.nil_append, List.cons_append]
  gi_wp2
  generalize hw1 : World.alloc _ _ = w1
  have hB1 : Below w.heap.size w w1 := by
    rw [← hw1]
    repeat' (first | exact Below.refl _ _ | refine Below.putObjStep ?_ ?_ _ | refine Below.alloc ?_ ?_ _ | (simp; done) | (simp; omega) | omega)
  have hs1 : w1.heap.size = w.heap.size + 7 := by rw [← hw1]; simp
  have hsur : SurAt w1 (w.heap.size + 1 + 1 + 1 + 1 + 1) H (w.heap.size + 1 + 1) (w.heap.size + 1 + 1 + 1) (w.heap.size + 1 + 1 + 1 + 1) := by
    refine ⟨⟨_, _, _, _, _, _, _, ⟨?_, ?_, ?_, ?_, ?_, ?_, ?_, ?_, ?_, ?_, ?_, ?_, hV.below hB1, ⟨by simp, none, 0, rfl, fun h => absurd h (by simp)⟩, ⟨by simp, none, 0, rfl, fun h => absurd h (by simp)⟩⟩⟩, ?_, ?_, ?_⟩
    · show _ < w1.heap.size; omega
    all_goals (rw [← hw1]; simp [go_sem])
  have hnam : Names w1 (w.heap.size + 1 + 1) (w.heap.size + 1 + 1 + 1) (w.heap.size + 1 + 1 + 1 + 1) [] fs0 [] := by
    have hM0 : ∀ o1 o2 : Obj, SetAt (((w.alloc o1).alloc o2).alloc (.map #[] 0)) (w.heap.size + 1 + 1) [] := fun o1 o2 => by
      have h := SetAt_new ((w.alloc o1).alloc o2)
      simpa using h
    have hF0 := fun o1 o2 => ((HS1 o1 o2).put floorN).put ceilN
    have hF1 : ([] ++ [floorN]) ++ [ceilN] = fs0 := rfl
    rw [hF1] at hF0
    rw [← hw1]
    refine ⟨?_, ?_, ?_, by omega, by omega, by omega⟩
    · rw [SetAt_alloc _ (by first | (simp [World.Has]; done) | (simp [World.Has]; omega)), SetAt_alloc _ (by first | (simp [World.Has]; done) | (simp [World.Has]; omega)), SetAt_alloc _ (by first | (simp [World.Has]; done) | (simp [World.Has]; omega)), SetAt_putObj _ (by omega), SetAt_putObj _ (by omega), SetAt_alloc _ (by first | (simp [World.Has]; done) | (simp [World.Has]; omega))]
      exact hM0 _ _
    · rw [SetAt_alloc _ (by first | (simp [World.Has]; done) | (simp [World.Has]; omega)), SetAt_alloc _ (by first | (simp [World.Has]; done) | (simp [World.Has]; omega)), SetAt_alloc _ (by first | (simp [World.Has]; done) | (simp [World.Has]; omega))]
      exact hF0 _ _
    · rw [SetAt_alloc _ (by first | (simp [World.Has]; done) | (simp [World.Has]; omega)), SetAt_alloc _ (by first | (simp [World.Has]; done) | (simp [World.Has]; omega))]
      have hT0 : ∀ W : World, W.heap.size = w.heap.size + 1 + 1 + 1 + 1 → SetAt (W.alloc (.map #[] 0)) (w.heap.size + 1 + 1 + 1 + 1) [] := fun W h => by rw [← h]; exact SetAt_new W
      exact hT0 _ (by simp)
  have hfun : ∀ k, k < 8 → w1.cell? ⟨w.heap.size + 1 + 1 + 1 + 1 + 1 + 1, k, none⟩ = some (.func (.func (fnAt k)) #[.pointer (some ⟨w.heap.size + 1 + 1 + 1 + 1 + 1, 0, none⟩)] #[]) := by
    intro k hk
    have hk8 : k = 0 ∨ k = 1 ∨ k = 2 ∨ k = 3 ∨ k = 4 ∨ k = 5 ∨ k = 6 ∨ k = 7 := by omega
    rw [← hw1]
    rcases hk8 with rfl | rfl | rfl | rfl | rfl | rfl | rfl | rfl <;> simp [go_sem, fnAt]
  have hmk0 : w1.cell? ⟨w.heap.size + 1, 0, none⟩ = some (.int .i64 0) := by rw [← hw1]; simp [go_sem, cell_putO, frozen_putO, has_putObj]
  have hmk1 : w1.cell? ⟨w.heap.size + 1, 1, none⟩ = some (.int .i64 0) := by rw [← hw1]; simp [go_sem, cell_putO, frozen_putO, has_putObj]
  have hmf0 : w1.frozen? ⟨w.heap.size + 1, 0, none⟩ = false := by rw [← hw1]; simp [go_sem, cell_putO, frozen_putO, has_putObj]
  have hmf1 : w1.frozen? ⟨w.heap.size + 1, 1, none⟩ = false := by rw [← hw1]; simp [go_sem, cell_putO, frozen_putO, has_putObj]
  clear hw1 HI1 HI2 HMM HS1 hV g4 g5 g6 g7 g8
  have hMh : w.heap.size + 1 + 1 < w1.heap.size := by omega
  have hFh : w.heap.size + 1 + 1 + 1 < w1.heap.size := by omega
  have hTh : w.heap.size + 1 + 1 + 1 + 1 < w1.heap.size := by omega
  gi_loopw [36] (fun i wr => ∃ k : Nat, i = .int .i64 k ∧ k ≤ 8 ∧ Touch [w.heap.size + 1 + 1, w.heap.size + 1 + 1 + 1, w.heap.size + 1 + 1 + 1 + 1] w1 wr ∧ Names wr (w.heap.size + 1 + 1) (w.heap.size + 1 + 1 + 1) (w.heap.size + 1 + 1 + 1 + 1) (msAt H k) (fsAt H k) (tsAt H k) ∧ ∀ j, j < k → (flt H j).2.2 = 0) (fun i _ => 8 - (intOf i).toNat)
  case atStart => exact ⟨0, rfl, by omega, hnam.touch (Below.refl _ _), hnam, fun j hj => absurd hj (Nat.not_lt_zero j)⟩
  case round =>
    obtain ⟨k, rfl, hk, hT, hN, hno⟩ := hrel
    have m0 := hT.kept.cell hmk0
    have m1 := hT.kept.cell hmk1
    have n0 := hT.frozen hmk0 hmf0
    have n1 := hT.frozen hmk1 hmf1
    have gm := has_of_cell m0
    rcases Nat.lt_or_ge k 8 with hlt | hge
    · have hf := hT.kept.cell (hfun k hlt)
      have gf := has_of_cell hf
      have hC := hidden (check_at k hlt (hsur.kept hT.kept) hN hno)
      have eg := fnAt_enters k
      have hst : Hid ((flt H k).2.2 ≠ 0 → hallF H = flt H k) := fun he => hallF_stop hlt he hno
      have hgo : Hid ((flt H k).2.2 = 0 → ∀ j, j < k + 1 → (flt H j).2.2 = 0) := fun he j hj => by
        rcases Nat.lt_or_ge j k with h' | h'
        · exact hno j h'
        · obtain rfl : j = k := by omega
          exact he
      have hNk := hidden hN
      clear hno hfun hmk0 hmk1 hmf0 hmf1 hN
      generalize fnAt k = fn at *
      generalize hfl : flt H k = fl at *
      obtain ⟨x, y, z⟩ := fl
      unfold fltV at hC
      simp only at hC hst hgo
      gi_wp2
      refine ⟨trivial, ?_⟩
      refine (callsIn_wide.2 hC.out).mono ?_
      rintro e w2 ⟨rfl, hT2, hN2⟩
      have hTT := hT.trans hT2
      have p0 := m0
      have p1 := m1
      replace m0 := hT2.kept.cell m0
      replace m1 := hT2.kept.cell m1
      replace n0 := hT2.frozen p0 n0
      replace n1 := hT2.frozen p1 n1
      replace gm := has_of_cell m0
      have gs := hTT.size
      have ne1 : w2.heap.size ≠ w.heap.size + 1 := Nat.ne_of_gt gm
      have gsz : w.heap.size ≤ w2.heap.size := by have := gm; unfold World.Has at this; omega
      have hBw : Below w.heap.size w w2 := hB1.trans (hTT.below (D := w.heap.size) (by omega) (by simp; omega))
      clear hC hf gf hT hT2 p0 p1
      by_cases he : z = 0
      · have hN3 := hN2 he
        have hg2 := hidden (hgo.out he)
        subst he
        clear hgo hst hN2
        gi_wp2
        go_roundw
        case rel => exact ⟨k + 1, by go_num, by omega, hTT.step (by (repeat' (first | (with_reducible exact Below.refl _ _) | (with_reducible assumption) | (with_reducible refine Below.drew ?_) | (with_reducible refine Below.drewNStep ?_ _) | (with_reducible refine Below.alloc ?_ ?_ _) | (with_reducible refine Below.setCell ?_ ?_ _) | (with_reducible refine Below.extStep ?_ ?_ _) | (simp; done) | (simp; omega)))), hN3.below (by (repeat' (first | (with_reducible exact Below.refl _ _) | (with_reducible assumption) | (with_reducible refine Below.drew ?_) | (with_reducible refine Below.drewNStep ?_ _) | (with_reducible refine Below.alloc ?_ ?_ _) | (with_reducible refine Below.setCell ?_ ?_ _) | (with_reducible refine Below.extStep ?_ ?_ _) | (simp; done) | (simp; omega)))), hg2.out⟩
        case measure => simp [intOf]; omega
      · have q4 : (z != 0) = true := by simp [he]
        have q5 : (z == 0) = false := by simp [he]
        have hz := hidden (hst.out he)
        clear hgo hst hN2
        gi_wp2
        refine wpIn_wide.2 ?_
        (refine wp_region_tameH (w.heap.size + 1) (by kernel_rfl) (by kernel_rfl) ?_); (repeat (first | (refine wpTame_skip rfl ?_; simp only [Act.put, List.setIfInBounds_toArray, List.set_cons_succ, List.set_cons_zero]) | (refine wpTame_pure rfl rfl rfl (fun K hK => ?_); go_big_quiet_op; refine hK _ ?_; clear hK K) | (refine wpTame_eff rfl rfl (fun K hK => ?_); go_big_op; (first | fail | skip); (refine hK _ _ rfl (hole_of (by (repeat' (first | (with_reducible exact HoleRel.refl _ _ _) | (with_reducible assumption) | (with_reducible refine HoleRel.swap ?_ _ _) | (with_reducible refine HoleRel.drew ?_) | (with_reducible refine HoleRel.drewN ?_ _) | (with_reducible refine HoleRel.setCell ?_ ?_ _) | (with_reducible refine HoleRel.putObj ?_ ?_ _) | (with_reducible refine HoleRel.alloc ?_ ?_ _) | (with_reducible refine HoleRel.ext ?_ ?_ _) | (exact Or.inl rfl) | (simp; done) | (simp; omega))))) ?_; clear hK K)))); (refine wpTame_nil ?_)
        gi_wp2
        change bodyPost _ _ _ _ _ _
        refine bodyPost_ret (v := .tuple #[.agg #[.int .i64 x, .int .i64 y], .int .i64 z]) (by simp [results, Tryz.results99, go_sem, m0, m1, gm]) rfl (retX (by rw [hz.out]; rfl) (hBw.trans (by (repeat' (first | (with_reducible exact Below.refl _ _) | (with_reducible assumption) | (with_reducible refine Below.drew ?_) | (with_reducible refine Below.drewNStep ?_ _) | (with_reducible refine Below.alloc ?_ ?_ _) | (with_reducible refine Below.setCell ?_ ?_ _) | (with_reducible refine Below.extStep ?_ ?_ _) | (simp; done) | (simp; omega))))))
    · obtain rfl : k = 8 := by omega
      have hz := hidden (hallF_end hno)
      have hBw : Below w.heap.size w wr := hB1.trans (hT.below (D := w.heap.size) (by omega) (by simp; omega))
      gi_wp2
      change bodyPost _ _ _ _ _ _
      refine bodyPost_ret (v := .tuple #[.agg #[.int .i64 0, .int .i64 0], .int .i64 0]) (by simp [results, Tryz.results99, go_sem, m0, m1, gm]) rfl (retX (by rw [hz.out]; rfl) (hBw.trans (by (repeat' (first | (with_reducible exact Below.refl _ _) | (with_reducible assumption) | (with_reducible refine Below.drew ?_) | (with_reducible refine Below.drewNStep ?_ _) | (with_reducible refine Below.alloc ?_ ?_ _) | (with_reducible refine Below.setCell ?_ ?_ _) | (with_reducible refine Below.extStep ?_ ?_ _) | (simp; done) | (simp; omega))))))
end Go.Proofs.YtbonjgeglhbhnaaGreat
