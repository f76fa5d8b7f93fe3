/- AbsorptionArea, behind its errors. -/
import Derived.Test.YtekieoamelahkaaGreatM28
import Derived.Test.YtekieoamelahkaaGreatM24
set_option maxRecDepth 100000
set_option maxHeartbeats 1000000
set_option linter.unusedVariables false
set_option linter.unusedSimpArgs false
namespace Go.Proofs.YtekieoamelahkaaGreat
open Go.RowKit Go.Shelf
attribute [local go_sem] Oper.semAt_some

theorem AbsorptionArea_bad {w : World} {H : Hal} {S : Stg} {v4 v5 v6 v7 v8 v9 v10 : Value} (hV : HalVs w v4 v5 v6 v7 v8 H) (h9 : SlcAt encInt w v9 S.hs) (h10 : SlcAt encInt w v10 S.dr) (n : Int) (hE : inE H S ≠ 0) :
 Calls Tryz.prog 44 #[halV H v4 v5 v6 v7 v8, .agg #[v9, v10], .int .i64 n] w (RetX w (.tuple #[.agg #[.int .i64 0, .int .i64 0], .int .i64 (inE H S)])) := by
 have HC := hidden (fun (W : World) (hW : Below w.heap.size w W) => visitIn_bad (hV.below hW) (h9.below hW) (h10.below hW) hE)
 have hq : (inE H S == 0) = false := by simpa using hE
 generalize inE H S = z at *
 obtain ⟨_, g4, g5, g6, g7, g8⟩ := hV
 obtain ⟨A4, c4, rfl, _⟩ := slc_form g4
 obtain ⟨A5, c5, rfl, _⟩ := slc_form g5
 obtain ⟨A6, c6, rfl, _⟩ := slc_form g6
 obtain ⟨A7, c7, rfl, _⟩ := slc_form g7
 obtain ⟨A8, c8, rfl, _⟩ := slc_form g8
 obtain ⟨A9, c9, rfl, _⟩ := slc_form h9
 obtain ⟨A10, c10, rfl, _⟩ := slc_form h10
 unfold halV at *
 refine (callsIn_wide (n := 10)).1 ?_
 refine callsIn_of_wp Tryz.func44 rfl trivial ?_ rfl
 simp only [Tryz.ntmps44, nt, Nat.reduceAdd, Nat.reduceSub]
 gi_wp2
 (refine ⟨trivial, ?_⟩; ((with_reducible refine (callsIn_wide.2 (HC.out _ ?hk)).mono ?_); (case hk => (repeat' first | with_reducible (first | apply bz0 | assumption | apply bz1 | apply bz2 | apply bz3 | apply bz4 | apply bz5) | (simp <;> omega))); rintro e w1 ⟨rfl, x1, rfl⟩))
 gi_wp2
 refine bodyPost_ret (v := .tuple #[.agg #[.int .i64 0, .int .i64 0], .int .i64 z]) (by simp [results, Tryz.results44, go_sem]) rfl (retX rfl ?_)
 (repeat' first | with_reducible (first | apply bz0 | assumption | apply bz1 | apply bz2 | apply bz3 | apply bz4 | apply bz5) | (simp <;> omega))

theorem AbsorptionArea_missing {w : World} {H : Hal} {S : Stg} {v4 v5 v6 v7 v8 v9 v10 : Value} (hV : HalVs w v4 v5 v6 v7 v8 H) (h9 : SlcAt encInt w v9 S.hs) (h10 : SlcAt encInt w v10 S.dr) (n : Int) (hE : inE H S = 0) (hn : n < 0 ∨ 4 ≤ n) :
 Calls Tryz.prog 44 #[halV H v4 v5 v6 v7 v8, .agg #[v9, v10], .int .i64 n] w (RetX w (.tuple #[.agg #[.int .i64 0, .int .i64 0], .int .i64 6])) := by
 have HC := hidden (fun (W : World) (hW : Below w.heap.size w W) => visitIn_good (hV.below hW) (h9.below hW) (h10.below hW) hE)
 obtain ⟨_, g4, g5, g6, g7, g8⟩ := hV
 obtain ⟨A4, c4, rfl, _⟩ := slc_form g4
 obtain ⟨A5, c5, rfl, _⟩ := slc_form g5
 obtain ⟨A6, c6, rfl, _⟩ := slc_form g6
 obtain ⟨A7, c7, rfl, _⟩ := slc_form g7
 obtain ⟨A8, c8, rfl, _⟩ := slc_form g8
 obtain ⟨A9, c9, rfl, _⟩ := slc_form h9
 obtain ⟨A10, c10, rfl, _⟩ := slc_form h10
 unfold halV at *
 refine (callsIn_wide (n := 10)).1 ?_
 refine callsIn_of_wp Tryz.func44 rfl trivial ?_ rfl
 simp only [Tryz.ntmps44, nt, Nat.reduceAdd, Nat.reduceSub]
 gi_wp2
 (refine ⟨trivial, ?_⟩; ((with_reducible refine (callsIn_wide.2 (HC.out _ ?hk)).mono ?_); (case hk => (repeat' first | with_reducible (first | apply bz0 | assumption | apply bz1 | apply bz2 | apply bz3 | apply bz4 | apply bz5) | (simp <;> omega))); rintro e w1 ⟨hB1, b, hb1, rfl, hR1⟩))
 generalize hY : World.alloc _ _ = Y at *
 have y0 : Y.cell? ⟨w.heap.size + 2, 0, none⟩ = some (.int .i64 0) := by rw [← hY]; simp [go_sem]
 have y1 : Y.cell? ⟨w.heap.size + 2, 1, none⟩ = some (.int .i64 0) := by rw [← hY]; simp [go_sem]
 have yf : ∀ i, Y.frozen? ⟨w.heap.size + 2, i, none⟩ = false := by intro i; rw [← hY]; simp [go_sem]
 have BY : Below w.heap.size w Y := by rw [← hY]; (repeat' first | with_reducible (first | apply bz0 | assumption | apply bz1 | apply bz2 | apply bz3 | apply bz4 | apply bz5) | (simp <;> omega))
 have gy := has_of_cell y0
 replace yf : ∀ i, w1.frozen? ⟨w.heap.size + 2, i, none⟩ = false := fun i => (World.frozen?_of_block (w := Y) (hB1.block (w.heap.size + 2) gy)).trans (yf i)
 replace y0 := cell_below hB1 gy y0
 replace y1 := cell_below hB1 gy y1
 replace gy := has_of_cell y0
 have BX : Below w.heap.size w w1 := BY.trans (hB1.lower BY.size)
 have hgs := BX.size
 clear hY hR1
 cases q : decide (n < 0) with
 | true =>
  gi_wp2
  refine bodyPost_ret (v := .tuple #[.agg #[.int .i64 0, .int .i64 0], .int .i64 6]) (by simp [results, Tryz.results44, go_sem, y0, y1, yf, gy]) rfl (retX rfl (BX.trans (by (repeat' first | with_reducible (first | apply bz0 | assumption | apply bz1 | apply bz2 | apply bz3 | apply bz4 | apply bz5) | (simp <;> omega)))))
 | false =>
  have q2 : decide (4 ≤ n) = true := by simp at q ⊢; omega
  gi_wp2
  refine bodyPost_ret (v := .tuple #[.agg #[.int .i64 0, .int .i64 0], .int .i64 6]) (by simp [results, Tryz.results44, go_sem, y0, y1, yf, gy]) rfl (retX rfl (BX.trans (by (repeat' first | with_reducible (first | apply bz0 | assumption | apply bz1 | apply bz2 | apply bz3 | apply bz4 | apply bz5) | (simp <;> omega)))))
end Go.Proofs.YtekieoamelahkaaGreat

/- material. -/
namespace Go.Proofs.YtekieoamelahkaaGreat
open Go.RowKit Go.Shelf
attribute [local go_sem] Oper.semAt_some

def matOf (H : Hal) (nm : ByteArray) : Mat := match (List.range H.mats.length).find? (fun k => (matAt H.mats k).name.toList == nm.toList) with | none => ⟨⟨#[]⟩, 0, 0, 0, 0, 0⟩ | some k => matAt H.mats k
def matV (m : Mat) : Value := .agg #[.string m.name, .int .i64 m.a0, .int .i64 m.a1, .int .i64 m.a2, .int .i64 m.a3, .int .i64 m.scat]
theorem matOf_stop {H : Hal} {nm : ByteArray} {k : Nat} (hk : k < H.mats.length) (he : ((matAt H.mats k).name.toList == nm.toList) = true) (h : ∀ j, j < k → ((matAt H.mats j).name.toList == nm.toList) = false) : matOf H nm = matAt H.mats k := by
 unfold matOf
 have : (List.range H.mats.length).find? (fun k => (matAt H.mats k).name.toList == nm.toList) = some k := by
  rw [List.find?_range_eq_some]
  exact ⟨he, by simpa using hk, fun j hj => by rw [h j hj]; rfl⟩
 rw [this]
theorem matOf_end {H : Hal} {nm : ByteArray} (h : ∀ j, j < H.mats.length → ((matAt H.mats j).name.toList == nm.toList) = false) : matOf H nm = ⟨⟨#[]⟩, 0, 0, 0, 0, 0⟩ := by
 unfold matOf
 have : (List.range H.mats.length).find? (fun k => (matAt H.mats k).name.toList == nm.toList) = none := by
  rw [List.find?_eq_none]
  intro k hk
  rw [h k (by simpa using hk)]
  simp
 rw [this]

theorem material_room {w : World} {b : Nat} {H : Hal} {S : Stg} (hR : Room w b H S) (nm : ByteArray) :
 Calls Tryz.prog 101 #[.pointer (some ⟨b, 0, none⟩), .string nm] w (RetX w (matV (matOf H nm))) := by
 obtain ⟨v4, v5, v6, v7, v8, u9, u10, hR⟩ := hR
 obtain ⟨A4, c4, rfl, hS4⟩ := slc_form hR.hal.mats
 have l4 := hS4.1
 have h4 := hR.c4
 have hb := hR.has
 clear hR
 refine (callsIn_wide (n := 10)).1 ?_
 refine callsIn_of_wp Tryz.func101 rfl trivial ?_ rfl
 simp only [Tryz.ntmps101, nt, Nat.reduceAdd, Nat.reduceSub]
 gi_wp2
 generalize hw1 : World.alloc _ _ = w1
 have hB1 : Below w.heap.size w w1 := by rw [← hw1]; (repeat' first | with_reducible (first | apply bz0 | assumption | apply bz1 | apply bz2 | apply bz3 | apply bz4 | apply bz5) | (simp <;> omega))
 have r0 : w1.cell? ⟨w.heap.size, 0, none⟩ = some (.string ⟨#[]⟩) := by rw [← hw1]; simp [go_sem]
 have r1 : w1.cell? ⟨w.heap.size, 1, none⟩ = some (.int .i64 0) := by rw [← hw1]; simp [go_sem]
 have r2 : w1.cell? ⟨w.heap.size, 2, none⟩ = some (.int .i64 0) := by rw [← hw1]; simp [go_sem]
 have r3 : w1.cell? ⟨w.heap.size, 3, none⟩ = some (.int .i64 0) := by rw [← hw1]; simp [go_sem]
 have r4 : w1.cell? ⟨w.heap.size, 4, none⟩ = some (.int .i64 0) := by rw [← hw1]; simp [go_sem]
 have r5 : w1.cell? ⟨w.heap.size, 5, none⟩ = some (.int .i64 0) := by rw [← hw1]; simp [go_sem]
 have rf : ∀ i, w1.frozen? ⟨w.heap.size, i, none⟩ = false := by rw [← hw1]; intro i; simp [go_sem]
 have gw := has_of_cell r0
 clear hw1
 gi_loopw [13] (fun i wr => ∃ k : Nat, i = .int .i64 k ∧ k ≤ H.mats.length ∧ Below w1.heap.size w1 wr ∧ ∀ j, j < k → ((matAt H.mats j).name.toList == nm.toList) = false) (fun i _ => H.mats.length - (intOf i).toNat)
 case atStart => exact ⟨0, rfl, Nat.zero_le _, Below.refl _ _, fun j hj => absurd hj (Nat.not_lt_zero j)⟩
 case round =>
  obtain ⟨k, rfl, hk, hB, hno⟩ := hrel
  have hBw : Below w.heap.size w wr := hB1.trans (hB.lower hB1.size)
  have hgs := hBw.size
  replace r0 := cell_below hB gw r0
  replace r1 := cell_below hB gw r1
  replace r2 := cell_below hB gw r2
  replace r3 := cell_below hB gw r3
  replace r4 := cell_below hB gw r4
  replace r5 := cell_below hB gw r5
  replace rf : ∀ i, wr.frozen? ⟨w.heap.size, i, none⟩ = false := fun i => (World.frozen?_of_block (w := w1) (hB.block w.heap.size gw)).trans (rf i)
  replace gw := has_of_cell r0
  have nw : w.heap.size ≠ wr.heap.size := Nat.ne_of_lt gw
  rcases Nat.lt_or_ge k H.mats.length with hlt | hge
  · obtain ⟨g, o, rfl, hg, hcs⟩ := mat_at (hS4.below hBw) hlt
    obtain ⟨k0, k1, k2, k3, k4, k5⟩ := hcs k hlt
    have hst : Hid (((matAt H.mats k).name.toList == nm.toList) = true → matOf H nm = matAt H.mats k) := fun h => matOf_stop hlt h hno
    have hgo : Hid (((matAt H.mats k).name.toList == nm.toList) = false → ∀ j, j < k + 1 → ((matAt H.mats j).name.toList == nm.toList) = false) := fun he j hj => by
     rcases Nat.lt_or_ge j k with h' | h'
     · exact hno j h'
     · obtain rfl : j = k := by omega
       exact he
    clear hcs hS4 hno h4 hB1
    generalize hmm : matAt H.mats k = m at *
    obtain ⟨n0, a0, a1, a2, a3, sc⟩ := m
    simp only at *
    generalize H.mats.length = N at *
    cases q : (n0.toList == nm.toList) with
    | true =>
     have hz := hidden (hst.out q)
     gi_wp2
     refine bodyPost_ret (v := matV ⟨n0, a0, a1, a2, a3, sc⟩) ?_ rfl (retX (by rw [hz.out]) (hBw.trans (by (repeat' first | with_reducible (first | apply bz0 | assumption | apply bz1 | apply bz2 | apply bz3 | apply bz4 | apply bz5) | (simp <;> omega)))))
     simp [results, Tryz.results101, matV, go_sem, r0, r1, r2, r3, r4, r5, rf, gw, nw, nw.symm]
    | false =>
     have hz := hidden (hgo.out q)
     gi_wp2
     exact ⟨⟨k + 1, by simp, by omega, hB.trans ((show Below wr.heap.size wr _ by (repeat' first | with_reducible (first | apply bz0 | assumption | apply bz1 | apply bz2 | apply bz3 | apply bz4 | apply bz5) | (simp <;> omega))).lower hB.size), hz.out⟩, by simp [intOf]; omega⟩
  · obtain rfl : k = H.mats.length := by omega
    have hz := hidden (matOf_end hno)
    gi_wp2
    refine bodyPost_ret (v := matV ⟨⟨#[]⟩, 0, 0, 0, 0, 0⟩) ?_ rfl (retX (by rw [hz.out]) (hBw.trans (by (repeat' first | with_reducible (first | apply bz0 | assumption | apply bz1 | apply bz2 | apply bz3 | apply bz4 | apply bz5) | (simp <;> omega)))))
    simp [results, Tryz.results101, matV, go_sem, r0, r1, r2, r3, r4, r5, rf, gw]
end Go.Proofs.YtekieoamelahkaaGreat

/- What a wall tells of a point: wall$1, where only the height of the room is known. -/
namespace Go.Proofs.YtekieoamelahkaaGreat
open Go.RowKit Go.Shelf
attribute [local go_sem] Oper.semAt_some

theorem isBetween_h {w : World} {b : Nat} {h : Int} (h1 : w.cell? ⟨b, 1, none⟩ = some (.int .i64 h)) (hh : -5000 ≤ h ∧ h ≤ 5000) (x y z n : Int) (hn : 0 ≤ n ∧ n ≤ 100000000000000) :
 Calls Tryz.prog 150 #[.pointer (some ⟨b, 0, none⟩), .agg #[.int .i64 x, .int .i64 y, .int .i64 z, .int .i64 n]] w (RetX w (.bool (betweenB h z n))) := by
 have hb := has_of_cell h1
 have m1 := mul_bd hh hn (by omega)
 have nb : b ≠ w.heap.size := Nat.ne_of_lt hb
 have hd : decide (0 < z) = true ∨ decide (0 < z) = false := by cases decide (0 < z) <;> simp
 rcases hd with hd | hd
 all_goals
  go_enter Tryz.func150, Tryz.ntmps150
  go_wp2
  (refine tmX (by kernel_rfl) (by kernel_rfl) ?_); (repeat (first | (refine tmS rfl ?_; simp only [Act.put, List.setIfInBounds_toArray, List.set_cons_succ, List.set_cons_zero]) | (refine tmP rfl rfl rfl (fun K hK => ?_); go_big_quiet_op; refine hK _ ?_; clear hK K) | (refine tmE rfl rfl (fun K hK => ?_); go_big_op; (first | fail | skip); (refine hK _ _ rfl (ext_of_below (by (repeat' first | with_reducible (first | apply bz0 | assumption | apply bz1 | apply bz2 | apply bz3 | apply bz4 | apply bz5) | (simp <;> omega)))) ?_; clear hK K)))); (refine tmN ?_)
  go_wp2
  go_ret
  refine retX_bool (by rw [Bool.eq_iff_iff]; simp at hd; simp [betweenB]; omega) ?_
  (repeat' first | with_reducible (first | apply bz0 | assumption | apply bz1 | apply bz2 | apply bz3 | apply bz4 | apply bz5) | (simp <;> omega))

theorem wallHolds_any {w : World} {b : Nat} {h : Int} (h1 : w.cell? ⟨b, 1, none⟩ = some (.int .i64 h)) (hh : -5000 ≤ h ∧ h ≤ 5000) (c1 c2 : Nat) (p q r s : Int) (h0 : w.cell? ⟨c1, 0, none⟩ = some (.pointer (some ⟨b, 0, none⟩))) (h4 : Four p q r s c2 w)
 (hp : -5000 ≤ p ∧ p ≤ 5000) (hq : -5000 ≤ q ∧ q ≤ 5000) (hr : -5000 ≤ r ∧ r ≤ 5000) (hs : -5000 ≤ s ∧ s ≤ 5000) (x y z n : Int) (hn : 0 ≤ n ∧ n ≤ 100000000000000) :
 Calls Tryz.prog 177 #[.agg #[.int .i64 x, .int .i64 y, .int .i64 z, .int .i64 n], .pointer (some ⟨c1, 0, none⟩), .pointer (some ⟨c2, 0, none⟩)] w (RetX w (.bool (betweenB h z n && holdsWellB p q r s x y n))) := by
 have HB := hidden (fun (W : World) (hW : Below w.heap.size w W) => isBetween_h (cell_below hW (has_of_cell h1) h1) hh x y z n hn)
 have HW := hidden (fun W => holdsWell_any p q r s x y z n W hp hq hr hs ⟨hn.1, by omega⟩)
 obtain ⟨f0, f1, f2, f3⟩ := h4
 have g1 := has_of_cell h0
 have g2 := has_of_cell f0
 clear h1 hh hp hq hr hs hn
 generalize betweenB h z n = u at *
 generalize holdsWellB p q r s x y n = v at *
 cases u
 all_goals
  go_enter Tryz.func177, Tryz.ntmps177
  go_wp2_with (first | (go_at_call 150; refine (HB.out _ (by (repeat' first | with_reducible (first | apply bz0 | assumption | apply bz1 | apply bz2 | apply bz3 | apply bz4 | apply bz5) | (simp <;> omega)))).mono ?_; rintro e w' ⟨rfl, x1, rfl⟩) | (go_at_call 178; refine (HW.out _).mono ?_; rintro e w' ⟨rfl, x2, rfl⟩))
  go_ret
  refine retX_bool (by simp) ?_
  (repeat' first | with_reducible (first | apply bz0 | assumption | apply bz1 | apply bz2 | apply bz3 | apply bz4 | apply bz5) | (simp <;> omega))

theorem wallQ_set7 {W : World} {B b c1 c2 : Nat} {p q r s K A lo hi sd : Int} {mt : ByteArray} {f : Value} (h7 : Seven W B) (h0 : W.cell? ⟨c1, 0, none⟩ = some (.pointer (some ⟨b, 0, none⟩))) (h4 : Four p q r s c2 W) :
 (set7 W B K A mt lo hi sd f).cell? ⟨c1, 0, none⟩ = some (.pointer (some ⟨b, 0, none⟩)) ∧ Four p q r s c2 (set7 W B K A mt lo hi sd f) := by
 have n1 : c1 ≠ B := by rintro rfl; rw [h7.c0] at h0; cases h0
 have n2 : c2 ≠ B := by rintro rfl; have := h4.c2; rw [h7.c2] at this; cases this
 refine ⟨by rw [set7_other _ _ _ _ _ _ _ n1]; exact h0, ?_⟩
 constructor
 · rw [set7_other _ _ _ _ _ _ _ n2]; exact h4.c0
 · rw [set7_other _ _ _ _ _ _ _ n2]; exact h4.c1
 · rw [set7_other _ _ _ _ _ _ _ n2]; exact h4.c2
 · rw [set7_other _ _ _ _ _ _ _ n2]; exact h4.c3
end Go.Proofs.YtekieoamelahkaaGreat

/- surfaceIn of a wall that is not diagonal: with what its function captured. -/
namespace Go.Proofs.YtekieoamelahkaaGreat
open Go.RowKit Go.Shelf

def WallIn (b : Nat) (h p q r s : Int) (c1 c2 : Nat) (W : World) : Prop := W.cell? ⟨c1, 0, none⟩ = some (.pointer (some ⟨b, 0, none⟩)) ∧ Four p q r s c2 W ∧ W.cell? ⟨b, 1, none⟩ = some (.int .i64 h)

theorem WallIn.below {b : Nat} {h p q r s : Int} {c1 c2 : Nat} {W W' : World} (hB : Below W.heap.size W W') (H : WallIn b h p q r s c1 c2 W) : WallIn b h p q r s c1 c2 W' :=
 ⟨cell_below hB (has_of_cell H.1) H.1, ⟨cell_below hB (has_of_cell H.2.1.c0) H.2.1.c0, cell_below hB (has_of_cell H.2.1.c1) H.2.1.c1, cell_below hB (has_of_cell H.2.1.c2) H.2.1.c2, cell_below hB (has_of_cell H.2.1.c3) H.2.1.c3⟩, cell_below hB (has_of_cell H.2.2) H.2.2⟩
theorem WallIn.set7 {b B : Nat} {h p q r s K A lo hi sd : Int} {mt : ByteArray} {f : Value} {c1 c2 : Nat} {W : World} {H : Hal} {S : Stg} (h7 : Seven W B) (hR : Room W b H S) (H : WallIn b h p q r s c1 c2 W) : WallIn b h p q r s c1 c2 (set7 W B K A mt lo hi sd f) := by
 obtain ⟨_, _, _, _, _, _, _, hR⟩ := hR
 have n : b ≠ B := by rintro rfl; have := hR.c0; rw [h7.c0] at this; cases this
 have k := wallQ_set7 (K := K) (A := A) (lo := lo) (hi := hi) (sd := sd) (mt := mt) (f := f) h7 H.1 H.2.1
 exact ⟨k.1, k.2, by rw [set7_other _ _ _ _ _ _ _ n]; exact H.2.2⟩

theorem surface_wallIn {W : World} {b : Nat} {H : Hal} {S : Stg} (hR : Room W b H S) (i : Nat) (hi : i < H.cors.length) (hw : i < H.wals.length) (p q r s : Int) (hp : (corAt H.cors i).x = p) (hq : (corAt H.cors i).y = q) (hr : (corAt H.cors (nxt H.cors.length i)).x = r) (hs : (corAt H.cors (nxt H.cors.length i)).y = s)
 (h1 : -5000 ≤ p ∧ p ≤ 5000) (h2 : -5000 ≤ q ∧ q ≤ 5000) (h3 : -5000 ≤ r ∧ r ≤ 5000) (h4 : -5000 ≤ s ∧ s ≤ 5000) (hh : 0 ≤ H.height ∧ H.height ≤ 5000) (hnd : p = r ∨ q = s) :
 Calls Tryz.prog 104 #[.pointer (some ⟨b, 0, none⟩), .int .i64 i] W (fun e w' => Below W.heap.size W w' ∧ ∃ cap, e = .returned (surfV (plK p q r s) (plA p q r s) (wallMat H S i) (reachI p q r s * H.height) (reachI p q r s * H.height) 1 (.func (.func 177) #[] cap)) ∧ ∃ c1 c2, cap = #[.pointer (some ⟨c1, 0, none⟩), .pointer (some ⟨c2, 0, none⟩)] ∧ WallIn b H.height p q r s c1 c2 w') := by
 have hS := surface_wall hR i hw (plK p q r s) (plA p q r s) (reachI p q r s * H.height) (reachI p q r s * H.height) 1 (wallMat H S i) (fun cap w' => (∃ c1 c2, cap = #[.pointer (some ⟨c1, 0, none⟩), .pointer (some ⟨c2, 0, none⟩)] ∧ WallIn b H.height p q r s c1 c2 w') ∧ Room w' b H S)
  (fun W' hW' => (wall_room (hR.below hW') i hi hw p q r s hp hq hr hs h1 h2 h3 h4 hh hnd).mono (by
   rintro e w' ⟨hB, c1, c2, rfl, k1, k2⟩
   have hR' := (hR.below hW').below hB
   have hc : w'.cell? ⟨b, 1, none⟩ = some (.int .i64 H.height) := by
    obtain ⟨_, _, _, _, _, _, _, hR'⟩ := hR'
    exact hR'.c1
   exact ⟨hB, _, rfl, ⟨c1, c2, rfl, k1, k2, hc⟩, hR'⟩))
 refine hS.mono ?_
 rintro e w' ⟨hB, cap, W', rfl, ⟨⟨c1, c2, rfl, hk⟩, hR'⟩, h7, rfl⟩
 exact ⟨hB, _, rfl, c1, c2, rfl, hk.set7 h7 hR'⟩

theorem surfaceIn_wall {w : World} {H : Hal} {S : Stg} {v4 v5 v6 v7 v8 v9 v10 : Value} (hV : HalVs w v4 v5 v6 v7 v8 H) (h9 : SlcAt encInt w v9 S.hs) (h10 : SlcAt encInt w v10 S.dr) (hE : inE H S = 0) (i : Nat) (hi : i < H.cors.length) (hw : i < H.wals.length) (p q r s : Int) (hp : (corAt H.cors i).x = p) (hq : (corAt H.cors i).y = q) (hr : (corAt H.cors (nxt H.cors.length i)).x = r) (hs : (corAt H.cors (nxt H.cors.length i)).y = s)
 (h1 : -5000 ≤ p ∧ p ≤ 5000) (h2 : -5000 ≤ q ∧ q ≤ 5000) (h3 : -5000 ≤ r ∧ r ≤ 5000) (h4 : -5000 ≤ s ∧ s ≤ 5000) (hh : 0 ≤ H.height ∧ H.height ≤ 5000) (hnd : p = r ∨ q = s) :
 Calls Tryz.prog 91 #[halV H v4 v5 v6 v7 v8, .agg #[v9, v10], .int .i64 i] w (fun e w' => Below w.heap.size w w' ∧ ∃ b c1 c2, e = .returned (.tuple #[.pointer (some ⟨b, 0, none⟩), surfV (plK p q r s) (plA p q r s) (wallMat H S i) (reachI p q r s * H.height) (reachI p q r s * H.height) 1 (.func (.func 177) #[] #[.pointer (some ⟨c1, 0, none⟩), .pointer (some ⟨c2, 0, none⟩)]), .int .i64 0]) ∧ WallIn b H.height p q r s c1 c2 w') := by
 refine (surfaceIn_good hV h9 h10 i hE ⟨by omega, by omega⟩ _ _ _ _ _ _ _ _ (fun cap b w' => ∃ c1 c2, cap = #[.pointer (some ⟨c1, 0, none⟩), .pointer (some ⟨c2, 0, none⟩)] ∧ WallIn b H.height p q r s c1 c2 w') (fun W b hR => surface_wallIn hR i hi hw p q r s hp hq hr hs h1 h2 h3 h4 hh hnd)).mono ?_
 rintro e w' ⟨hB, b, cap, W, _, rfl, hR, ⟨c1, c2, rfl, hk⟩, h7, rfl⟩
 exact ⟨hB, b, c1, c2, rfl, hk.set7 h7 hR⟩
end Go.Proofs.YtekieoamelahkaaGreat
