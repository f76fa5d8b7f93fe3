/- Whether a way is free: a way within the hall. -/
import Derived.Test.YtbonjgeglhbhnaaGreatM20
set_option linter.unusedVariables false
set_option linter.unusedSimpArgs false
namespace Go.Proofs.YtbonjgeglhbhnaaGreat
open Go.RowKit Go.Shelf
attribute [local go_sem] Oper.semAt_some

theorem wallsB_stop {H : Hal} {x1 y1 d1 x2 y2 d2 : Int} {j : Nat} (hj : j < H.cors.length) (h : wallB H x1 y1 d1 x2 y2 d2 j = true) : wallsB H x1 y1 d1 x2 y2 d2 = true := by
  unfold wallsB; rw [List.any_eq_true]; exact ⟨j, by simpa using hj, h⟩
theorem wallsB_end {H : Hal} {x1 y1 d1 x2 y2 d2 : Int} (h : ∀ j, j < H.cors.length → wallB H x1 y1 d1 x2 y2 d2 j = false) : wallsB H x1 y1 d1 x2 y2 d2 = false := by
  unfold wallsB; rw [List.any_eq_false]; intro j hj; simp [h j (by simpa using hj)]
theorem cansB_stop {H : Hal} {S : Stg} {x1 y1 z1 d1 x2 y2 z2 d2 : Int} {j : Nat} (hj : j < H.cans.length) (h : canB H S x1 y1 z1 d1 x2 y2 z2 d2 j = true) : cansB H S x1 y1 z1 d1 x2 y2 z2 d2 = true := by
  unfold cansB; rw [List.any_eq_true]; exact ⟨j, by simpa using hj, h⟩
theorem cansB_end {H : Hal} {S : Stg} {x1 y1 z1 d1 x2 y2 z2 d2 : Int} (h : ∀ j, j < H.cans.length → canB H S x1 y1 z1 d1 x2 y2 z2 d2 j = false) : cansB H S x1 y1 z1 d1 x2 y2 z2 d2 = false := by
  unfold cansB; rw [List.any_eq_false]; intro j hj; simp [h j (by simpa using hj)]

structure FreeI (H : Hal) (x1 y1 z1 d1 x2 y2 z2 d2 : Int) (s k : Nat) (W : World) : Prop where
  res : ∃ r, W.cell? ⟨s + 1, 0, none⟩ = some (.bool r)
  fres : W.frozen? ⟨s + 1, 0, none⟩ = false
  way : Eight x1 y1 z1 d1 x2 y2 z2 d2 s W
  none : ∀ j, j < k → wallB H x1 y1 d1 x2 y2 d2 j = false
theorem FreeI.sim {H : Hal} {x1 y1 z1 d1 x2 y2 z2 d2 : Int} {s k D : Nat} {W W' : World} (m : Sim D W W') (h : FreeI H x1 y1 z1 d1 x2 y2 z2 d2 s k W) : FreeI H x1 y1 z1 d1 x2 y2 z2 d2 s k W' :=
  ⟨let ⟨r, hr⟩ := h.res; ⟨r, m.cell hr⟩, let ⟨r, hr⟩ := h.res; m.frozen hr h.fres, h.way.sim m, h.none⟩
structure FreeX (H : Hal) (x1 y1 d1 x2 y2 d2 : Int) (s : Nat) (C : Code) (W : World) : Prop where
  ret : C = .ret
  res : W.cell? ⟨s + 1, 0, none⟩ = some (.bool false)
  yes : wallsB H x1 y1 d1 x2 y2 d2 = true
theorem FreeX.sim {H : Hal} {x1 y1 d1 x2 y2 d2 : Int} {s D : Nat} {C : Code} {W W' : World} (m : Sim D W W') (h : FreeX H x1 y1 d1 x2 y2 d2 s C W) : FreeX H x1 y1 d1 x2 y2 d2 s C W' := ⟨h.ret, m.cell h.res, h.yes⟩


/-- the frame of a round -/
def freeA (H : Hal) (b : Nat) (x1 y1 z1 d1 x2 y2 z2 d2 : Int) (s B i : Nat) : Act := { tmps := #[.pointer (some ⟨b, 0, none⟩), .agg #[.int .i64 x1, .int .i64 y1, .int .i64 z1, .int .i64 d1, .int .i64 x2, .int .i64 y2, .int .i64 z2, .int .i64 d2], undef, .pointer (some ⟨s, 0, none⟩), .pointer (some ⟨s + 1, 0, none⟩), undef, .pointer (some ⟨B, 0, none⟩), undef, undef, .pointer (some ⟨b, 0, none⟩), .agg #[.int .i64 x1, .int .i64 y1, .int .i64 z1, .int .i64 d1, .int .i64 x2, .int .i64 y2, .int .i64 z2, .int .i64 d2], .agg #[.int .i64 (x1 * d2 + x2 * d1), .int .i64 (y1 * d2 + y2 * d1), .int .i64 (z1 * d2 + z2 * d1), .int .i64 (2 * d1 * d2)], .bool true, .bool false, .bool false, .pointer (some ⟨b, 0, none⟩), .pointer (some ⟨s, 0, none⟩), .agg #[.int .i64 x1, .int .i64 y1, .int .i64 z1, .int .i64 d1], .bool true, .bool false, .bool false, .bool false, .pointer (some ⟨b, 0, none⟩), .pointer (some ⟨s, 4, none⟩), .agg #[.int .i64 x2, .int .i64 y2, .int .i64 z2, .int .i64 d2], .bool true, .bool false, .bool false, .pointer (some ⟨b, 0, none⟩), .func (.func 118) #[.pointer (some ⟨b, 0, none⟩)] #[], .int .i64 i, lineV H i, undef, undef, undef, undef, undef, undef, undef, undef, undef, undef, undef, undef, undef, undef, undef, undef, undef, undef, undef, undef, undef, undef], defers := [] }

set_option maxRecDepth 100000 in set_option maxHeartbeats 1000000 in
theorem isFree_in {w : World} {b : Nat} {H : Hal} {S : Stg} (hR : Room w b H S) (hC : CorsIn H) (hN : H.cors.length ≤ 20) (hh : -5000 ≤ H.height ∧ H.height ≤ 5000) (x1 y1 z1 d1 x2 y2 z2 d2 : Int) (hd1 : 0 ≤ d1 ∧ d1 ≤ 100000) (hd2 : 0 ≤ d2 ∧ d2 ≤ 100000) (hx1 : -500000000 ≤ x1 ∧ x1 ≤ 500000000) (hy1 : -500000000 ≤ y1 ∧ y1 ≤ 500000000) (hz1 : -500000000 ≤ z1 ∧ z1 ≤ 500000000) (hx2 : -500000000 ≤ x2 ∧ x2 ≤ 500000000) (hy2 : -500000000 ≤ y2 ∧ y2 ≤ 500000000) (hz2 : -500000000 ≤ z2 ∧ z2 ≤ 500000000) (hin : insideB H x1 y1 z1 d1 x2 y2 z2 d2 = true)
    (hcn : H.cans.length ≤ 1000) (hSt : ∀ i, i < H.cans.length → i < S.hs.length ∧ 0 ≤ intAt S.hs i ∧ intAt S.hs i < (canAt H.cans i).hs.length ∧ -10000 ≤ canZ H S i ∧ canZ H S i ≤ 10000)
    (hCan : ∀ i, i < H.cans.length → (-5000 ≤ (canAt H.cans i).f.x ∧ (canAt H.cans i).f.x ≤ 5000) ∧ (-5000 ≤ (canAt H.cans i).f.y ∧ (canAt H.cans i).f.y ≤ 5000) ∧ (-5000 ≤ (canAt H.cans i).t.x ∧ (canAt H.cans i).t.x ≤ 5000) ∧ (-5000 ≤ (canAt H.cans i).t.y ∧ (canAt H.cans i).t.y ≤ 5000)) :
    Calls Tryz.prog 88 #[.pointer (some ⟨b, 0, none⟩), .agg #[.int .i64 x1, .int .i64 y1, .int .i64 z1, .int .i64 d1, .int .i64 x2, .int .i64 y2, .int .i64 z2, .int .i64 d2]] w (RetX w (.bool (!wallsB H x1 y1 d1 x2 y2 d2 && !cansB H S x1 y1 z1 d1 x2 y2 z2 d2))) := by
  have HM := hidden (fun W => middle_any x1 y1 z1 d1 x2 y2 z2 d2 W hd1 hd2 hx1 hy1 hz1 hx2 hy2 hz2)
  have hn := midn_bd hd1 hd2
  have HW := hidden (fun (W : World) (hb : Below w.heap.size w W) => isWithin_room (hR.below hb) hC hN hh _ _ _ _ hn (mid_bd hd1 hd2 hx1 hx2) (mid_bd hd1 hd2 hy1 hy2) (mid_bd hd1 hd2 hz1 hz2))
  have HL1 := hidden (fun (W : World) (hb : Below w.heap.size w W) => isLevel_any (hR.below hb) hh x1 y1 z1 d1 ⟨hd1.1, by omega⟩)
  have HL2 := hidden (fun (W : World) (hb : Below w.heap.size w W) => isLevel_any (hR.below hb) hh x2 y2 z2 d2 ⟨hd2.1, by omega⟩)
  unfold insideB at hin
  simp only [Bool.and_eq_true] at hin
  obtain ⟨q0, q1, q2⟩ := hin
  rw [q0] at HW
  rw [q1] at HL1
  rw [q2] at HL2
  refine (callsIn_wide (n := 10)).1 ?_
  refine callsIn_of_wp_marks Tryz.func88 rfl trivial ?_ rfl
  simp only [Tryz.ntmps88, List.size_toArray, List.length_cons, List.length_nil, Nat.reduceAdd, Nat.reduceSub, Array.replicate_succ, Array.replicate_zero, List.push_toArray, List.append_toArray, List.nil_append, List.cons_append]
  gi_wp2
  repeat ((refine ⟨trivial, ?_⟩; first | ((with_reducible refine (callsIn_wide.2 (HM.out _)).mono ?_); rintro e w' ⟨rfl, x, rfl⟩) | ((with_reducible refine (callsIn_wide.2 (HW.out _ ?hbel)).mono ?_); (case hbel => (repeat' (first | (with_reducible exact Below.refl _ _) | (with_reducible assumption) | (with_reducible refine Below.drew ?_) | (with_reducible refine Below.drewNStep ?_ _) | (with_reducible refine Below.alloc ?_ ?_ _) | (with_reducible refine Below.setCell ?_ ?_ _) | (with_reducible refine Below.extStep ?_ ?_ _) | (simp; done) | (simp; omega)))); rintro e w' ⟨rfl, x, rfl⟩) | ((with_reducible refine (callsIn_wide.2 (HL1.out _ ?hbel)).mono ?_); (case hbel => (repeat' (first | (with_reducible exact Below.refl _ _) | (with_reducible assumption) | (with_reducible refine Below.drew ?_) | (with_reducible refine Below.drewNStep ?_ _) | (with_reducible refine Below.alloc ?_ ?_ _) | (with_reducible refine Below.setCell ?_ ?_ _) | (with_reducible refine Below.extStep ?_ ?_ _) | (simp; done) | (simp; omega)))); rintro e w' ⟨rfl, x, rfl⟩) | ((with_reducible refine (callsIn_wide.2 (HL2.out _ ?hbel)).mono ?_); (case hbel => (repeat' (first | (with_reducible exact Below.refl _ _) | (with_reducible assumption) | (with_reducible refine Below.drew ?_) | (with_reducible refine Below.drewNStep ?_ _) | (with_reducible refine Below.alloc ?_ ?_ _) | (with_reducible refine Below.setCell ?_ ?_ _) | (with_reducible refine Below.extStep ?_ ?_ _) | (simp; done) | (simp; omega)))); rintro e w' ⟨rfl, x, rfl⟩) | skip); gi_wp2)
  clear HM HW HL1 HL2 q0 q1 q2 hn
  refine range_outer rfl (by omega) (gf := 118) (pre := #[.pointer (some ⟨b, 0, none⟩)]) rfl trivial (enters_of Tryz.func118 (by kernel_rfl) rfl) (n₀ := w.heap.size) (by simp; omega)
    (walls_iter hR (by (repeat' (first | (with_reducible exact Below.refl _ _) | (with_reducible assumption) | (with_reducible refine Below.drew ?_) | (with_reducible refine Below.drewNStep ?_ _) | (with_reducible refine Below.alloc ?_ ?_ _) | (with_reducible refine Below.setCell ?_ ?_ _) | (with_reducible refine Below.extStep ?_ ?_ _) | (simp; done) | (simp; omega)))) _ (by omega)) (fun k => rfl)
    (fun i W => FreeI H x1 y1 z1 d1 x2 y2 z2 d2 w.heap.size i W) (fun C W => FreeX H x1 y1 d1 x2 y2 d2 w.heap.size C W) (fun k W W' s h => h.sim s) (fun c W W' s h => h.sim s) ?start
    (fun i a' W => ∃ B, w.heap.size + 2 ≤ B ∧ a' = freeA H b x1 y1 z1 d1 x2 y2 z2 d2 w.heap.size B i ∧ EdgeIn W B H i) (fun i a' W W' s ⟨B, h1, h2, h3⟩ => ⟨B, h1, h2, h3.sim s⟩) ?assign ?body ?done ?stop
  case start =>
    refine ⟨⟨false, by simp [go_sem]⟩, by simp [go_sem], ?_, fun j hj => absurd hj (Nat.not_lt_zero j)⟩ <;> constructor <;> simp [go_sem]
  case assign =>
    intro l i W K hi hI hb hK
    have hsz : w.heap.size + 2 ≤ W.heap.size := by have := hb.size; simp at this; omega
    simp only [wallEnc, lineV]
    gi_wp2
    exact hK _ _ (KeepsAll.alloc _ _ _) (hb.alloc (by omega) _) (hI.sim (Sim.alloc 0 _ _)) ⟨W.heap.size, by omega, rfl, EdgeIn.new _ _ _ _⟩
  case body =>
    rintro l i a' W hi hl hr ⟨⟨r, r1⟩, r2, ⟨c0, c1, c2, c3, c4, c5, c6, c7⟩, hno⟩ ⟨B, hB, rfl, ⟨b0, b1, b2, b3⟩⟩ hb
    have hsz : w.heap.size + 2 ≤ W.heap.size := by have := hb.size; simp at this; omega
    obtain ⟨m1, m2⟩ := hC i (by omega)
    obtain ⟨m3, m4⟩ := hC _ (nxt_lt (n := H.cors.length) (i := i) (by omega))
    have hW : Hid (wallB H x1 y1 d1 x2 y2 d2 i = blocksB (corAt H.cors i).x (corAt H.cors i).y (corAt H.cors (nxt H.cors.length i)).x (corAt H.cors (nxt H.cors.length i)).y x1 y1 d1 x2 y2 d2) := rfl
    clear hl hr hR
    have g1 := has_of_cell r1
    have g2 := has_of_cell c0
    have gB := has_of_cell b0
    unfold freeA lineV
    generalize (corAt H.cors i).x = p1 at *
    generalize (corAt H.cors i).y = p2 at *
    generalize (corAt H.cors (nxt H.cors.length i)).x = p3 at *
    generalize (corAt H.cors (nxt H.cors.length i)).y = p4 at *
    gi_wp2
    refine ⟨trivial, ?_⟩
    refine (callsIn_wide.2 (blocks_any p1 p2 p3 p4 m1 m2 m3 m4 x1 y1 z1 d1 x2 y2 z2 d2 _ hd1 hd2 hx1 hy1 hz1 hx2 hy2 hz2)).mono ?_
    rintro e w1 ⟨rfl, v1, rfl⟩
    cases hq : blocksB p1 p2 p3 p4 x1 y1 d1 x2 y2 d2 with
    | true =>
      rw [hq] at hW
      gi_wp2
      refine bodyQ_leaveSet (by (repeat' (first | (with_reducible exact Below.refl _ _) | (with_reducible assumption) | (with_reducible refine Below.drew ?_) | (with_reducible refine Below.drewNStep ?_ _) | (with_reducible refine Below.alloc ?_ ?_ _) | (with_reducible refine Below.setCell ?_ ?_ _) | (with_reducible refine Below.extStep ?_ ?_ _) | (simp; done) | (simp; omega)))) (by omega) (by simp <;> omega) (by simp <;> omega) hb (fun m => ⟨rfl, cell_set (m.cell r1), wallsB_stop hi hW.out⟩)
    | false =>
      rw [hq] at hW
      gi_wp2
      refine bodyQ_next (by (repeat' (first | (with_reducible exact Below.refl _ _) | (with_reducible assumption) | (with_reducible refine Below.drew ?_) | (with_reducible refine Below.drewNStep ?_ _) | (with_reducible refine Below.alloc ?_ ?_ _) | (with_reducible refine Below.setCell ?_ ?_ _) | (with_reducible refine Below.extStep ?_ ?_ _) | (simp; done) | (simp; omega)))) (by omega) hb (fun m => ⟨⟨r, m.cell r1⟩, m.frozen r1 r2, (Eight.mk c0 c1 c2 c3 c4 c5 c6 c7).sim m, fun j hj => ?_⟩)
      rcases Nat.lt_or_ge j i with h | h
      · exact hno j h
      · obtain rfl : j = i := by omega
        exact hW.out
  case stop =>
    rintro c' W ⟨rfl, r1, hy⟩ hb hD
    have hz := hidden hy
    have g1 := has_of_cell r1
    gi_wp2
    refine bodyPostM_cell (s := w.heap.size + 1) hD (by simp <;> omega) r1 (fun X hX => by simp [results, Tryz.results88, go_sem, hX]) (fun o => retX (by rw [hz.out]; simp) ?_)
    refine Below.putObjStep ((show Below w.heap.size w _ by (repeat' (first | (with_reducible exact Below.refl _ _) | (with_reducible assumption) | (with_reducible refine Below.drew ?_) | (with_reducible refine Below.drewNStep ?_ _) | (with_reducible refine Below.alloc ?_ ?_ _) | (with_reducible refine Below.setCell ?_ ?_ _) | (with_reducible refine Below.extStep ?_ ?_ _) | (simp; done) | (simp; omega)))).trans hb) (by simp <;> omega) _
  case done =>
    rintro W ⟨⟨r, r1⟩, r2, ⟨c0, c1, c2, c3, c4, c5, c6, c7⟩, hno⟩ hb hD
    have hz := hidden (wallsB_end hno)
    have hRW : Room W b H S := hR.below ((show Below w.heap.size w _ by (repeat' (first | (with_reducible exact Below.refl _ _) | (with_reducible assumption) | (with_reducible refine Below.drew ?_) | (with_reducible refine Below.drewNStep ?_ _) | (with_reducible refine Below.alloc ?_ ?_ _) | (with_reducible refine Below.setCell ?_ ?_ _) | (with_reducible refine Below.extStep ?_ ?_ _) | (simp; done) | (simp; omega)))).trans hb)
    have hRW' := hRW
    obtain ⟨v4, v5, v6, v7, v8, v9, v10, hRW'⟩ := hRW'
    obtain ⟨A, c, rfl, hS⟩ := slc_form hRW'.hal.cans
    have h7 := hRW'.c7
    have hBb := hRW'.has
    have hl := hS.1
    clear hRW' hno
    have g1 := has_of_cell r1
    have g2 := has_of_cell c0
    have hWw : Below w.heap.size w W := (show Below w.heap.size w _ by (repeat' (first | (with_reducible exact Below.refl _ _) | (with_reducible assumption) | (with_reducible refine Below.drew ?_) | (with_reducible refine Below.drewNStep ?_ _) | (with_reducible refine Below.alloc ?_ ?_ _) | (with_reducible refine Below.setCell ?_ ?_ _) | (with_reducible refine Below.extStep ?_ ?_ _) | (simp; done) | (simp; omega)))).trans hb
    gi_wp2
    gi_loopw [41] (fun i wr => ∃ k : Nat, i = .int .i64 k ∧ k ≤ H.cans.length ∧ Below W.heap.size W wr ∧ ∀ j, j < k → canB H S x1 y1 z1 d1 x2 y2 z2 d2 j = false) (fun i _ => H.cans.length - (intOf i).toNat)
    case atStart => exact ⟨0, rfl, Nat.zero_le _, Below.refl _ _, fun j hj => absurd hj (Nat.not_lt_zero j)⟩
    case round =>
      obtain ⟨k, rfl, hk, hbr, hno⟩ := hrel
      rcases Nat.lt_or_ge k H.cans.length with hlt | hge
      · obtain ⟨g, o, rfl, hg, hcs⟩ := can_at hS hlt
        obtain ⟨k0, k1, k2, k3, k4, k5, A', c', k6, _⟩ := hcs k hlt
        obtain ⟨t1, t2, t3, t4, t5⟩ := hSt k hlt
        obtain ⟨n1, n2, n3, n4⟩ := hCan k hlt
        have m := Sim.of_below (D := 0) hbr
        replace k0 := m.cell k0
        replace k1 := m.cell k1
        replace k2 := m.cell k2
        replace k3 := m.cell k3
        replace k4 := m.cell k4
        replace k5 := m.cell k5
        replace k6 := m.cell k6
        replace c0 := m.cell c0
        replace c1 := m.cell c1
        replace c2 := m.cell c2
        replace c3 := m.cell c3
        replace c4 := m.cell c4
        replace c5 := m.cell c5
        replace c6 := m.cell c6
        replace c7 := m.cell c7
        replace r2 := m.frozen r1 r2
        replace r1 := m.cell r1
        have HP := hidden (fun (X : World) (hX : Below wr.heap.size wr X) => canopyPlane_any (hRW.below (hbr.trans (hX.lower hbr.size))) k hlt t1 t2 t3)
        have HS := hidden (fun (X : World) => sheetOf_any (canAt H.cans k).name (canAt H.cans k).mat (canAt H.cans k).f.x (canAt H.cans k).f.y (canAt H.cans k).t.x (canAt H.cans k).t.y (.slice A' (canAt H.cans k).hs.length c') ⟨_, _, _, rfl⟩ X)
        have HB := hidden (fun (X : World) => sheetBlocks_any (min (canAt H.cans k).f.x (canAt H.cans k).t.x) (min (canAt H.cans k).f.y (canAt H.cans k).t.y) (max (canAt H.cans k).f.x (canAt H.cans k).t.x) (max (canAt H.cans k).f.y (canAt H.cans k).t.y) (by omega) (by omega) (by omega) (by omega) 2 (canZ H S k) x1 y1 z1 d1 x2 y2 z2 d2 X ⟨t4, t5⟩ hd1 hd2 hx1 hy1 hz1 hx2 hy2 hz2)
        have hCB : Hid (canB H S x1 y1 z1 d1 x2 y2 z2 d2 k = sheetBlocksB (min (canAt H.cans k).f.x (canAt H.cans k).t.x) (min (canAt H.cans k).f.y (canAt H.cans k).t.y) (max (canAt H.cans k).f.x (canAt H.cans k).t.x) (max (canAt H.cans k).f.y (canAt H.cans k).t.y) 2 (canZ H S k) x1 y1 z1 d1 x2 y2 z2 d2) := rfl
        unfold canV at HS
        have hg' : wr.Has g := Nat.lt_of_lt_of_le hg hbr.size
        have hg1 : wr.Has (w.heap.size + 1) := has_of_cell r1
        have hg2 : wr.Has w.heap.size := has_of_cell c0
        have ng : g ≠ wr.heap.size := Nat.ne_of_lt hg'
        have n1 : w.heap.size + 1 ≠ wr.heap.size := Nat.ne_of_lt hg1
        have n2 : w.heap.size ≠ wr.heap.size := Nat.ne_of_lt hg2
        have hDb := (Array.getElem?_eq_some_iff.1 hD).1
        have hD2 := (hbr.block _ hDb).trans hD
        have hWs : w.heap.size ≤ wr.heap.size := Nat.le_of_lt hg2
        have hST : Hid (canB H S x1 y1 z1 d1 x2 y2 z2 d2 k = true → cansB H S x1 y1 z1 d1 x2 y2 z2 d2 = true) := fun h => cansB_stop hlt h
        clear hcs hSt hCan hS hR hRW hC
        generalize (canAt H.cans k).name = na at *
        generalize (canAt H.cans k).mat = ma at *
        generalize (canAt H.cans k).hs.length = hl' at *
        generalize (canAt H.cans k).f.x = p1 at *
        generalize (canAt H.cans k).f.y = p2 at *
        generalize (canAt H.cans k).t.x = p3 at *
        generalize (canAt H.cans k).t.y = p4 at *
        generalize canZ H S k = zz at *
        generalize H.cans.length = nn at *
        have hk5 : (k : Int) < nn := by omega
        cases hq : sheetBlocksB (min p1 p3) (min p2 p4) (max p1 p3) (max p2 p4) 2 zz x1 y1 z1 d1 x2 y2 z2 d2 with
        | true =>
          rw [hq] at hCB HB
          gi_wp2
          refine wpIn_wide.2 ?_
          (refine wp_region_tameX (by kernel_rfl) (by kernel_rfl) ?_); (repeat (first | (refine wpTame_skip rfl ?_; simp only [Act.put, List.setIfInBounds_toArray, List.set_cons_succ, List.set_cons_zero]) | (refine wpTame_pure rfl rfl rfl (fun K hK => ?_); go_big_quiet_op; refine hK _ ?_; clear hK K) | (refine wpTame_eff rfl rfl (fun K hK => ?_); go_big_op; (first | (go_at_call 120; refine (HS.out _).mono ?_; rintro e w' ⟨rfl, v1, rfl⟩) | (go_at_call 122; refine (HP.out _ (by (repeat' (first | (with_reducible exact Below.refl _ _) | (with_reducible assumption) | (with_reducible refine Below.drew ?_) | (with_reducible refine Below.drewNStep ?_ _) | (with_reducible refine Below.alloc ?_ ?_ _) | (with_reducible refine Below.setCell ?_ ?_ _) | (with_reducible refine Below.extStep ?_ ?_ _) | (simp; done) | (simp; omega))))).mono ?_; rintro e w' ⟨rfl, v2, rfl⟩) | (go_at_call 121; refine (HB.out _).mono ?_; rintro e w' ⟨rfl, v3, rfl⟩) | skip); (refine hK _ _ rfl (ext_of_below (by (repeat' (first | (with_reducible exact Below.refl _ _) | (with_reducible assumption) | (with_reducible refine Below.drew ?_) | (with_reducible refine Below.drewNStep ?_ _) | (with_reducible refine Below.alloc ?_ ?_ _) | (with_reducible refine Below.setCell ?_ ?_ _) | (with_reducible refine Below.extStep ?_ ?_ _) | (simp; done) | (simp; omega))))) ?_; clear hK K)))); (refine wpTame_nil ?_)
          gi_wp2
          have hz2 := hidden (hST.out hCB.out)
          have hDlt := (Array.getElem?_eq_some_iff.1 hD2).1
          refine bodyPostM_cell (s := w.heap.size + 1) ((Below.heap_setCell _ _ _ _ (by simp <;> omega)).trans (((show Below wr.heap.size wr _ by (repeat' (first | (with_reducible exact Below.refl _ _) | (with_reducible assumption) | (with_reducible refine Below.drew ?_) | (with_reducible refine Below.drewNStep ?_ _) | (with_reducible refine Below.alloc ?_ ?_ _) | (with_reducible refine Below.setCell ?_ ?_ _) | (with_reducible refine Below.extStep ?_ ?_ _) | (simp; done) | (simp; omega)))).block _ hDlt).trans hD2)) (by simp <;> omega) (cell_set ((Sim.of_below (D := 0) (by (repeat' (first | (with_reducible exact Below.refl _ _) | (with_reducible assumption) | (with_reducible refine Below.drew ?_) | (with_reducible refine Below.drewNStep ?_ _) | (with_reducible refine Below.alloc ?_ ?_ _) | (with_reducible refine Below.setCell ?_ ?_ _) | (with_reducible refine Below.extStep ?_ ?_ _) | (simp; done) | (simp; omega))))).cell r1)) (fun X hX => by simp [results, Tryz.results88, go_sem, hX]) (fun o => retX (by rw [hz2.out]; simp) ?_)
          refine Below.putObjStep (Below.setCell ((hWw.trans (hbr.lower hWw.size)).trans (Below.lower (D := wr.heap.size) (by (repeat' (first | (with_reducible exact Below.refl _ _) | (with_reducible assumption) | (with_reducible refine Below.drew ?_) | (with_reducible refine Below.drewNStep ?_ _) | (with_reducible refine Below.alloc ?_ ?_ _) | (with_reducible refine Below.setCell ?_ ?_ _) | (with_reducible refine Below.extStep ?_ ?_ _) | (simp; done) | (simp; omega)))) hWs)) (by simp <;> omega) _) (by simp <;> omega) _
        | false =>
          rw [hq] at hCB HB
          gi_wp2
          refine wpIn_wide.2 ?_
          (refine wp_region_tameX (by kernel_rfl) (by kernel_rfl) ?_); (repeat (first | (refine wpTame_skip rfl ?_; simp only [Act.put, List.setIfInBounds_toArray, List.set_cons_succ, List.set_cons_zero]) | (refine wpTame_pure rfl rfl rfl (fun K hK => ?_); go_big_quiet_op; refine hK _ ?_; clear hK K) | (refine wpTame_eff rfl rfl (fun K hK => ?_); go_big_op; (first | (go_at_call 120; refine (HS.out _).mono ?_; rintro e w' ⟨rfl, v1, rfl⟩) | (go_at_call 122; refine (HP.out _ (by (repeat' (first | (with_reducible exact Below.refl _ _) | (with_reducible assumption) | (with_reducible refine Below.drew ?_) | (with_reducible refine Below.drewNStep ?_ _) | (with_reducible refine Below.alloc ?_ ?_ _) | (with_reducible refine Below.setCell ?_ ?_ _) | (with_reducible refine Below.extStep ?_ ?_ _) | (simp; done) | (simp; omega))))).mono ?_; rintro e w' ⟨rfl, v2, rfl⟩) | (go_at_call 121; refine (HB.out _).mono ?_; rintro e w' ⟨rfl, v3, rfl⟩) | skip); (refine hK _ _ rfl (ext_of_below (by (repeat' (first | (with_reducible exact Below.refl _ _) | (with_reducible assumption) | (with_reducible refine Below.drew ?_) | (with_reducible refine Below.drewNStep ?_ _) | (with_reducible refine Below.alloc ?_ ?_ _) | (with_reducible refine Below.setCell ?_ ?_ _) | (with_reducible refine Below.extStep ?_ ?_ _) | (simp; done) | (simp; omega))))) ?_; clear hK K)))); (refine wpTame_nil ?_)
          gi_wp2
          go_roundw
          case rel => 
            refine ⟨k + 1, by go_num, by omega, hbr.trans (Below.lower (D := wr.heap.size) (by (repeat' (first | (with_reducible exact Below.refl _ _) | (with_reducible assumption) | (with_reducible refine Below.drew ?_) | (with_reducible refine Below.drewNStep ?_ _) | (with_reducible refine Below.alloc ?_ ?_ _) | (with_reducible refine Below.setCell ?_ ?_ _) | (with_reducible refine Below.extStep ?_ ?_ _) | (simp; done) | (simp; omega)))) hbr.size), fun j hj => ?_⟩
            rcases Nat.lt_or_ge j k with h | h
            · exact hno j h
            · obtain rfl : j = k := by omega
              exact hCB.out
          case measure => simp [intOf]; omega
      · obtain rfl : k = H.cans.length := by omega
        have hz2 := hidden (cansB_end hno)
        have m := Sim.of_below (D := 0) hbr
        replace r2 := m.frozen r1 r2
        replace r1 := m.cell r1
        replace g1 := has_of_cell r1
        gi_wp2
        have hDlt := (Array.getElem?_eq_some_iff.1 hD).1
        refine bodyPostM_cell (s := w.heap.size + 1) ((Below.heap_setCell _ _ _ _ (by simp <;> omega)).trans ((hbr.block _ hDlt).trans hD)) (by simp <;> omega) (cell_set r1) (fun X hX => by simp [results, Tryz.results88, go_sem, hX]) (fun o => retX (by rw [hz.out, hz2.out]; simp) ?_)
        refine Below.putObjStep (Below.setCell (hWw.trans (hbr.lower hWw.size)) (by simp <;> omega) _) (by simp <;> omega) _

theorem isFree_room {w : World} {b : Nat} {H : Hal} {S : Stg} (hR : Room w b H S) (hC : CorsIn H) (hN : H.cors.length ≤ 20) (hh : -5000 ≤ H.height ∧ H.height ≤ 5000) (x1 y1 z1 d1 x2 y2 z2 d2 : Int) (hd1 : 0 ≤ d1 ∧ d1 ≤ 100000) (hd2 : 0 ≤ d2 ∧ d2 ≤ 100000) (hx1 : -500000000 ≤ x1 ∧ x1 ≤ 500000000) (hy1 : -500000000 ≤ y1 ∧ y1 ≤ 500000000) (hz1 : -500000000 ≤ z1 ∧ z1 ≤ 500000000) (hx2 : -500000000 ≤ x2 ∧ x2 ≤ 500000000) (hy2 : -500000000 ≤ y2 ∧ y2 ≤ 500000000) (hz2 : -500000000 ≤ z2 ∧ z2 ≤ 500000000)
    (hcn : H.cans.length ≤ 1000) (hSt : ∀ i, i < H.cans.length → i < S.hs.length ∧ 0 ≤ intAt S.hs i ∧ intAt S.hs i < (canAt H.cans i).hs.length ∧ -10000 ≤ canZ H S i ∧ canZ H S i ≤ 10000)
    (hCan : ∀ i, i < H.cans.length → (-5000 ≤ (canAt H.cans i).f.x ∧ (canAt H.cans i).f.x ≤ 5000) ∧ (-5000 ≤ (canAt H.cans i).f.y ∧ (canAt H.cans i).f.y ≤ 5000) ∧ (-5000 ≤ (canAt H.cans i).t.x ∧ (canAt H.cans i).t.x ≤ 5000) ∧ (-5000 ≤ (canAt H.cans i).t.y ∧ (canAt H.cans i).t.y ≤ 5000)) :
    Calls Tryz.prog 88 #[.pointer (some ⟨b, 0, none⟩), .agg #[.int .i64 x1, .int .i64 y1, .int .i64 z1, .int .i64 d1, .int .i64 x2, .int .i64 y2, .int .i64 z2, .int .i64 d2]] w (RetX w (.bool (freeB H S x1 y1 z1 d1 x2 y2 z2 d2))) := by
  unfold freeB
  cases h : insideB H x1 y1 z1 d1 x2 y2 z2 d2 with
  | false => exact isFree_out hR hC hN hh x1 y1 z1 d1 x2 y2 z2 d2 hd1 hd2 hx1 hy1 hz1 hx2 hy2 hz2 h
  | true => exact isFree_in hR hC hN hh x1 y1 z1 d1 x2 y2 z2 d2 hd1 hd2 hx1 hy1 hz1 hx2 hy2 hz2 h hcn hSt hCan
end Go.Proofs.YtbonjgeglhbhnaaGreat
