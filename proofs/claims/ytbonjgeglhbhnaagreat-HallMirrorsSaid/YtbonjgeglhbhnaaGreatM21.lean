/- Whether the walls have nothing in common but the corners between neighbours. -/
import Derived.Test.YtbonjgeglhbhnaaGreatM20
set_option linter.unusedVariables false
set_option linter.unusedSimpArgs false
namespace Go.Proofs.YtbonjgeglhbhnaaGreat
open Go.RowKit Go.Shelf
attribute [local go_sem] Oper.semAt_some

/-- wall j in the way of wall i; .. through its beginning -/
def wayB (H : Hal) (j i : Nat) : Bool := blocksB (corAt H.cors j).x (corAt H.cors j).y (corAt H.cors (nxt H.cors.length j)).x (corAt H.cors (nxt H.cors.length j)).y (corAt H.cors i).x (corAt H.cors i).y 1 (corAt H.cors (nxt H.cors.length i)).x (corAt H.cors (nxt H.cors.length i)).y 1
def beginB (H : Hal) (j i : Nat) : Bool := holdsB (corAt H.cors j).x (corAt H.cors j).y (corAt H.cors (nxt H.cors.length j)).x (corAt H.cors (nxt H.cors.length j)).y (corAt H.cors i).x (corAt H.cors i).y 1
def badB (H : Hal) (i j : Nat) : Bool := !decide (i = j) && (wayB H j i || (!decide (nxt H.cors.length j = i) && beginB H j i))
def simpleB (H : Hal) : Bool := (List.range H.cors.length).all fun i => (List.range H.cors.length).all fun j => !badB H i j
theorem simpleB_stop {H : Hal} {i j : Nat} (hi : i < H.cors.length) (hj : j < H.cors.length) (h : badB H i j = true) : simpleB H = false := by
  unfold simpleB
  rw [List.all_eq_false]
  refine ⟨i, by simpa using hi, ?_⟩
  rw [Bool.not_eq_true, List.all_eq_false]
  exact ⟨j, by simpa using hj, by simp [h]⟩
theorem simpleB_end {H : Hal} (h : ∀ i, i < H.cors.length → ∀ j, j < H.cors.length → badB H i j = false) : simpleB H = true := by
  unfold simpleB
  rw [List.all_eq_true]
  intro i hi
  rw [List.all_eq_true]
  intro j hj
  simp [h i (by simpa using hi) j (by simpa using hj)]

structure SimI (H : Hal) (b s i : Nat) (W : World) : Prop where
  box : W.cell? ⟨s, 0, none⟩ = some (.pointer (some ⟨b, 0, none⟩))
  res : ∃ r, W.cell? ⟨s + 1, 0, none⟩ = some (.bool r)
  fres : W.frozen? ⟨s + 1, 0, none⟩ = false
  none : ∀ p, p < i → ∀ j, j < H.cors.length → badB H p j = false
theorem SimI.sim {H : Hal} {b s i D : Nat} {W W' : World} (m : Sim D W W') (h : SimI H b s i W) : SimI H b s i W' :=
  ⟨m.cell h.box, let ⟨r, hr⟩ := h.res; ⟨r, m.cell hr⟩, let ⟨r, hr⟩ := h.res; m.frozen hr h.fres, h.none⟩
structure SimX (H : Hal) (s : Nat) (C : Code) (W : World) : Prop where
  ret : C = .ret
  res : W.cell? ⟨s + 1, 0, none⟩ = some (.bool false)
  no : simpleB H = false
theorem SimX.sim {H : Hal} {s D : Nat} {C : Code} {W W' : World} (m : Sim D W W') (h : SimX H s C W) : SimX H s C W' := ⟨h.ret, m.cell h.res, h.no⟩
theorem _root_.Go.KeepsAll.sim {D B : Nat} {W V V' : World} (h : KeepsAll D W V) (m : Sim B V V') (hB : W.heap.size ≤ B) : KeepsAll D W V' :=
  ⟨Nat.le_trans h.size m.size, fun k o hk ho => m.same k o (h.same k o hk ho) (.inr (Nat.lt_of_lt_of_le (Array.getElem?_eq_some_iff.1 ho).1 hB))⟩
structure InI (H : Hal) (b s B C i j D : Nat) (W V : World) : Prop where
  box : V.cell? ⟨s, 0, none⟩ = some (.pointer (some ⟨b, 0, none⟩))
  res : ∃ r, V.cell? ⟨s + 1, 0, none⟩ = some (.bool r)
  fres : V.frozen? ⟨s + 1, 0, none⟩ = false
  ci : V.cell? ⟨B, 0, none⟩ = some (.int .i64 i)
  ed : EdgeIn V (B + 1) H i
  p0 : V.cell? ⟨C, 0, none⟩ = some (.int .i64 (corAt H.cors i).x)
  p1 : V.cell? ⟨C, 1, none⟩ = some (.int .i64 (corAt H.cors i).y)
  p2 : V.cell? ⟨C, 2, none⟩ = some (.int .i64 0)
  p3 : V.cell? ⟨C, 3, none⟩ = some (.int .i64 1)
  none : ∀ q, q < j → badB H i q = false
  keep : KeepsAll D W V
theorem InI.sim {H : Hal} {b s B C i j D Z : Nat} {W V V' : World} (m : Sim Z V V') (hZ : W.heap.size ≤ Z) (h : InI H b s B C i j D W V) : InI H b s B C i j D W V' :=
  ⟨m.cell h.box, let ⟨r, hr⟩ := h.res; ⟨r, m.cell hr⟩, let ⟨r, hr⟩ := h.res; m.frozen hr h.fres, m.cell h.ci, h.ed.sim m, m.cell h.p0, m.cell h.p1, m.cell h.p2, m.cell h.p3, h.none, h.keep.sim m hZ⟩
structure InX (H : Hal) (s D : Nat) (W : World) (C : Code) (V : World) : Prop where
  ret : C = .ret
  res : V.cell? ⟨s + 1, 0, none⟩ = some (.bool false)
  no : simpleB H = false
  keep : KeepsAll D W V
theorem InX.sim {H : Hal} {s D Z : Nat} {C : Code} {W V V' : World} (m : Sim Z V V') (hZ : W.heap.size ≤ Z) (h : InX H s D W C V) : InX H s D W C V' := ⟨h.ret, m.cell h.res, h.no, h.keep.sim m hZ⟩

/-- the frames of a round -/
def simA (H : Hal) (b s B i : Nat) : Act := { tmps := #[.pointer (some ⟨b, 0, none⟩), .pointer (some ⟨s, 0, none⟩), .pointer (some ⟨s + 1, 0, none⟩), .pointer (some ⟨B, 0, none⟩), .pointer (some ⟨B + 1, 0, none⟩), undef, undef, undef, undef, .pointer (some ⟨b, 0, none⟩), .func (.func 118) #[.pointer (some ⟨b, 0, none⟩)] #[], .int .i64 i, lineV H i, undef, undef, undef, undef, undef, undef, undef, undef, undef, undef, undef, undef, undef, undef, undef, undef, undef, undef, undef, undef, undef, undef, undef, undef, undef, undef, undef, undef, undef, undef, undef, undef, undef, undef], defers := [] }
def simA2 (H : Hal) (b s B i C B2 j : Nat) : Act := { tmps := #[.pointer (some ⟨b, 0, none⟩), .pointer (some ⟨s, 0, none⟩), .pointer (some ⟨s + 1, 0, none⟩), .pointer (some ⟨B, 0, none⟩), .pointer (some ⟨B + 1, 0, none⟩), .pointer (some ⟨C, 0, none⟩), .int .i64 j, .pointer (some ⟨B2, 0, none⟩), undef, .pointer (some ⟨b, 0, none⟩), .func (.func 118) #[.pointer (some ⟨b, 0, none⟩)] #[], .int .i64 i, lineV H i, .pointer (some ⟨B + 1, 0, none⟩), .agg #[.int .i64 ((corAt H.cors i).x), .int .i64 ((corAt H.cors i).y)], .agg #[.int .i64 ((corAt H.cors i).x), .int .i64 ((corAt H.cors i).y), .int .i64 0, .int .i64 1], .pointer (some ⟨b, 0, none⟩), .func (.func 118) #[.pointer (some ⟨b, 0, none⟩)] #[], .int .i64 j, lineV H j, undef, undef, undef, undef, undef, undef, undef, undef, undef, undef, undef, undef, undef, undef, undef, undef, undef, undef, undef, undef, undef, undef, undef, undef, undef, undef, undef], defers := [] }

set_option maxRecDepth 100000 in set_option maxHeartbeats 1000000 in
theorem isSimple_room {w : World} {b : Nat} {H : Hal} {S : Stg} (hR : Room w b H S) (hC : CorsIn H) (hN : H.cors.length ≤ 20) :
    Calls Tryz.prog 163 #[.pointer (some ⟨b, 0, none⟩)] w (RetX w (.bool (simpleB H))) := by
  refine (callsIn_wide (n := 10)).1 ?_
  refine callsIn_of_wp_marks Tryz.func163 rfl trivial ?_ rfl
  simp only [Tryz.ntmps163, List.size_toArray, List.length_cons, List.length_nil, Nat.reduceAdd, Nat.reduceSub, Array.replicate_succ, Array.replicate_zero, List.push_toArray, List.append_toArray, List.nil_append, List.cons_append]
  gi_wp2
  refine range_outer rfl (by omega) (gf := 118) (pre := #[.pointer (some ⟨b, 0, none⟩)]) rfl trivial (enters_of Tryz.func118 (by kernel_rfl) rfl) (n₀ := w.heap.size) (by simp; omega)
    (walls_iter hR (by (repeat' (first | (with_reducible exact Below.refl _ _) | (with_reducible assumption) | (with_reducible refine Below.drew ?_) | (with_reducible refine Below.drewNStep ?_ _) | (with_reducible refine Below.alloc ?_ ?_ _) | (with_reducible refine Below.setCell ?_ ?_ _) | (with_reducible refine Below.extStep ?_ ?_ _) | (simp; done) | (simp; omega)))) _ (by omega)) (fun k => rfl)
    (fun i W => SimI H b w.heap.size i W) (fun C W => SimX H w.heap.size C W) (fun k W W' s h => h.sim s) (fun c W W' s h => h.sim s) ?start
    (fun i a' W => ∃ B, w.heap.size + 2 ≤ B ∧ a' = simA H b w.heap.size B i ∧ W.cell? ⟨B, 0, none⟩ = some (.int .i64 i) ∧ EdgeIn W (B + 1) H i) (fun i a' W W' s ⟨B, h1, h2, h3, h4⟩ => ⟨B, h1, h2, s.cell h3, h4.sim s⟩) ?assign ?body ?done ?stop
  case start => exact ⟨by simp [go_sem], ⟨false, by simp [go_sem]⟩, by simp [go_sem], fun j hj => absurd hj (Nat.not_lt_zero j)⟩
  case assign =>
    intro l i W K hi hI hb hK
    have hsz : w.heap.size + 2 ≤ W.heap.size := by have := hb.size; simp at this; omega
    simp only [wallEnc, lineV]
    gi_wp2
    refine hK _ _ ((KeepsAll.alloc _ _ _).trans (KeepsAll.alloc _ _ _)) ((hb.alloc (by omega) _).alloc (by simp; omega) _) (hI.sim ((Sim.alloc 0 _ _).trans (Sim.alloc 0 _ _))) ⟨W.heap.size, by omega, ?_, ?_, ?_⟩
    · unfold simA lineV; simp
    · simp [go_sem]
    · have := EdgeIn.new (W.alloc (.cells #[.int .i64 i] 3)) H i 169
      simpa using this
  case body =>
    rintro l i a' W hi hl hr ⟨box, ⟨r, r1⟩, r2, hno⟩ ⟨B, hB, rfl, ci, hE⟩ hb
    have hsz : w.heap.size + 2 ≤ W.heap.size := by have := hb.size; simp at this; omega
    obtain ⟨e0, e1, e2, e3⟩ := hE
    have g0 := has_of_cell box
    have g1 := has_of_cell r1
    have g2 := has_of_cell ci
    have g3 := has_of_cell e0
    obtain ⟨m1, m2⟩ := hC i (by omega)
    obtain ⟨m3, m4⟩ := hC _ (nxt_lt (n := H.cors.length) (i := i) (by omega))
    unfold simA lineV
    gi_wp2
    refine ⟨trivial, ?_⟩
    refine (callsIn_wide.2 (cornerPoint_any _ _ _)).mono ?_
    rintro e w1 ⟨rfl, x, rfl⟩
    gi_wp2
    have hbw : ∀ o : Obj, Below W.heap.size W ((W.ext x).alloc o) := fun o => ((Below.refl _ _).extStep (Nat.le_refl _) x).alloc (by simp) o
    have hlt : l < W.heap.size := by obtain ⟨r0, hr0⟩ := hr; exact (Array.getElem?_eq_some_iff.1 hr0).1
    refine range_inner rfl (by obtain ⟨r0, hr0⟩ := hr; exact ⟨r0, ((hbw _).block l hlt).trans hr0⟩) (by omega) (gf := 118) (pre := #[.pointer (some ⟨b, 0, none⟩)]) rfl trivial (enters_of Tryz.func118 (by kernel_rfl) rfl) (n₀ := w.heap.size) (by simp; omega)
      ((walls_iter hR ((((show Below w.heap.size w _ by (repeat' (first | (with_reducible exact Below.refl _ _) | (with_reducible assumption) | (with_reducible refine Below.drew ?_) | (with_reducible refine Below.drewNStep ?_ _) | (with_reducible refine Below.alloc ?_ ?_ _) | (with_reducible refine Below.setCell ?_ ?_ _) | (with_reducible refine Below.extStep ?_ ?_ _) | (simp; done) | (simp; omega)))).trans hb)).trans ((hbw _).lower (by omega))) _ (by omega)).inRound l) (fun k => rfl)
      (fun j V => InI H b w.heap.size B (W.heap.size + x.heap.size) i j (w.heap.size + 2) W V) (fun C V => InX H w.heap.size (w.heap.size + 2) W C V) (fun k V V' s h => h.sim s (by simp; omega)) (fun c V V' s h => h.sim s (by simp; omega)) ?istart
      (fun j a' V => ∃ B2, W.heap.size + x.heap.size < B2 ∧ a' = simA2 H b w.heap.size B i (W.heap.size + x.heap.size) B2 j ∧ EdgeIn V B2 H j) (fun j a' V V' s ⟨B2, h1, h2, h3⟩ => ⟨B2, h1, h2, h3.sim s⟩) ?iassign ?ibody ?idone ?istop
    case istart =>
      have hs : Sim 0 W ((W.ext x).alloc (.cells #[.int .i64 (corAt H.cors i).x, .int .i64 (corAt H.cors i).y, .int .i64 0, .int .i64 1] 35)) := (Sim.ext _ _ _).trans (Sim.alloc _ _ _)
      refine ⟨hs.cell box, ⟨r, hs.cell r1⟩, hs.frozen r1 r2, hs.cell ci, EdgeIn.sim hs ⟨e0, e1, e2, e3⟩, ?_, ?_, ?_, ?_, fun j hj => absurd hj (Nat.not_lt_zero j), (KeepsAll.of_below (hbw _))⟩ <;> simp [go_sem]
    case iassign =>
      intro l2 j V K hj hI2 hb2 hK
      have hsz2 : W.heap.size + x.heap.size + 1 ≤ V.heap.size := by have := hb2.size; simp at this; omega
      simp only [wallEnc, lineV]
      gi_wp2
      refine hK _ _ (KeepsAll.alloc _ _ _) (hb2.alloc (by omega) _) (hI2.sim (Sim.alloc W.heap.size _ _) (Nat.le_refl _)) ⟨V.heap.size, by omega, ?_, EdgeIn.new _ _ _ _⟩
      unfold simA2 lineV; simp
    case idone =>
      intro V hV hbV
      exact ⟨by simpa using hV.keep, (hb.trans ((hbw _).lower (by omega))).trans hbV, hV.box, hV.res, hV.fres, fun p hp j hj => by
        rcases Nat.lt_or_ge p i with h | h
        · exact hno p h j hj
        · obtain rfl : p = i := by omega
          exact hV.none j hj⟩
    case istop =>
      rintro C V ⟨rfl, c1, hno2, hkp⟩ hbV
      gi_wp2
      exact ⟨by simpa using hkp, (hb.trans ((hbw _).lower (by omega))).trans hbV, rfl, c1, hno2⟩
    case ibody =>
      rintro l2 j a' V hj hl2 hr2 ⟨box, ⟨r, r1⟩, r2, ci, ⟨e0, e1, e2, e3⟩, p0, p1, p2, p3, hno2, hkp⟩ ⟨B2, hB2, rfl, ⟨d0, d1, d2, d3⟩⟩ hb2
      have hsz2 : W.heap.size + x.heap.size + 1 ≤ V.heap.size := by have := hb2.size; simp at this; omega
      have hRV : Room V b H S := hR.below (((show Below w.heap.size w _ by (repeat' (first | (with_reducible exact Below.refl _ _) | (with_reducible assumption) | (with_reducible refine Below.drew ?_) | (with_reducible refine Below.drewNStep ?_ _) | (with_reducible refine Below.alloc ?_ ?_ _) | (with_reducible refine Below.setCell ?_ ?_ _) | (with_reducible refine Below.extStep ?_ ?_ _) | (simp; done) | (simp; omega)))).trans hb).trans (((hbw _).lower (by omega)).trans hb2))
      obtain ⟨v4, v5, v6, v7, v8, v9, v10, hRV⟩ := hRV
      obtain ⟨A, c, rfl, hS⟩ := slc_form hRV.hal.cors
      have h5 := hRV.c5
      have hbb := hRV.has
      clear hS hRV hr hr2 hl2 hR
      have hB' : Hid (badB H i j = (!decide (i = j) && (wayB H j i || (!decide (nxt H.cors.length j = i) && beginB H j i)))) := rfl
      have hW' : Hid (wayB H j i = blocksB (corAt H.cors j).x (corAt H.cors j).y (corAt H.cors (nxt H.cors.length j)).x (corAt H.cors (nxt H.cors.length j)).y (corAt H.cors i).x (corAt H.cors i).y 1 (corAt H.cors (nxt H.cors.length i)).x (corAt H.cors (nxt H.cors.length i)).y 1) := rfl
      have hG' : Hid (beginB H j i = holdsB (corAt H.cors j).x (corAt H.cors j).y (corAt H.cors (nxt H.cors.length j)).x (corAt H.cors (nxt H.cors.length j)).y (corAt H.cors i).x (corAt H.cors i).y 1) := rfl
      have hSt : Hid (badB H i j = true → simpleB H = false) := simpleB_stop hi hj
      obtain ⟨n1, n2⟩ := hC j (by omega)
      obtain ⟨n3, n4⟩ := hC _ (nxt_lt (n := H.cors.length) (i := j) (by omega))
      have hnl := nxt_lt (n := H.cors.length) (i := j) hj
      have e6 := nxt_mod (n := H.cors.length) (i := j) hj
      have e5 : IntKind.i64.wrap ((j : Int) + 1) = (j : Int) + 1 := IntWalk.i64_in _ (by omega)
      have e7 : ((j : Int) + 1).tmod (H.cors.length : Int) = (nxt H.cors.length j : Int) := by rw [Int.tmod_eq_emod_of_nonneg (by omega)]; exact e6
      unfold simA2 lineV
      generalize ha1 : (corAt H.cors i).x = a1 at *
      generalize ha2 : (corAt H.cors i).y = a2 at *
      generalize ha3 : (corAt H.cors (nxt H.cors.length i)).x = a3 at *
      generalize ha4 : (corAt H.cors (nxt H.cors.length i)).y = a4 at *
      generalize (corAt H.cors j).x = b1 at *
      generalize (corAt H.cors j).y = b2 at *
      generalize (corAt H.cors (nxt H.cors.length j)).x = b3 at *
      generalize (corAt H.cors (nxt H.cors.length j)).y = b4 at *
      generalize nxt H.cors.length j = nj at *
      have k0 := has_of_cell box
      have k1 := has_of_cell r1
      have k2 := has_of_cell ci
      have k3 := has_of_cell e0
      have k4 := has_of_cell p0
      have k5 := has_of_cell d0
      have hno3 : badB H i j = false → ∀ q, q < j + 1 → badB H i q = false := fun h q hq => by
        rcases Nat.lt_or_ge q j with h' | h'
        · exact hno2 q h'
        · obtain rfl : q = j := by omega
          exact h
      have hno3 := hidden hno3
      by_cases hij : i = j
      · subst hij
        have hbf : badB H i i = false := by rw [hB'.out]; simp
        clear hB' hW' hG' hSt
        gi_wp2
        subst ha1 ha2 ha3 ha4
        refine bodyQ_next (by (repeat' (first | (with_reducible exact Below.refl _ _) | (with_reducible assumption) | (with_reducible refine Below.drew ?_) | (with_reducible refine Below.drewNStep ?_ _) | (with_reducible refine Below.alloc ?_ ?_ _) | (with_reducible refine Below.setCell ?_ ?_ _) | (with_reducible refine Below.extStep ?_ ?_ _) | (simp; done) | (simp; omega)))) (by first | omega | (simp; omega)) hb2 (fun m => ⟨m.cell box, ⟨r, m.cell r1⟩, m.frozen r1 r2, m.cell ci, EdgeIn.sim m ⟨e0, e1, e2, e3⟩, m.cell p0, m.cell p1, m.cell p2, m.cell p3, hno3.out hbf, hkp.sim m (by first | omega | (simp; omega))⟩)
      · have hij1 : ((i : Int) == (j : Int)) = false := by simp; omega
        have HB := hidden (fun X => blocks_any b1 b2 b3 b4 n1 n2 n3 n4 a1 a2 0 1 a3 a4 0 1 X (by omega) (by omega) (by omega) (by omega) (by omega) (by omega) (by omega) (by omega))
        have HO := hidden (fun X => holds_any b1 b2 b3 b4 a1 a2 0 1 X n1 n2 n3 n4 (by omega) (by omega) (by omega) (by omega))
        have hB2 := hB'.out
        simp only [hij, decide_false, Bool.not_false, Bool.true_and] at hB2
        clear hB'
        cases q1 : blocksB b1 b2 b3 b4 a1 a2 1 a3 a4 1 with
        | true =>
          have hbad := hidden (hSt.out (by rw [hB2, hW'.out, q1]; rfl))
          rw [q1] at HB
          clear hSt hB2 hW' hG' hno3 HO
          cases q2 : ((nj : Int) == (i : Int))
          all_goals
            gi_wp2
            (refine wpIn_region_tameX (by kernel_rfl) (by kernel_rfl) ?_); (repeat (first | (refine wpTame_skip rfl ?_; simp only [Act.put, List.setIfInBounds_toArray, List.set_cons_succ, List.set_cons_zero]) | (refine wpTame_pure rfl rfl rfl (fun K hK => ?_); go_big_quiet_op; refine hK _ ?_; clear hK K) | (refine wpTame_eff rfl rfl (fun K hK => ?_); go_big_op; (first | fail | skip); (refine hK _ _ rfl (ext_of_below (by (repeat' (first | (with_reducible exact Below.refl _ _) | (with_reducible assumption) | (with_reducible refine Below.drew ?_) | (with_reducible refine Below.drewNStep ?_ _) | (with_reducible refine Below.alloc ?_ ?_ _) | (with_reducible refine Below.setCell ?_ ?_ _) | (with_reducible refine Below.extStep ?_ ?_ _) | (simp; done) | (simp; omega))))) ?_; clear hK K)))); (refine wpTame_nil ?_)
            gi_wp2
            (refine wpIn_region_tameX (by kernel_rfl) (by kernel_rfl) ?_); (repeat (first | (refine wpTame_skip rfl ?_; simp only [Act.put, List.setIfInBounds_toArray, List.set_cons_succ, List.set_cons_zero]) | (refine wpTame_pure rfl rfl rfl (fun K hK => ?_); go_big_quiet_op; refine hK _ ?_; clear hK K) | (refine wpTame_eff rfl rfl (fun K hK => ?_); go_big_op; (first | (go_at_call 179; refine (way_any _ _ _ _ _).mono ?_; rintro e w' ⟨rfl, y1, rfl⟩) | (go_at_call 119; refine (HB.out _).mono ?_; rintro e w' ⟨rfl, y2, rfl⟩) | skip); (refine hK _ _ rfl (ext_of_below (by (repeat' (first | (with_reducible exact Below.refl _ _) | (with_reducible assumption) | (with_reducible refine Below.drew ?_) | (with_reducible refine Below.drewNStep ?_ _) | (with_reducible refine Below.alloc ?_ ?_ _) | (with_reducible refine Below.setCell ?_ ?_ _) | (with_reducible refine Below.extStep ?_ ?_ _) | (simp; done) | (simp; omega))))) ?_; clear hK K)))); (refine wpTame_nil ?_)
            gi_wp2
            refine bodyQ_leaveSet (by (repeat' (first | (with_reducible exact Below.refl _ _) | (with_reducible assumption) | (with_reducible refine Below.drew ?_) | (with_reducible refine Below.drewNStep ?_ _) | (with_reducible refine Below.alloc ?_ ?_ _) | (with_reducible refine Below.setCell ?_ ?_ _) | (with_reducible refine Below.extStep ?_ ?_ _) | (simp; done) | (simp; omega)))) (by first | omega | (simp; omega)) (by first | omega | (simp; done) | (simp; omega)) (by first | omega | (simp; done) | (simp; omega)) hb2 (fun m => ⟨rfl, cell_set (m.cell r1), hbad.out, (hkp.sim m (by first | omega | (simp; omega))).trans (KeepsAll.setCell _ _ _ (by first | omega | (simp; done) | (simp; omega)))⟩)
        | false =>
          rw [q1] at HB
          have hW2 := hW'.out
          rw [q1] at hW2
          rw [hW2, Bool.false_or] at hB2
          clear hW' hW2
          cases q2 : ((nj : Int) == (i : Int)) with
          | true =>
            have hbf : Hid (badB H i j = false) := by
              unfold Hid
              have : nj = i := by simp at q2; omega
              rw [hB2]; simp [this]
            clear hSt hB2 hG' HO
            gi_wp2
            (refine wpIn_region_tameX (by kernel_rfl) (by kernel_rfl) ?_); (repeat (first | (refine wpTame_skip rfl ?_; simp only [Act.put, List.setIfInBounds_toArray, List.set_cons_succ, List.set_cons_zero]) | (refine wpTame_pure rfl rfl rfl (fun K hK => ?_); go_big_quiet_op; refine hK _ ?_; clear hK K) | (refine wpTame_eff rfl rfl (fun K hK => ?_); go_big_op; (first | fail | skip); (refine hK _ _ rfl (ext_of_below (by (repeat' (first | (with_reducible exact Below.refl _ _) | (with_reducible assumption) | (with_reducible refine Below.drew ?_) | (with_reducible refine Below.drewNStep ?_ _) | (with_reducible refine Below.alloc ?_ ?_ _) | (with_reducible refine Below.setCell ?_ ?_ _) | (with_reducible refine Below.extStep ?_ ?_ _) | (simp; done) | (simp; omega))))) ?_; clear hK K)))); (refine wpTame_nil ?_)
            gi_wp2
            (refine wpIn_region_tameX (by kernel_rfl) (by kernel_rfl) ?_); (repeat (first | (refine wpTame_skip rfl ?_; simp only [Act.put, List.setIfInBounds_toArray, List.set_cons_succ, List.set_cons_zero]) | (refine wpTame_pure rfl rfl rfl (fun K hK => ?_); go_big_quiet_op; refine hK _ ?_; clear hK K) | (refine wpTame_eff rfl rfl (fun K hK => ?_); go_big_op; (first | (go_at_call 179; refine (way_any _ _ _ _ _).mono ?_; rintro e w' ⟨rfl, y1, rfl⟩) | (go_at_call 119; refine (HB.out _).mono ?_; rintro e w' ⟨rfl, y2, rfl⟩) | (go_at_call 151; refine (HO.out _).mono ?_; rintro e w' ⟨rfl, y3, rfl⟩) | skip); (refine hK _ _ rfl (ext_of_below (by (repeat' (first | (with_reducible exact Below.refl _ _) | (with_reducible assumption) | (with_reducible refine Below.drew ?_) | (with_reducible refine Below.drewNStep ?_ _) | (with_reducible refine Below.alloc ?_ ?_ _) | (with_reducible refine Below.setCell ?_ ?_ _) | (with_reducible refine Below.extStep ?_ ?_ _) | (simp; done) | (simp; omega))))) ?_; clear hK K)))); (refine wpTame_nil ?_)
            gi_wp2
            subst ha1 ha2 ha3 ha4
            refine bodyQ_next (by (repeat' (first | (with_reducible exact Below.refl _ _) | (with_reducible assumption) | (with_reducible refine Below.drew ?_) | (with_reducible refine Below.drewNStep ?_ _) | (with_reducible refine Below.alloc ?_ ?_ _) | (with_reducible refine Below.setCell ?_ ?_ _) | (with_reducible refine Below.extStep ?_ ?_ _) | (simp; done) | (simp; omega)))) (by first | omega | (simp; omega)) hb2 (fun m => ⟨m.cell box, ⟨r, m.cell r1⟩, m.frozen r1 r2, m.cell ci, EdgeIn.sim m ⟨e0, e1, e2, e3⟩, m.cell p0, m.cell p1, m.cell p2, m.cell p3, hno3.out hbf.out, hkp.sim m (by first | omega | (simp; omega))⟩)
          | false =>
            have hnij : decide (nj = i) = false := by simp at q2 ⊢; omega
            rw [hnij, Bool.not_false, Bool.true_and, hG'.out] at hB2
            cases q3 : holdsB b1 b2 b3 b4 a1 a2 1 with
            | true =>
              have hbad := hidden (hSt.out (by rw [hB2, q3]))
              rw [q3] at HO
              clear hSt hB2 hG' hno3
              gi_wp2
              (refine wpIn_region_tameX (by kernel_rfl) (by kernel_rfl) ?_); (repeat (first | (refine wpTame_skip rfl ?_; simp only [Act.put, List.setIfInBounds_toArray, List.set_cons_succ, List.set_cons_zero]) | (refine wpTame_pure rfl rfl rfl (fun K hK => ?_); go_big_quiet_op; refine hK _ ?_; clear hK K) | (refine wpTame_eff rfl rfl (fun K hK => ?_); go_big_op; (first | fail | skip); (refine hK _ _ rfl (ext_of_below (by (repeat' (first | (with_reducible exact Below.refl _ _) | (with_reducible assumption) | (with_reducible refine Below.drew ?_) | (with_reducible refine Below.drewNStep ?_ _) | (with_reducible refine Below.alloc ?_ ?_ _) | (with_reducible refine Below.setCell ?_ ?_ _) | (with_reducible refine Below.extStep ?_ ?_ _) | (simp; done) | (simp; omega))))) ?_; clear hK K)))); (refine wpTame_nil ?_)
              gi_wp2
              (refine wpIn_region_tameX (by kernel_rfl) (by kernel_rfl) ?_); (repeat (first | (refine wpTame_skip rfl ?_; simp only [Act.put, List.setIfInBounds_toArray, List.set_cons_succ, List.set_cons_zero]) | (refine wpTame_pure rfl rfl rfl (fun K hK => ?_); go_big_quiet_op; refine hK _ ?_; clear hK K) | (refine wpTame_eff rfl rfl (fun K hK => ?_); go_big_op; (first | (go_at_call 179; refine (way_any _ _ _ _ _).mono ?_; rintro e w' ⟨rfl, y1, rfl⟩) | (go_at_call 119; refine (HB.out _).mono ?_; rintro e w' ⟨rfl, y2, rfl⟩) | (go_at_call 151; refine (HO.out _).mono ?_; rintro e w' ⟨rfl, y3, rfl⟩) | skip); (refine hK _ _ rfl (ext_of_below (by (repeat' (first | (with_reducible exact Below.refl _ _) | (with_reducible assumption) | (with_reducible refine Below.drew ?_) | (with_reducible refine Below.drewNStep ?_ _) | (with_reducible refine Below.alloc ?_ ?_ _) | (with_reducible refine Below.setCell ?_ ?_ _) | (with_reducible refine Below.extStep ?_ ?_ _) | (simp; done) | (simp; omega))))) ?_; clear hK K)))); (refine wpTame_nil ?_)
              gi_wp2
              refine bodyQ_leaveSet (by (repeat' (first | (with_reducible exact Below.refl _ _) | (with_reducible assumption) | (with_reducible refine Below.drew ?_) | (with_reducible refine Below.drewNStep ?_ _) | (with_reducible refine Below.alloc ?_ ?_ _) | (with_reducible refine Below.setCell ?_ ?_ _) | (with_reducible refine Below.extStep ?_ ?_ _) | (simp; done) | (simp; omega)))) (by first | omega | (simp; omega)) (by first | omega | (simp; done) | (simp; omega)) (by first | omega | (simp; done) | (simp; omega)) hb2 (fun m => ⟨rfl, cell_set (m.cell r1), hbad.out, (hkp.sim m (by first | omega | (simp; omega))).trans (KeepsAll.setCell _ _ _ (by first | omega | (simp; done) | (simp; omega)))⟩)
            | false =>
              have hbf : Hid (badB H i j = false) := by unfold Hid; rw [hB2, q3]
              rw [q3] at HO
              clear hSt hB2 hG'
              gi_wp2
              (refine wpIn_region_tameX (by kernel_rfl) (by kernel_rfl) ?_); (repeat (first | (refine wpTame_skip rfl ?_; simp only [Act.put, List.setIfInBounds_toArray, List.set_cons_succ, List.set_cons_zero]) | (refine wpTame_pure rfl rfl rfl (fun K hK => ?_); go_big_quiet_op; refine hK _ ?_; clear hK K) | (refine wpTame_eff rfl rfl (fun K hK => ?_); go_big_op; (first | fail | skip); (refine hK _ _ rfl (ext_of_below (by (repeat' (first | (with_reducible exact Below.refl _ _) | (with_reducible assumption) | (with_reducible refine Below.drew ?_) | (with_reducible refine Below.drewNStep ?_ _) | (with_reducible refine Below.alloc ?_ ?_ _) | (with_reducible refine Below.setCell ?_ ?_ _) | (with_reducible refine Below.extStep ?_ ?_ _) | (simp; done) | (simp; omega))))) ?_; clear hK K)))); (refine wpTame_nil ?_)
              gi_wp2
              (refine wpIn_region_tameX (by kernel_rfl) (by kernel_rfl) ?_); (repeat (first | (refine wpTame_skip rfl ?_; simp only [Act.put, List.setIfInBounds_toArray, List.set_cons_succ, List.set_cons_zero]) | (refine wpTame_pure rfl rfl rfl (fun K hK => ?_); go_big_quiet_op; refine hK _ ?_; clear hK K) | (refine wpTame_eff rfl rfl (fun K hK => ?_); go_big_op; (first | (go_at_call 179; refine (way_any _ _ _ _ _).mono ?_; rintro e w' ⟨rfl, y1, rfl⟩) | (go_at_call 119; refine (HB.out _).mono ?_; rintro e w' ⟨rfl, y2, rfl⟩) | (go_at_call 151; refine (HO.out _).mono ?_; rintro e w' ⟨rfl, y3, rfl⟩) | skip); (refine hK _ _ rfl (ext_of_below (by (repeat' (first | (with_reducible exact Below.refl _ _) | (with_reducible assumption) | (with_reducible refine Below.drew ?_) | (with_reducible refine Below.drewNStep ?_ _) | (with_reducible refine Below.alloc ?_ ?_ _) | (with_reducible refine Below.setCell ?_ ?_ _) | (with_reducible refine Below.extStep ?_ ?_ _) | (simp; done) | (simp; omega))))) ?_; clear hK K)))); (refine wpTame_nil ?_)
              gi_wp2
              subst ha1 ha2 ha3 ha4
              refine bodyQ_next (by (repeat' (first | (with_reducible exact Below.refl _ _) | (with_reducible assumption) | (with_reducible refine Below.drew ?_) | (with_reducible refine Below.drewNStep ?_ _) | (with_reducible refine Below.alloc ?_ ?_ _) | (with_reducible refine Below.setCell ?_ ?_ _) | (with_reducible refine Below.extStep ?_ ?_ _) | (simp; done) | (simp; omega)))) (by first | omega | (simp; omega)) hb2 (fun m => ⟨m.cell box, ⟨r, m.cell r1⟩, m.frozen r1 r2, m.cell ci, EdgeIn.sim m ⟨e0, e1, e2, e3⟩, m.cell p0, m.cell p1, m.cell p2, m.cell p3, hno3.out hbf.out, hkp.sim m (by first | omega | (simp; omega))⟩)
  case done =>
    rintro W ⟨box, ⟨r, r1⟩, r2, hno⟩ hb hD
    have hz := hidden (simpleB_end hno)
    have g1 := has_of_cell r1
    clear hno hR
    gi_wp2
    have hDlt := (Array.getElem?_eq_some_iff.1 hD).1
    refine bodyPostM_cell (s := w.heap.size + 1) ((Below.heap_setCell _ _ _ _ (by simp <;> omega)).trans hD) (by simp <;> omega) (cell_set r1) (fun X hX => by simp [results, Tryz.results163, go_sem, hX]) (fun o => retX (by rw [hz.out]) ?_)
    refine Below.putObjStep (Below.setCell ((show Below w.heap.size w _ by (repeat' (first | (with_reducible exact Below.refl _ _) | (with_reducible assumption) | (with_reducible refine Below.drew ?_) | (with_reducible refine Below.drewNStep ?_ _) | (with_reducible refine Below.alloc ?_ ?_ _) | (with_reducible refine Below.setCell ?_ ?_ _) | (with_reducible refine Below.extStep ?_ ?_ _) | (simp; done) | (simp; omega)))).trans hb) (by simp <;> omega) _) (by simp <;> omega) _
  case stop =>
    rintro c' W ⟨rfl, r1, hy⟩ hb hD
    have hz := hidden hy
    have g1 := has_of_cell r1
    gi_wp2
    refine bodyPostM_cell (s := w.heap.size + 1) hD (by simp <;> omega) r1 (fun X hX => by simp [results, Tryz.results163, go_sem, hX]) (fun o => retX (by rw [hz.out]) ?_)
    refine Below.putObjStep ((show Below w.heap.size w _ by (repeat' (first | (with_reducible exact Below.refl _ _) | (with_reducible assumption) | (with_reducible refine Below.drew ?_) | (with_reducible refine Below.drewNStep ?_ _) | (with_reducible refine Below.alloc ?_ ?_ _) | (with_reducible refine Below.setCell ?_ ?_ _) | (with_reducible refine Below.extStep ?_ ?_ _) | (simp; done) | (simp; omega)))).trans hb) (by simp <;> omega) _
end Go.Proofs.YtbonjgeglhbhnaaGreat
