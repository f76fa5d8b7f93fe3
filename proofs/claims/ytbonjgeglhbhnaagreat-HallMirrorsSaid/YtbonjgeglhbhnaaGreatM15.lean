/- Whether a point lies inside of a plan. -/
import Derived.Test.YtbonjgeglhbhnaaGreatM14
import Derived.Test.YtbonjgeglhbhnaaGreatM06
import Derived.Test.YtbonjgeglhbhnaaGreatM11
set_option linter.unusedVariables false
set_option linter.unusedSimpArgs false
namespace Go.Proofs.YtbonjgeglhbhnaaGreat
open Go.RowKit Go.Shelf
attribute [local go_sem] Oper.semAt_some

/-- whether the point lies on wall k -/
def onWall (H : Hal) (x y n : Int) (k : Nat) : Bool := holdsB (corAt H.cors k).x (corAt H.cors k).y (corAt H.cors (nxt H.cors.length k)).x (corAt H.cors (nxt H.cors.length k)).y x y n
def stradB (y1 y2 y n : Int) : Bool := decide (y1 * n ≤ y) != decide (y2 * n ≤ y)
def leftB (x1 y1 x2 y2 x y n : Int) : Bool := decide (offP (plK x1 y1 x2 y2) (plA x1 y1 x2 y2) x y 0 n < 0)
def crossW (H : Hal) (x y n : Int) (k : Nat) : Bool := stradB (corAt H.cors k).y (corAt H.cors (nxt H.cors.length k)).y y n && leftB (corAt H.cors k).x (corAt H.cors k).y (corAt H.cors (nxt H.cors.length k)).x (corAt H.cors (nxt H.cors.length k)).y x y n
/-- odd, behind k walls -/
def oddTo (H : Hal) (x y n : Int) : Nat → Bool
  | 0 => false
  | k + 1 => if crossW H x y n k then !oddTo H x y n k else oddTo H x y n k
def coversB (H : Hal) (x y n : Int) : Bool := (List.range H.cors.length).all (fun k => !onWall H x y n k) && oddTo H x y n H.cors.length

theorem coversB_stop {H : Hal} {x y n : Int} {j : Nat} (hj : j < H.cors.length) (h : onWall H x y n j = true) : coversB H x y n = false := by
  unfold coversB
  have : (List.range H.cors.length).all (fun k => !onWall H x y n k) = false := by
    rw [List.all_eq_false]; exact ⟨j, by simpa using hj, by simp [h]⟩
  simp [this]
theorem coversB_end {H : Hal} {x y n : Int} (h : ∀ j, j < H.cors.length → onWall H x y n j = false) : coversB H x y n = oddTo H x y n H.cors.length := by
  unfold coversB
  have : (List.range H.cors.length).all (fun k => !onWall H x y n k) = true := by
    rw [List.all_eq_true]; intro j hj; simp [h j (by simpa using hj)]
  simp [this]

structure CovI (H : Hal) (x y z n : Int) (s k : Nat) (W : World) : Prop where
  odd : W.cell? ⟨s + 2, 0, none⟩ = some (.bool (oddTo H x y n k))
  fodd : W.frozen? ⟨s + 2, 0, none⟩ = false
  res : ∃ r, W.cell? ⟨s + 1, 0, none⟩ = some (.bool r)
  fres : W.frozen? ⟨s + 1, 0, none⟩ = false
  c0 : W.cell? ⟨s, 0, none⟩ = some (.int .i64 x)
  c1 : W.cell? ⟨s, 1, none⟩ = some (.int .i64 y)
  c2 : W.cell? ⟨s, 2, none⟩ = some (.int .i64 z)
  c3 : W.cell? ⟨s, 3, none⟩ = some (.int .i64 n)
  none : ∀ j, j < k → onWall H x y n j = false
theorem CovI.sim {H : Hal} {x y z n : Int} {s k D : Nat} {W W' : World} (m : Sim D W W') (h : CovI H x y z n s k W) : CovI H x y z n s k W' :=
  ⟨m.cell h.odd, m.frozen h.odd h.fodd, let ⟨r, hr⟩ := h.res; ⟨r, m.cell hr⟩, let ⟨r, hr⟩ := h.res; m.frozen hr h.fres, m.cell h.c0, m.cell h.c1, m.cell h.c2, m.cell h.c3, h.none⟩
theorem CovI.start (w : World) (H : Hal) (x y z n : Int) (p q r : Nat) : CovI H x y z n w.heap.size 0 (((w.alloc (.cells #[.int .i64 x, .int .i64 y, .int .i64 z, .int .i64 n] p)).alloc (.cells #[.bool false] q)).alloc (.cells #[.bool false] r)) := by
  constructor <;> simp [go_sem, oddTo]
structure CovX (H : Hal) (x y n : Int) (s : Nat) (c : Code) (W : World) : Prop where
  ret : c = .ret
  res : W.cell? ⟨s + 1, 0, none⟩ = some (.bool false)
  no : coversB H x y n = false
theorem CovX.sim {H : Hal} {x y n : Int} {s D : Nat} {c : Code} {W W' : World} (m : Sim D W W') (h : CovX H x y n s c W) : CovX H x y n s c W' := ⟨h.ret, m.cell h.res, h.no⟩

/-- the frame of a round -/
def covA (H : Hal) (x y z n : Int) (b s B k : Nat) : Act := { tmps := #[.pointer (some ⟨b, 0, none⟩), .agg #[.int .i64 x, .int .i64 y, .int .i64 z, .int .i64 n], undef, .pointer (some ⟨s, 0, none⟩), .pointer (some ⟨s + 1, 0, none⟩), .pointer (some ⟨s + 1 + 1, 0, none⟩), undef, .pointer (some ⟨B, 0, none⟩), undef, .pointer (some ⟨b, 0, none⟩), .func (.func 118) #[.pointer (some ⟨b, 0, none⟩)] #[], .int .i64 k, lineV H k, undef, undef, undef, undef, undef, undef, undef, undef, undef, undef, undef, undef, undef, undef, undef, undef, undef, undef, undef, undef, undef, undef, undef, undef, undef, undef, undef, undef, undef, undef, undef, undef, undef], defers := [] }

set_option maxRecDepth 100000 in set_option maxHeartbeats 1000000 in
theorem covers_room {w : World} {b : Nat} {H : Hal} {S : Stg} (hR : Room w b H S) (hC : CorsIn H) (hN : H.cors.length ≤ 20) (x y z n : Int) (hn : 0 ≤ n ∧ n ≤ 100000000000000)
    (hx : -1000000000000000000 ≤ x ∧ x ≤ 1000000000000000000) (hy : -1000000000000000000 ≤ y ∧ y ≤ 1000000000000000000) (hz : -1000000000000000000 ≤ z ∧ z ≤ 1000000000000000000) :
    Calls Tryz.prog 113 #[.pointer (some ⟨b, 0, none⟩), .agg #[.int .i64 x, .int .i64 y, .int .i64 z, .int .i64 n]] w (RetX w (.bool (coversB H x y n))) := by
  refine (callsIn_wide (n := 10)).1 ?_
  refine callsIn_of_wp_marks Tryz.func113 rfl trivial ?_ rfl
  simp only [Tryz.ntmps113, List.size_toArray, List.length_cons, List.length_nil, Nat.reduceAdd, Nat.reduceSub, Array.replicate_succ, Array.replicate_zero, List.push_toArray, List.append_toArray, List.nil_append, List.cons_append]
  gi_wp2
  have hb' : ∀ p q r, Below w.heap.size w (((w.alloc (.cells #[.int .i64 x, .int .i64 y, .int .i64 z, .int .i64 n] p)).alloc (.cells #[.bool false] q)).alloc (.cells #[.bool false] r)) := fun _ _ _ => (((Below.refl _ _).alloc (Nat.le_refl _) _).alloc (by simp) _).alloc (by simp; omega) _
  refine range_outer rfl (by omega) (gf := 118) (pre := #[.pointer (some ⟨b, 0, none⟩)]) rfl trivial (enters_of Tryz.func118 (by kernel_rfl) rfl) (n₀ := w.heap.size) (by simp; omega)
    (walls_iter hR ((((Below.refl _ _).alloc (Nat.le_refl _) _).alloc (by simp) _).alloc (by simp; omega) _) _ (by omega)) (fun k => rfl)
    (fun k W => CovI H x y z n w.heap.size k W) (fun c W => CovX H x y n w.heap.size c W) (fun k W W' s h => h.sim s) (fun c W W' s h => h.sim s) ?start
    (fun k a' W => ∃ B, w.heap.size + 3 ≤ B ∧ a' = covA H x y z n b w.heap.size B k ∧ EdgeIn W B H k) (fun k a' W W' s ⟨B, h1, h2, h3⟩ => ⟨B, h1, h2, h3.sim s⟩) ?assign ?body ?done ?stop
  case start => exact CovI.start _ _ _ _ _ _ _ _ _
  case assign =>
    intro l k W K hk hi hb hK
    simp only [wallEnc, lineV]
    gi_wp2
    have hsz : w.heap.size + 3 ≤ W.heap.size := by have := hb.size; simpa using this
    refine hK _ _ (KeepsAll.alloc _ _ _) (hb.alloc (by omega) _) (hi.sim (Sim.alloc 0 _ _)) ⟨W.heap.size, by omega, rfl, EdgeIn.new _ _ _ _⟩
  case body =>
    rintro l k a' W hk hl hr hi ⟨B, hB, rfl, ⟨e0, e1, e2, e3⟩⟩ hb
    obtain ⟨o1, o2, ⟨r, r1⟩, r2, c0, c1, c2, c3, hno⟩ := hi
    have hO : Hid (oddTo H x y n (k + 1) = if (stradB (corAt H.cors k).y (corAt H.cors (nxt H.cors.length k)).y y n && leftB (corAt H.cors k).x (corAt H.cors k).y (corAt H.cors (nxt H.cors.length k)).x (corAt H.cors (nxt H.cors.length k)).y x y n) then !oddTo H x y n k else oddTo H x y n k) := rfl
    have hW : Hid (onWall H x y n k = holdsB (corAt H.cors k).x (corAt H.cors k).y (corAt H.cors (nxt H.cors.length k)).x (corAt H.cors (nxt H.cors.length k)).y x y n) := rfl
    obtain ⟨a1, a2⟩ := hC k (by omega)
    obtain ⟨b1, b2⟩ := hC _ (nxt_lt (n := H.cors.length) (i := k) (by omega))
    clear hl hr hR
    unfold covA lineV
    generalize (corAt H.cors k).x = x1 at *
    generalize (corAt H.cors k).y = y1 at *
    generalize (corAt H.cors (nxt H.cors.length k)).x = x2 at *
    generalize (corAt H.cors (nxt H.cors.length k)).y = y2 at *
    have hm1 := mul_bd a2 hn (by omega)
    have hm2 := mul_bd b2 hn (by omega)
    have hm3 := mul_bd (plA_rng (c := x2) (d := y2) a1 a2) hn (by omega)
    generalize oddTo H x y n k = od at *
    have hsz : w.heap.size + 3 ≤ W.heap.size := by have := hb.size; simpa using this
    have g0 := has_of_cell c0
    have g1 := has_of_cell r1
    have g2 := has_of_cell o1
    have gB := has_of_cell e0
    gi_wp2_with fail
    refine ⟨trivial, ?_⟩
    refine (callsIn_wide.2 (holds_any x1 y1 x2 y2 x y z n _ a1 a2 b1 b2 hn hx hy hz)).mono ?_
    rintro e w1 ⟨rfl, v1, rfl⟩
    cases hh : holdsB x1 y1 x2 y2 x y n with
    | true =>
      rw [hh] at hW
      gi_wp2
      refine bodyQ_leaveSet (by (repeat' (first | (with_reducible exact Below.refl _ _) | (with_reducible assumption) | (with_reducible refine Below.drew ?_) | (with_reducible refine Below.drewNStep ?_ _) | (with_reducible refine Below.alloc ?_ ?_ _) | (with_reducible refine Below.setCell ?_ ?_ _) | (with_reducible refine Below.extStep ?_ ?_ _) | (simp; done) | (simp; omega)))) (by omega) (by simp <;> omega) (by simp) hb (fun m => ⟨rfl, cell_set (m.cell r1), coversB_stop hk hW.out⟩)
    | false =>
      rw [hh] at hW
      have hno' : ∀ j, j < k + 1 → onWall H x y n j = false := fun j hj => by
        rcases Nat.lt_or_ge j k with h | h
        · exact hno j h
        · obtain rfl : j = k := by omega
          exact hW.out
      have q := plK_rng x1 y1 x2 y2
      cases p1 : decide (y1 * n ≤ y) <;> cases p2 : decide (y2 * n ≤ y)
      · have hO' : oddTo H x y n (k + 1) = od := by rw [hO.out]; simp [stradB, p1, p2]
        clear hO
        gi_wp2
        (refine wpIn_region_tameX (by kernel_rfl) (by kernel_rfl) ?_); (repeat (first | (refine wpTame_skip rfl ?_; simp only [Act.put, List.setIfInBounds_toArray, List.set_cons_succ, List.set_cons_zero]) | (refine wpTame_pure rfl rfl rfl (fun K hK => ?_); go_big_quiet_op; refine hK _ ?_; clear hK K) | (refine wpTame_eff rfl rfl (fun K hK => ?_); go_big_op; (first | fail | skip); (refine hK _ _ rfl (ext_of_below (by (repeat' (first | (with_reducible exact Below.refl _ _) | (with_reducible assumption) | (with_reducible refine Below.drew ?_) | (with_reducible refine Below.drewNStep ?_ _) | (with_reducible refine Below.alloc ?_ ?_ _) | (with_reducible refine Below.setCell ?_ ?_ _) | (with_reducible refine Below.extStep ?_ ?_ _) | (simp; done) | (simp; omega))))) ?_; clear hK K)))); (refine wpTame_nil ?_)
        gi_wp2
        refine bodyQ_next (by (repeat' (first | (with_reducible exact Below.refl _ _) | (with_reducible assumption) | (with_reducible refine Below.drew ?_) | (with_reducible refine Below.drewNStep ?_ _) | (with_reducible refine Below.alloc ?_ ?_ _) | (with_reducible refine Below.setCell ?_ ?_ _) | (with_reducible refine Below.extStep ?_ ?_ _) | (simp; done) | (simp; omega)))) (by omega) hb (fun m => ⟨?_, m.frozen o1 o2, ⟨r, m.cell r1⟩, m.frozen r1 r2, m.cell c0, m.cell c1, m.cell c2, m.cell c3, hno'⟩)
        rw [hO']; exact m.cell o1
      · cases p3 : decide (offP (plK x1 y1 x2 y2) (plA x1 y1 x2 y2) x y z n < 0) with
        | true =>
          have hO' : oddTo H x y n (k + 1) = !od := by rw [hO.out]; simp only [stradB, leftB, p1, p2, ← offP_z _ _ x y z n q.2.2, p3]; rfl
          clear hO
          gi_wp2
          (refine wpIn_region_tameX (by kernel_rfl) (by kernel_rfl) ?_); (repeat (first | (refine wpTame_skip rfl ?_; simp only [Act.put, List.setIfInBounds_toArray, List.set_cons_succ, List.set_cons_zero]) | (refine wpTame_pure rfl rfl rfl (fun K hK => ?_); go_big_quiet_op; refine hK _ ?_; clear hK K) | (refine wpTame_eff rfl rfl (fun K hK => ?_); go_big_op; (first | (go_at_call 144; refine (plane_any _ _ _ _ _ (by omega) (by omega) (by omega) (by omega)).mono ?_; rintro e w' ⟨rfl, x3, rfl⟩) | (go_at_call 128; refine (offPlane_any _ _ _ _ _ _ _ (by omega) (by omega) (by omega) (by omega)).mono ?_; rintro e w' ⟨rfl, x4, rfl⟩) | skip); (refine hK _ _ rfl (ext_of_below (by (repeat' (first | (with_reducible exact Below.refl _ _) | (with_reducible assumption) | (with_reducible refine Below.drew ?_) | (with_reducible refine Below.drewNStep ?_ _) | (with_reducible refine Below.alloc ?_ ?_ _) | (with_reducible refine Below.setCell ?_ ?_ _) | (with_reducible refine Below.extStep ?_ ?_ _) | (simp; done) | (simp; omega))))) ?_; clear hK K)))); (refine wpTame_nil ?_)
          gi_wp2
          refine bodyQ_nextSet (by (repeat' (first | (with_reducible exact Below.refl _ _) | (with_reducible assumption) | (with_reducible refine Below.drew ?_) | (with_reducible refine Below.drewNStep ?_ _) | (with_reducible refine Below.alloc ?_ ?_ _) | (with_reducible refine Below.setCell ?_ ?_ _) | (with_reducible refine Below.extStep ?_ ?_ _) | (simp; done) | (simp; omega)))) (by omega) (by simp <;> omega) (by simp) hb (fun m => ⟨?_, ?_, ⟨r, cell_other (by simp <;> omega) (m.cell r1)⟩, ?_, cell_other (by simp <;> omega) (m.cell c0), cell_other (by simp <;> omega) (m.cell c1), cell_other (by simp <;> omega) (m.cell c2), cell_other (by simp <;> omega) (m.cell c3), hno'⟩)
          · rw [hO']; exact cell_set (m.cell o1)
          · rw [World.frozen?_setCell]; exact m.frozen o1 o2
          · rw [World.frozen?_setCell]; exact m.frozen r1 r2
        | false =>
          have hO' : oddTo H x y n (k + 1) = od := by rw [hO.out]; simp only [stradB, leftB, p1, p2, ← offP_z _ _ x y z n q.2.2, p3]; rfl
          clear hO
          gi_wp2
          (refine wpIn_region_tameX (by kernel_rfl) (by kernel_rfl) ?_); (repeat (first | (refine wpTame_skip rfl ?_; simp only [Act.put, List.setIfInBounds_toArray, List.set_cons_succ, List.set_cons_zero]) | (refine wpTame_pure rfl rfl rfl (fun K hK => ?_); go_big_quiet_op; refine hK _ ?_; clear hK K) | (refine wpTame_eff rfl rfl (fun K hK => ?_); go_big_op; (first | (go_at_call 144; refine (plane_any _ _ _ _ _ (by omega) (by omega) (by omega) (by omega)).mono ?_; rintro e w' ⟨rfl, x3, rfl⟩) | (go_at_call 128; refine (offPlane_any _ _ _ _ _ _ _ (by omega) (by omega) (by omega) (by omega)).mono ?_; rintro e w' ⟨rfl, x4, rfl⟩) | skip); (refine hK _ _ rfl (ext_of_below (by (repeat' (first | (with_reducible exact Below.refl _ _) | (with_reducible assumption) | (with_reducible refine Below.drew ?_) | (with_reducible refine Below.drewNStep ?_ _) | (with_reducible refine Below.alloc ?_ ?_ _) | (with_reducible refine Below.setCell ?_ ?_ _) | (with_reducible refine Below.extStep ?_ ?_ _) | (simp; done) | (simp; omega))))) ?_; clear hK K)))); (refine wpTame_nil ?_)
          gi_wp2
          refine bodyQ_next (by (repeat' (first | (with_reducible exact Below.refl _ _) | (with_reducible assumption) | (with_reducible refine Below.drew ?_) | (with_reducible refine Below.drewNStep ?_ _) | (with_reducible refine Below.alloc ?_ ?_ _) | (with_reducible refine Below.setCell ?_ ?_ _) | (with_reducible refine Below.extStep ?_ ?_ _) | (simp; done) | (simp; omega)))) (by omega) hb (fun m => ⟨?_, m.frozen o1 o2, ⟨r, m.cell r1⟩, m.frozen r1 r2, m.cell c0, m.cell c1, m.cell c2, m.cell c3, hno'⟩)
          rw [hO']; exact m.cell o1
      · cases p3 : decide (offP (plK x1 y1 x2 y2) (plA x1 y1 x2 y2) x y z n < 0) with
        | true =>
          have hO' : oddTo H x y n (k + 1) = !od := by rw [hO.out]; simp only [stradB, leftB, p1, p2, ← offP_z _ _ x y z n q.2.2, p3]; rfl
          clear hO
          gi_wp2
          (refine wpIn_region_tameX (by kernel_rfl) (by kernel_rfl) ?_); (repeat (first | (refine wpTame_skip rfl ?_; simp only [Act.put, List.setIfInBounds_toArray, List.set_cons_succ, List.set_cons_zero]) | (refine wpTame_pure rfl rfl rfl (fun K hK => ?_); go_big_quiet_op; refine hK _ ?_; clear hK K) | (refine wpTame_eff rfl rfl (fun K hK => ?_); go_big_op; (first | (go_at_call 144; refine (plane_any _ _ _ _ _ (by omega) (by omega) (by omega) (by omega)).mono ?_; rintro e w' ⟨rfl, x3, rfl⟩) | (go_at_call 128; refine (offPlane_any _ _ _ _ _ _ _ (by omega) (by omega) (by omega) (by omega)).mono ?_; rintro e w' ⟨rfl, x4, rfl⟩) | skip); (refine hK _ _ rfl (ext_of_below (by (repeat' (first | (with_reducible exact Below.refl _ _) | (with_reducible assumption) | (with_reducible refine Below.drew ?_) | (with_reducible refine Below.drewNStep ?_ _) | (with_reducible refine Below.alloc ?_ ?_ _) | (with_reducible refine Below.setCell ?_ ?_ _) | (with_reducible refine Below.extStep ?_ ?_ _) | (simp; done) | (simp; omega))))) ?_; clear hK K)))); (refine wpTame_nil ?_)
          gi_wp2
          refine bodyQ_nextSet (by (repeat' (first | (with_reducible exact Below.refl _ _) | (with_reducible assumption) | (with_reducible refine Below.drew ?_) | (with_reducible refine Below.drewNStep ?_ _) | (with_reducible refine Below.alloc ?_ ?_ _) | (with_reducible refine Below.setCell ?_ ?_ _) | (with_reducible refine Below.extStep ?_ ?_ _) | (simp; done) | (simp; omega)))) (by omega) (by simp <;> omega) (by simp) hb (fun m => ⟨?_, ?_, ⟨r, cell_other (by simp <;> omega) (m.cell r1)⟩, ?_, cell_other (by simp <;> omega) (m.cell c0), cell_other (by simp <;> omega) (m.cell c1), cell_other (by simp <;> omega) (m.cell c2), cell_other (by simp <;> omega) (m.cell c3), hno'⟩)
          · rw [hO']; exact cell_set (m.cell o1)
          · rw [World.frozen?_setCell]; exact m.frozen o1 o2
          · rw [World.frozen?_setCell]; exact m.frozen r1 r2
        | false =>
          have hO' : oddTo H x y n (k + 1) = od := by rw [hO.out]; simp only [stradB, leftB, p1, p2, ← offP_z _ _ x y z n q.2.2, p3]; rfl
          clear hO
          gi_wp2
          (refine wpIn_region_tameX (by kernel_rfl) (by kernel_rfl) ?_); (repeat (first | (refine wpTame_skip rfl ?_; simp only [Act.put, List.setIfInBounds_toArray, List.set_cons_succ, List.set_cons_zero]) | (refine wpTame_pure rfl rfl rfl (fun K hK => ?_); go_big_quiet_op; refine hK _ ?_; clear hK K) | (refine wpTame_eff rfl rfl (fun K hK => ?_); go_big_op; (first | (go_at_call 144; refine (plane_any _ _ _ _ _ (by omega) (by omega) (by omega) (by omega)).mono ?_; rintro e w' ⟨rfl, x3, rfl⟩) | (go_at_call 128; refine (offPlane_any _ _ _ _ _ _ _ (by omega) (by omega) (by omega) (by omega)).mono ?_; rintro e w' ⟨rfl, x4, rfl⟩) | skip); (refine hK _ _ rfl (ext_of_below (by (repeat' (first | (with_reducible exact Below.refl _ _) | (with_reducible assumption) | (with_reducible refine Below.drew ?_) | (with_reducible refine Below.drewNStep ?_ _) | (with_reducible refine Below.alloc ?_ ?_ _) | (with_reducible refine Below.setCell ?_ ?_ _) | (with_reducible refine Below.extStep ?_ ?_ _) | (simp; done) | (simp; omega))))) ?_; clear hK K)))); (refine wpTame_nil ?_)
          gi_wp2
          refine bodyQ_next (by (repeat' (first | (with_reducible exact Below.refl _ _) | (with_reducible assumption) | (with_reducible refine Below.drew ?_) | (with_reducible refine Below.drewNStep ?_ _) | (with_reducible refine Below.alloc ?_ ?_ _) | (with_reducible refine Below.setCell ?_ ?_ _) | (with_reducible refine Below.extStep ?_ ?_ _) | (simp; done) | (simp; omega)))) (by omega) hb (fun m => ⟨?_, m.frozen o1 o2, ⟨r, m.cell r1⟩, m.frozen r1 r2, m.cell c0, m.cell c1, m.cell c2, m.cell c3, hno'⟩)
          rw [hO']; exact m.cell o1
      · have hO' : oddTo H x y n (k + 1) = od := by rw [hO.out]; simp [stradB, p1, p2]
        clear hO
        gi_wp2
        (refine wpIn_region_tameX (by kernel_rfl) (by kernel_rfl) ?_); (repeat (first | (refine wpTame_skip rfl ?_; simp only [Act.put, List.setIfInBounds_toArray, List.set_cons_succ, List.set_cons_zero]) | (refine wpTame_pure rfl rfl rfl (fun K hK => ?_); go_big_quiet_op; refine hK _ ?_; clear hK K) | (refine wpTame_eff rfl rfl (fun K hK => ?_); go_big_op; (first | fail | skip); (refine hK _ _ rfl (ext_of_below (by (repeat' (first | (with_reducible exact Below.refl _ _) | (with_reducible assumption) | (with_reducible refine Below.drew ?_) | (with_reducible refine Below.drewNStep ?_ _) | (with_reducible refine Below.alloc ?_ ?_ _) | (with_reducible refine Below.setCell ?_ ?_ _) | (with_reducible refine Below.extStep ?_ ?_ _) | (simp; done) | (simp; omega))))) ?_; clear hK K)))); (refine wpTame_nil ?_)
        gi_wp2
        refine bodyQ_next (by (repeat' (first | (with_reducible exact Below.refl _ _) | (with_reducible assumption) | (with_reducible refine Below.drew ?_) | (with_reducible refine Below.drewNStep ?_ _) | (with_reducible refine Below.alloc ?_ ?_ _) | (with_reducible refine Below.setCell ?_ ?_ _) | (with_reducible refine Below.extStep ?_ ?_ _) | (simp; done) | (simp; omega)))) (by omega) hb (fun m => ⟨?_, m.frozen o1 o2, ⟨r, m.cell r1⟩, m.frozen r1 r2, m.cell c0, m.cell c1, m.cell c2, m.cell c3, hno'⟩)
        rw [hO']; exact m.cell o1
  case done =>
    rintro W ⟨o1, o2, ⟨r, r1⟩, r2, c0, c1, c2, c3, hno⟩ hb hD
    have g1 := has_of_cell r1
    have g2 := has_of_cell o1
    rw [← coversB_end hno] at o1
    clear c0 c1 c2 c3 hno hR
    gi_wp2
    have hD' := (Below.heap_setCell W ⟨w.heap.size + 1, 0, none⟩ (.bool (coversB H x y n)) _ (by simp <;> omega)).trans hD
    refine ⟨by simp, .inl ⟨_, _, rfl, run_takeDeferred hD', ?_⟩⟩
    have hc := cell_put (b := w.heap.size + 1 + 1 + 1) (o := .deferred none) (by omega) (cell_set (v := .bool (coversB H x y n)) r1)
    refine ⟨.bool (coversB H x y n), by simp [results, Tryz.results113, go_sem, hc], retX rfl ?_⟩
    exact (((hb' _ _ _).trans hb).setCell (by simp <;> omega) _).putObjStep (by simp <;> omega) _
  case stop =>
    rintro c W ⟨rfl, r1, hno⟩ hb hD
    rw [hno]
    have g1 := has_of_cell r1
    gi_wp2
    refine ⟨by simp, .inl ⟨_, _, rfl, run_takeDeferred hD, ?_⟩⟩
    have hc := cell_put (b := w.heap.size + 1 + 1 + 1) (o := .deferred none) (by omega) r1
    refine ⟨.bool false, by simp [results, Tryz.results113, go_sem, hc], retX rfl ?_⟩
    exact ((hb' _ _ _).trans hb).putObjStep (by simp <;> omega) _
end Go.Proofs.YtbonjgeglhbhnaaGreat
