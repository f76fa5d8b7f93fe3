/- beyond; checkInside. -/
import Derived.Test.YtbonjgeglhbhnaaGreatM16
import Derived.Test.YtbonjgeglhbhnaaGreatM14
import Derived.Test.YtbonjgeglhbhnaaGreatM21
import Derived.Test.YtbonjgeglhbhnaaGreatM20
set_option linter.unusedVariables false
set_option linter.unusedSimpArgs false
namespace Go.Proofs.YtbonjgeglhbhnaaGreat
open Go.RowKit Go.Shelf
attribute [local go_sem] Oper.semAt_some

def outB (L n : Int) : Bool := decide (L < n) || decide (n < -L)
def beyondB (L : Int) (xs : List Int) : Bool := xs.any (outB L)
theorem intAt_get {xs : List Int} {k : Nat} (h : k < xs.length) : intAt xs k = xs[k] := by
  unfold intAt; rw [List.getElem?_eq_getElem h]; rfl
theorem beyondB_stop {L : Int} {xs : List Int} {k : Nat} (h : k < xs.length) (hk : outB L (intAt xs k) = true) : beyondB L xs = true := by
  unfold beyondB; rw [List.any_eq_true]; exact ⟨xs[k], List.getElem_mem h, by rw [← intAt_get h]; exact hk⟩
theorem beyondB_end {L : Int} {xs : List Int} (h : ∀ k, k < xs.length → outB L (intAt xs k) = false) : beyondB L xs = false := by
  unfold beyondB; rw [List.any_eq_false]
  intro n hn
  obtain ⟨k, hk, rfl⟩ := List.getElem_of_mem hn
  rw [← intAt_get hk, h k hk]
  simp

set_option maxRecDepth 100000 in set_option maxHeartbeats 1000000 in
theorem beyond_any (L : Int) (hL : 0 ≤ L ∧ L ≤ 1000000000) (xs : List Int) (A : Option Addr) (c : Nat) (w : World) (hS : SlcAt encInt w (.slice A xs.length c) xs) :
    Calls Tryz.prog 54 #[.int .i64 L, .slice A xs.length c] w (RetX w (.bool (beyondB L xs))) := by
  have hl := hS.1
  refine (callsIn_wide (n := 10)).1 ?_
  refine callsIn_of_wp Tryz.func54 rfl trivial ?_ rfl
  simp only [Tryz.ntmps54, List.size_toArray, List.length_cons, List.length_nil, Nat.reduceAdd, Nat.reduceSub, Array.replicate_succ, Array.replicate_zero, List.push_toArray, List.append_toArray, List.nil_append, List.cons_append]
  gi_wp2
  gi_loopw [9] (fun i wr => ∃ k : Nat, i = .int .i64 k ∧ k ≤ xs.length ∧ Below w.heap.size w wr ∧ ∀ j, j < k → outB L (intAt xs j) = false) (fun i _ => xs.length - (intOf i).toNat)
  case atStart => exact ⟨0, rfl, Nat.zero_le _, Below.refl _ _, fun j hj => absurd hj (Nat.not_lt_zero j)⟩
  case round =>
    obtain ⟨k, rfl, hk, hB, hno⟩ := hrel
    replace hS := hS.below hB
    rcases Nat.lt_or_ge k xs.length with hlt | hge
    · obtain ⟨g, o, rfl, hg, hcs⟩ := int_at hS hlt
      have k0 := hcs k hlt
      have hst : Hid (outB L (intAt xs k) = true → beyondB L xs = true) := beyondB_stop hlt
      have hO : Hid (outB L (intAt xs k) = (decide (L < intAt xs k) || decide (intAt xs k < -L))) := rfl
      clear hcs hS
      generalize hn : intAt xs k = n at *
      generalize xs.length = N at *
      cases p1 : decide (L < n) with
      | true =>
        rw [p1] at hO
        gi_wp2
        refine bodyPost_ret (v := .bool true) (by simp [results, Tryz.results54, go_sem]) rfl (retX (by rw [hst.out (by rw [hO.out]; rfl)]) hB)
      | false =>
        rw [p1] at hO
        cases p2 : decide (n < -L) with
        | true =>
          rw [p2] at hO
          gi_wp2
          refine bodyPost_ret (v := .bool true) (by simp [results, Tryz.results54, go_sem]) rfl (retX (by rw [hst.out (by rw [hO.out]; rfl)]) hB)
        | false =>
          rw [p2] at hO
          gi_wp2
          go_roundw
          case rel =>
            refine ⟨k + 1, by go_num, by omega, hB, fun j hj => ?_⟩
            rcases Nat.lt_or_ge j k with h | h
            · exact hno j h
            · obtain rfl : j = k := by omega
              rw [hn]; exact hO.out
          case measure => simp [intOf]; omega
    · obtain rfl : k = xs.length := by omega
      have hz := hidden (beyondB_end hno)
      gi_wp2
      refine bodyPost_ret (v := .bool false) (by simp [results, Tryz.results54, go_sem]) rfl (retX (by rw [hz.out]) hB)
end Go.Proofs.YtbonjgeglhbhnaaGreat

/- checkInside. -/
namespace Go.Proofs.YtbonjgeglhbhnaaGreat
open Go.RowKit

theorem slc3 {W : World} {B : Nat} {x y z : Int} (h0 : W.cell? ⟨B, 0, none⟩ = some (.int .i64 x)) (h1 : W.cell? ⟨B, 1, none⟩ = some (.int .i64 y)) (h2 : W.cell? ⟨B, 2, none⟩ = some (.int .i64 z)) : SlcAt encInt W (.slice (some ⟨B, 0, none⟩) 3 3) [x, y, z] := by
  refine ⟨by simp, _, _, rfl, fun _ => ⟨B, 0, rfl, has_of_cell h0, fun i v hi j hj => ?_⟩⟩
  have hj0 : j = 0 := by have : j < 1 := hj; omega
  subst hj0
  rcases i with _ | _ | _ | i
  · simp at hi; subst hi; exact ⟨_, h0, rfl⟩
  · simp at hi; subst hi; exact ⟨_, h1, rfl⟩
  · simp at hi; subst hi; exact ⟨_, h2, rfl⟩
  · simp at hi

def insideE (H : Hal) (x y z : Int) : Int := if beyondB 5000 [x, y, z] then 2 else if withinB H x y z 1 then 0 else 24

theorem beyond3 {x y z : Int} (h : beyondB 5000 [x, y, z] = false) : (-5000 ≤ x ∧ x ≤ 5000) ∧ (-5000 ≤ y ∧ y ≤ 5000) ∧ (-5000 ≤ z ∧ z ≤ 5000) := by
  simp [beyondB, outB] at h
  omega

set_option maxRecDepth 100000 in set_option maxHeartbeats 1000000 in
theorem checkInside_room {w : World} {b : Nat} {H : Hal} {S : Stg} (hR : Room w b H S) (hC : CorsIn H) (hN : H.cors.length ≤ 20) (hh : -5000 ≤ H.height ∧ H.height ≤ 5000) (x y z : Int) :
    Calls Tryz.prog 168 #[.pointer (some ⟨b, 0, none⟩), .agg #[.int .i64 x, .int .i64 y, .int .i64 z]] w (RetX w (.int .i64 (insideE H x y z))) := by
  have HE : Hid (insideE H x y z = if beyondB 5000 [x, y, z] then 2 else if withinB H x y z 1 then 0 else 24) := rfl
  have HY := hidden (fun (W : World) (B : Nat) (h0 : W.cell? ⟨B, 0, none⟩ = some (.int .i64 x)) (h1 : W.cell? ⟨B, 1, none⟩ = some (.int .i64 y)) (h2 : W.cell? ⟨B, 2, none⟩ = some (.int .i64 z)) => beyond_any 5000 (by omega) [x, y, z] (some ⟨B, 0, none⟩) 3 W (slc3 h0 h1 h2))
  cases hb : beyondB 5000 [x, y, z] with
  | true =>
    rw [hb] at HE HY
    go_enter Tryz.func168, Tryz.ntmps168
    go_wp2_with (first | (go_at_call 54; refine (HY.out _ _ (by simp [go_sem]) (by simp [go_sem]) (by simp [go_sem])).mono ?_; rintro e w' ⟨rfl, x1, rfl⟩))
    go_ret
    refine retX_int (by rw [HE.out]; simp) ?_
    (repeat' (first | (with_reducible exact Below.refl _ _) | (with_reducible assumption) | (with_reducible refine Below.drew ?_) | (with_reducible refine Below.drewNStep ?_ _) | (with_reducible refine Below.alloc ?_ ?_ _) | (with_reducible refine Below.setCell ?_ ?_ _) | (with_reducible refine Below.extStep ?_ ?_ _) | (simp; done) | (simp; omega)))
  | false =>
    obtain ⟨b1, b2, b3⟩ := beyond3 hb
    have HI := hidden (fun (W : World) (hb : Below w.heap.size w W) => isWithin_room (hR.below hb) hC hN hh x y z 1 (by omega) (by omega) (by omega) (by omega))
    rw [hb] at HE HY
    cases hi : withinB H x y z 1
    all_goals
      rw [hi] at HE HI
      go_enter Tryz.func168, Tryz.ntmps168
      go_wp2_with (first | (go_at_call 54; refine (HY.out _ _ (by simp [go_sem]) (by simp [go_sem]) (by simp [go_sem])).mono ?_; rintro e w' ⟨rfl, x1, rfl⟩) | (go_at_call 92; refine (pointOf_any _ _ _ _).mono ?_; rintro e w' ⟨rfl, x2, rfl⟩) | (go_at_call 85; refine (HI.out _ (by (repeat' (first | (with_reducible exact Below.refl _ _) | (with_reducible assumption) | (with_reducible refine Below.drew ?_) | (with_reducible refine Below.drewNStep ?_ _) | (with_reducible refine Below.alloc ?_ ?_ _) | (with_reducible refine Below.setCell ?_ ?_ _) | (with_reducible refine Below.extStep ?_ ?_ _) | (simp; done) | (simp; omega))))).mono ?_; rintro e w' ⟨rfl, x3, rfl⟩))
      go_ret
      refine retX_int (by rw [HE.out]; simp) ?_
      (repeat' (first | (with_reducible exact Below.refl _ _) | (with_reducible assumption) | (with_reducible refine Below.drew ?_) | (with_reducible refine Below.drewNStep ?_ _) | (with_reducible refine Below.alloc ?_ ?_ _) | (with_reducible refine Below.setCell ?_ ?_ _) | (with_reducible refine Below.extStep ?_ ?_ _) | (simp; done) | (simp; omega)))
end Go.Proofs.YtbonjgeglhbhnaaGreat

/- Whether a sheet lies inside of the plan. -/
namespace Go.Proofs.YtbonjgeglhbhnaaGreat
open Go.RowKit Go.Shelf
attribute [local go_sem] Oper.semAt_some

def rimWallB (H : Hal) (a b c d : Int) (k j : Nat) : Bool := blocksB (corAt H.cors j).x (corAt H.cors j).y (corAt H.cors (nxt H.cors.length j)).x (corAt H.cors (nxt H.cors.length j)).y (rimX1 a b c d k) (rimY1 a b c d k) 1 (rimX2 a b c d k) (rimY2 a b c d k) 1
def framesB (H : Hal) (a b c d : Int) : Bool := (List.range 4).all fun k => coversB H (rimX1 a b c d k) (rimY1 a b c d k) 1 && (List.range H.cors.length).all fun j => !rimWallB H a b c d k j
theorem framesB_stop1 {H : Hal} {a b c d : Int} {k : Nat} (hk : k < 4) (h : coversB H (rimX1 a b c d k) (rimY1 a b c d k) 1 = false) : framesB H a b c d = false := by
  unfold framesB
  rw [List.all_eq_false]
  exact ⟨k, by simpa using hk, by simp [h]⟩
theorem framesB_stop2 {H : Hal} {a b c d : Int} {k j : Nat} (hk : k < 4) (hj : j < H.cors.length) (h : rimWallB H a b c d k j = true) : framesB H a b c d = false := by
  unfold framesB
  rw [List.all_eq_false]
  refine ⟨k, by simpa using hk, ?_⟩
  have : (List.range H.cors.length).all (fun j => !rimWallB H a b c d k j) = false := by
    rw [List.all_eq_false]; exact ⟨j, by simpa using hj, by simp [h]⟩
  simp [this]
theorem framesB_end {H : Hal} {a b c d : Int} (h : ∀ k, k < 4 → coversB H (rimX1 a b c d k) (rimY1 a b c d k) 1 = true ∧ ∀ j, j < H.cors.length → rimWallB H a b c d k j = false) : framesB H a b c d = true := by
  unfold framesB
  rw [List.all_eq_true]
  intro k hk
  have hk' := h k (by simpa using hk)
  rw [hk'.1, Bool.true_and, List.all_eq_true]
  intro j hj
  simp [hk'.2 j (by simpa using hj)]

structure FrI (H : Hal) (a b c d : Int) (bp s k : Nat) (W : World) : Prop where
  box : W.cell? ⟨s, 0, none⟩ = some (.pointer (some ⟨bp, 0, none⟩))
  res : ∃ r, W.cell? ⟨s + 2, 0, none⟩ = some (.bool r)
  fres : W.frozen? ⟨s + 2, 0, none⟩ = false
  none : ∀ p, p < k → coversB H (rimX1 a b c d p) (rimY1 a b c d p) 1 = true ∧ ∀ j, j < H.cors.length → rimWallB H a b c d p j = false
theorem FrI.sim {H : Hal} {a b c d : Int} {bp s k D : Nat} {W W' : World} (m : Sim D W W') (h : FrI H a b c d bp s k W) : FrI H a b c d bp s k W' :=
  ⟨m.cell h.box, let ⟨r, hr⟩ := h.res; ⟨r, m.cell hr⟩, let ⟨r, hr⟩ := h.res; m.frozen hr h.fres, h.none⟩
structure FrX (H : Hal) (a b c d : Int) (s : Nat) (C : Code) (W : World) : Prop where
  ret : C = .ret
  res : W.cell? ⟨s + 2, 0, none⟩ = some (.bool false)
  no : framesB H a b c d = false
theorem FrX.sim {H : Hal} {a b c d : Int} {s D : Nat} {C : Code} {W W' : World} (m : Sim D W W') (h : FrX H a b c d s C W) : FrX H a b c d s C W' := ⟨h.ret, m.cell h.res, h.no⟩
structure FiI (H : Hal) (a b c d : Int) (bp s B k j D : Nat) (W V : World) : Prop where
  box : V.cell? ⟨s, 0, none⟩ = some (.pointer (some ⟨bp, 0, none⟩))
  res : ∃ r, V.cell? ⟨s + 2, 0, none⟩ = some (.bool r)
  fres : V.frozen? ⟨s + 2, 0, none⟩ = false
  ed : Four (rimX1 a b c d k) (rimY1 a b c d k) (rimX2 a b c d k) (rimY2 a b c d k) B V
  none : ∀ q, q < j → rimWallB H a b c d k q = false
  keep : KeepsAll D W V
theorem FiI.sim {H : Hal} {a b c d : Int} {bp s B k j D Z : Nat} {W V V' : World} (m : Sim Z V V') (hZ : W.heap.size ≤ Z) (h : FiI H a b c d bp s B k j D W V) : FiI H a b c d bp s B k j D W V' :=
  ⟨m.cell h.box, let ⟨r, hr⟩ := h.res; ⟨r, m.cell hr⟩, let ⟨r, hr⟩ := h.res; m.frozen hr h.fres, h.ed.sim m, h.none, h.keep.sim m hZ⟩
structure FiX (H : Hal) (a b c d : Int) (s D : Nat) (W : World) (C : Code) (V : World) : Prop where
  ret : C = .ret
  res : V.cell? ⟨s + 2, 0, none⟩ = some (.bool false)
  no : framesB H a b c d = false
  keep : KeepsAll D W V
theorem FiX.sim {H : Hal} {a b c d : Int} {s D Z : Nat} {C : Code} {W V V' : World} (m : Sim Z V V') (hZ : W.heap.size ≤ Z) (h : FiX H a b c d s D W C V) : FiX H a b c d s D W C V' := ⟨h.ret, m.cell h.res, h.no, h.keep.sim m hZ⟩

def frA (a b c d : Int) (bp s B k : Nat) : Act := { tmps := #[.pointer (some ⟨bp, 0, none⟩), .agg #[.int .i64 a, .int .i64 b, .int .i64 c, .int .i64 d], .pointer (some ⟨s, 0, none⟩), .pointer (some ⟨s + 1, 0, none⟩), .pointer (some ⟨s + 1 + 1, 0, none⟩), .pointer (some ⟨B, 0, none⟩), undef, undef, .agg #[.int .i64 a, .int .i64 b, .int .i64 c, .int .i64 d], .func (.func 155) #[.agg #[.int .i64 a, .int .i64 b, .int .i64 c, .int .i64 d]] #[], rimV a b c d k, undef, undef, undef, undef, undef, undef, undef, undef, undef, undef, undef, undef, undef, undef], defers := [] }
def frA2 (H : Hal) (a b c d : Int) (bp s B k B2 j : Nat) : Act := { tmps := #[.pointer (some ⟨bp, 0, none⟩), .agg #[.int .i64 a, .int .i64 b, .int .i64 c, .int .i64 d], .pointer (some ⟨s, 0, none⟩), .pointer (some ⟨s + 1, 0, none⟩), .pointer (some ⟨s + 1 + 1, 0, none⟩), .pointer (some ⟨B, 0, none⟩), undef, .pointer (some ⟨B2, 0, none⟩), .agg #[.int .i64 a, .int .i64 b, .int .i64 c, .int .i64 d], .func (.func 155) #[.agg #[.int .i64 a, .int .i64 b, .int .i64 c, .int .i64 d]] #[], rimV a b c d k, .pointer (some ⟨bp, 0, none⟩), .pointer (some ⟨B, 0, none⟩), .agg #[.int .i64 (rimX1 a b c d k), .int .i64 (rimY1 a b c d k)], .agg #[.int .i64 (rimX1 a b c d k), .int .i64 (rimY1 a b c d k), .int .i64 0, .int .i64 1], .bool true, .bool false, .pointer (some ⟨bp, 0, none⟩), .func (.func 118) #[.pointer (some ⟨bp, 0, none⟩)] #[], .int .i64 j, lineV H j, undef, undef, undef, undef], defers := [] }

set_option maxRecDepth 100000 in set_option maxHeartbeats 1000000 in
theorem frames_room {w : World} {bp : Nat} {H : Hal} {S : Stg} (hR : Room w bp H S) (hC : CorsIn H) (hN : H.cors.length ≤ 20) (a b c d : Int) (h1 : -5000 ≤ a ∧ a ≤ 5000) (h2 : -5000 ≤ b ∧ b ≤ 5000) (h3 : -5000 ≤ c ∧ c ≤ 5000) (h4 : -5000 ≤ d ∧ d ≤ 5000) :
    Calls Tryz.prog 180 #[.pointer (some ⟨bp, 0, none⟩), .agg #[.int .i64 a, .int .i64 b, .int .i64 c, .int .i64 d]] w (RetX w (.bool (framesB H a b c d))) := by
  refine (callsIn_wide (n := 10)).1 ?_
  refine callsIn_of_wp_marks Tryz.func180 rfl trivial ?_ rfl
  simp only [Tryz.ntmps180, List.size_toArray, List.length_cons, List.length_nil, Nat.reduceAdd, Nat.reduceSub, Array.replicate_succ, Array.replicate_zero, List.push_toArray, List.append_toArray, List.nil_append, List.cons_append]
  gi_wp2
  refine range_outer rfl (by omega) (gf := 155) (pre := #[.agg #[.int .i64 a, .int .i64 b, .int .i64 c, .int .i64 d]]) rfl trivial (enters_of Tryz.func155 (by kernel_rfl) rfl) (n₀ := w.heap.size) (by simp; omega)
    (rims_iter a b c d (w := w) (by (repeat' (first | (with_reducible exact Below.refl _ _) | (with_reducible assumption) | (with_reducible refine Below.drew ?_) | (with_reducible refine Below.drewNStep ?_ _) | (with_reducible refine Below.alloc ?_ ?_ _) | (with_reducible refine Below.setCell ?_ ?_ _) | (with_reducible refine Below.extStep ?_ ?_ _) | (simp; done) | (simp; omega)))) _ (by omega)) (fun k => rfl)
    (fun i W => FrI H a b c d bp w.heap.size i W) (fun C W => FrX H a b c d w.heap.size C W) (fun k W W' s h => h.sim s) (fun c W W' s h => h.sim s) ?start
    (fun i a' W => ∃ B, w.heap.size + 3 ≤ B ∧ a' = frA a b c d bp w.heap.size B i ∧ Four (rimX1 a b c d i) (rimY1 a b c d i) (rimX2 a b c d i) (rimY2 a b c d i) B W) (fun i a' W W' s ⟨B, h1, h2, h3⟩ => ⟨B, h1, h2, h3.sim s⟩) ?assign ?body ?done ?stop
  case start => exact ⟨by simp [go_sem], ⟨false, by simp [go_sem]⟩, by simp [go_sem], fun j hj => absurd hj (Nat.not_lt_zero j)⟩
  case assign =>
    intro l i W K hi hI hb hK
    have hsz : w.heap.size + 3 ≤ W.heap.size := by have := hb.size; simp at this; omega
    simp only [rimEnc, rimV]
    gi_wp2
    exact hK _ _ (KeepsAll.alloc _ _ _) (hb.alloc (by omega) _) (hI.sim (Sim.alloc 0 _ _)) ⟨W.heap.size, by omega, rfl, Four.new _ _ _ _ _ _⟩
  case body =>
    rintro l i a' W hi hl hr ⟨box, ⟨r, r1⟩, r2, hno⟩ ⟨B, hB, rfl, hE⟩ hb
    have hsz : w.heap.size + 3 ≤ W.heap.size := by have := hb.size; simp at this; omega
    obtain ⟨e0, e1, e2, e3⟩ := hE
    have g0 := has_of_cell box
    have g1 := has_of_cell r1
    have g3 := has_of_cell e0
    obtain ⟨m1, m2, m3, m4⟩ := rim_in h1 h2 h3 h4 i
    have HC := hidden (fun (X : World) (hX : Below w.heap.size w X) => covers_room (hR.below hX) hC hN (rimX1 a b c d i) (rimY1 a b c d i) 0 1 (by omega) (by omega) (by omega) (by omega))
    have hwW : Below w.heap.size w W := (show Below w.heap.size w _ by (repeat' (first | (with_reducible exact Below.refl _ _) | (with_reducible assumption) | (with_reducible refine Below.drew ?_) | (with_reducible refine Below.drewNStep ?_ _) | (with_reducible refine Below.alloc ?_ ?_ _) | (with_reducible refine Below.setCell ?_ ?_ _) | (with_reducible refine Below.extStep ?_ ?_ _) | (simp; done) | (simp; omega)))).trans hb
    unfold frA rimV
    cases hq : coversB H (rimX1 a b c d i) (rimY1 a b c d i) 1 with
    | false =>
      have hz := hidden (framesB_stop1 hi hq)
      rw [hq] at HC
      clear hr hno
      gi_wp2
      (refine wpIn_region_tameX (by kernel_rfl) (by kernel_rfl) ?_); (repeat (first | (refine wpTame_skip rfl ?_; simp only [Act.put, List.setIfInBounds_toArray, List.set_cons_succ, List.set_cons_zero]) | (refine wpTame_pure rfl rfl rfl (fun K hK => ?_); go_big_quiet_op; refine hK _ ?_; clear hK K) | (refine wpTame_eff rfl rfl (fun K hK => ?_); go_big_op; (first | (go_at_call 178; refine (cornerPoint_any _ _ _).mono ?_; rintro e w' ⟨rfl, y1, rfl⟩) | (go_at_call 113; refine (HC.out _ (hwW.trans (Below.lower (D := W.heap.size) (by (repeat' (first | (with_reducible exact Below.refl _ _) | (with_reducible assumption) | (with_reducible refine Below.drew ?_) | (with_reducible refine Below.drewNStep ?_ _) | (with_reducible refine Below.alloc ?_ ?_ _) | (with_reducible refine Below.setCell ?_ ?_ _) | (with_reducible refine Below.extStep ?_ ?_ _) | (simp; done) | (simp; omega)))) (by omega)))).mono ?_; rintro e w' ⟨rfl, y2, rfl⟩) | skip); (refine hK _ _ rfl (ext_of_below (by (repeat' (first | (with_reducible exact Below.refl _ _) | (with_reducible assumption) | (with_reducible refine Below.drew ?_) | (with_reducible refine Below.drewNStep ?_ _) | (with_reducible refine Below.alloc ?_ ?_ _) | (with_reducible refine Below.setCell ?_ ?_ _) | (with_reducible refine Below.extStep ?_ ?_ _) | (simp; done) | (simp; omega))))) ?_; clear hK K)))); (refine wpTame_nil ?_)
      gi_wp2
      refine bodyQ_leaveSet (by (repeat' (first | (with_reducible exact Below.refl _ _) | (with_reducible assumption) | (with_reducible refine Below.drew ?_) | (with_reducible refine Below.drewNStep ?_ _) | (with_reducible refine Below.alloc ?_ ?_ _) | (with_reducible refine Below.setCell ?_ ?_ _) | (with_reducible refine Below.extStep ?_ ?_ _) | (simp; done) | (simp; omega)))) (by omega) (by first | omega | (simp; done) | (simp; omega)) (by first | omega | (simp; done) | (simp; omega)) hb (fun m => ⟨rfl, cell_set (m.cell r1), hz.out⟩)
    | true =>
      rw [hq] at HC
      gi_wp2
      (refine wpIn_region_tameX (by kernel_rfl) (by kernel_rfl) ?_); (repeat (first | (refine wpTame_skip rfl ?_; simp only [Act.put, List.setIfInBounds_toArray, List.set_cons_succ, List.set_cons_zero]) | (refine wpTame_pure rfl rfl rfl (fun K hK => ?_); go_big_quiet_op; refine hK _ ?_; clear hK K) | (refine wpTame_eff rfl rfl (fun K hK => ?_); go_big_op; (first | (go_at_call 178; refine (cornerPoint_any _ _ _).mono ?_; rintro e w' ⟨rfl, y1, rfl⟩) | (go_at_call 113; refine (HC.out _ (hwW.trans (Below.lower (D := W.heap.size) (by (repeat' (first | (with_reducible exact Below.refl _ _) | (with_reducible assumption) | (with_reducible refine Below.drew ?_) | (with_reducible refine Below.drewNStep ?_ _) | (with_reducible refine Below.alloc ?_ ?_ _) | (with_reducible refine Below.setCell ?_ ?_ _) | (with_reducible refine Below.extStep ?_ ?_ _) | (simp; done) | (simp; omega)))) (by omega)))).mono ?_; rintro e w' ⟨rfl, y2, rfl⟩) | skip); (refine hK _ _ rfl (ext_of_below (by (repeat' (first | (with_reducible exact Below.refl _ _) | (with_reducible assumption) | (with_reducible refine Below.drew ?_) | (with_reducible refine Below.drewNStep ?_ _) | (with_reducible refine Below.alloc ?_ ?_ _) | (with_reducible refine Below.setCell ?_ ?_ _) | (with_reducible refine Below.extStep ?_ ?_ _) | (simp; done) | (simp; omega))))) ?_; clear hK K)))); (refine wpTame_nil ?_)
      gi_wp2
      clear HC
      have hbw : Below W.heap.size W ((W.ext y1).ext y2) := by (repeat' (first | (with_reducible exact Below.refl _ _) | (with_reducible assumption) | (with_reducible refine Below.drew ?_) | (with_reducible refine Below.drewNStep ?_ _) | (with_reducible refine Below.alloc ?_ ?_ _) | (with_reducible refine Below.setCell ?_ ?_ _) | (with_reducible refine Below.extStep ?_ ?_ _) | (simp; done) | (simp; omega)))
      have hlt : l < W.heap.size := by obtain ⟨r0, hr0⟩ := hr; exact (Array.getElem?_eq_some_iff.1 hr0).1
      refine range_inner rfl (by obtain ⟨r0, hr0⟩ := hr; exact ⟨r0, (hbw.block l hlt).trans hr0⟩) (by omega) (gf := 118) (pre := #[.pointer (some ⟨bp, 0, none⟩)]) rfl trivial (enters_of Tryz.func118 (by kernel_rfl) rfl) (n₀ := w.heap.size) (by simp; omega)
        ((walls_iter hR (hwW.trans (hbw.lower (by omega))) _ (by omega)).inRound l) (fun k => rfl)
        (fun j V => FiI H a b c d bp w.heap.size B i j (w.heap.size + 3) W V) (fun C V => FiX H a b c d w.heap.size (w.heap.size + 3) W C V) (fun k V V' s h => h.sim s (by simp; omega)) (fun c V V' s h => h.sim s (by simp; omega)) ?istart
        (fun j a' V => ∃ B2, W.heap.size ≤ B2 ∧ a' = frA2 H a b c d bp w.heap.size B i B2 j ∧ EdgeIn V B2 H j) (fun j a' V V' s ⟨B2, h1, h2, h3⟩ => ⟨B2, h1, h2, h3.sim s⟩) ?iassign ?ibody ?idone ?istop
      case istart =>
        have hs : Sim 0 W ((W.ext y1).ext y2) := Sim.of_below hbw
        exact ⟨hs.cell box, ⟨r, hs.cell r1⟩, hs.frozen r1 r2, Four.sim hs ⟨e0, e1, e2, e3⟩, fun j hj => absurd hj (Nat.not_lt_zero j), (KeepsAll.of_below hbw)⟩
      case iassign =>
        intro l2 j V K hj hI2 hb2 hK
        have hsz2 : W.heap.size ≤ V.heap.size := by have := hb2.size; simp at this; omega
        simp only [wallEnc, lineV]
        gi_wp2
        refine hK _ _ (KeepsAll.alloc _ _ _) (hb2.alloc (by omega) _) (hI2.sim (Sim.alloc W.heap.size _ _) (Nat.le_refl _)) ⟨V.heap.size, by omega, ?_, EdgeIn.new _ _ _ _⟩
        unfold frA2 lineV rimV; simp
      case idone =>
        intro V hV hbV
        exact ⟨by simpa using hV.keep, (hb.trans (hbw.lower (by omega))).trans hbV, hV.box, hV.res, hV.fres, fun p hp => by
          rcases Nat.lt_or_ge p i with h | h
          · exact hno p h
          · obtain rfl : p = i := by omega
            exact ⟨hq, fun j hj => hV.none j hj⟩⟩
      case istop =>
        rintro C V ⟨rfl, c1, hno2, hkp⟩ hbV
        gi_wp2
        exact ⟨by simpa using hkp, (hb.trans (hbw.lower (by omega))).trans hbV, rfl, c1, hno2⟩
      case ibody =>
        rintro l2 j a' V hj hl2 hr2 ⟨box, ⟨r, r1⟩, r2, ⟨e0, e1, e2, e3⟩, hno2, hkp⟩ ⟨B2, hB2, rfl, ⟨d0, d1, d2, d3⟩⟩ hb2
        have hsz2 : W.heap.size ≤ V.heap.size := by have := hb2.size; simp at this; omega
        have hW' : Hid (rimWallB H a b c d i j = blocksB (corAt H.cors j).x (corAt H.cors j).y (corAt H.cors (nxt H.cors.length j)).x (corAt H.cors (nxt H.cors.length j)).y (rimX1 a b c d i) (rimY1 a b c d i) 1 (rimX2 a b c d i) (rimY2 a b c d i) 1) := rfl
        have hSt : Hid (rimWallB H a b c d i j = true → framesB H a b c d = false) := framesB_stop2 hi hj
        obtain ⟨n1, n2⟩ := hC j (by omega)
        obtain ⟨n3, n4⟩ := hC _ (nxt_lt (n := H.cors.length) (i := j) (by omega))
        unfold frA2 lineV rimV
        clear hr hr2 hl2 hR
        have k0 := has_of_cell box
        have k1 := has_of_cell r1
        have k3 := has_of_cell e0
        have k5 := has_of_cell d0
        have hno3 : Hid (rimWallB H a b c d i j = false → ∀ q, q < j + 1 → rimWallB H a b c d i q = false) := fun h q hq => by
          rcases Nat.lt_or_ge q j with h' | h'
          · exact hno2 q h'
          · obtain rfl : q = j := by omega
            exact h
        generalize (corAt H.cors j).x = b1 at *
        generalize (corAt H.cors j).y = b2 at *
        generalize (corAt H.cors (nxt H.cors.length j)).x = b3 at *
        generalize (corAt H.cors (nxt H.cors.length j)).y = b4 at *
        generalize ha1 : rimX1 a b c d i = a1 at *
        generalize ha2 : rimY1 a b c d i = a2 at *
        generalize ha3 : rimX2 a b c d i = a3 at *
        generalize ha4 : rimY2 a b c d i = a4 at *
        have HB := hidden (fun X => blocks_any b1 b2 b3 b4 n1 n2 n3 n4 a1 a2 0 1 a3 a4 0 1 X (by omega) (by omega) (by omega) (by omega) (by omega) (by omega) (by omega) (by omega))
        cases q1 : blocksB b1 b2 b3 b4 a1 a2 1 a3 a4 1 with
        | true =>
          have hbad := hidden (hSt.out (by rw [hW'.out, q1]))
          rw [q1] at HB
          clear hSt hW' hno3
          gi_wp2
          (refine wpIn_region_tameX (by kernel_rfl) (by kernel_rfl) ?_); (repeat (first | (refine wpTame_skip rfl ?_; simp only [Act.put, List.setIfInBounds_toArray, List.set_cons_succ, List.set_cons_zero]) | (refine wpTame_pure rfl rfl rfl (fun K hK => ?_); go_big_quiet_op; refine hK _ ?_; clear hK K) | (refine wpTame_eff rfl rfl (fun K hK => ?_); go_big_op; (first | (go_at_call 179; refine (way_any _ _ _ _ _).mono ?_; rintro e w' ⟨rfl, y1, rfl⟩) | (go_at_call 119; refine (HB.out _).mono ?_; rintro e w' ⟨rfl, y2, rfl⟩) | skip); (refine hK _ _ rfl (ext_of_below (by (repeat' (first | (with_reducible exact Below.refl _ _) | (with_reducible assumption) | (with_reducible refine Below.drew ?_) | (with_reducible refine Below.drewNStep ?_ _) | (with_reducible refine Below.alloc ?_ ?_ _) | (with_reducible refine Below.setCell ?_ ?_ _) | (with_reducible refine Below.extStep ?_ ?_ _) | (simp; done) | (simp; omega))))) ?_; clear hK K)))); (refine wpTame_nil ?_)
          gi_wp2
          refine bodyQ_leaveSet (by (repeat' (first | (with_reducible exact Below.refl _ _) | (with_reducible assumption) | (with_reducible refine Below.drew ?_) | (with_reducible refine Below.drewNStep ?_ _) | (with_reducible refine Below.alloc ?_ ?_ _) | (with_reducible refine Below.setCell ?_ ?_ _) | (with_reducible refine Below.extStep ?_ ?_ _) | (simp; done) | (simp; omega)))) (by first | omega | (simp; omega)) (by first | omega | (simp; done) | (simp; omega)) (by first | omega | (simp; done) | (simp; omega)) hb2 (fun m => ⟨rfl, cell_set (m.cell r1), hbad.out, (hkp.sim m (by first | omega | (simp; done) | (simp; omega))).trans (KeepsAll.setCell _ _ _ (by first | omega | (simp; done) | (simp; omega)))⟩)
        | false =>
          have hbf : Hid (rimWallB H a b c d i j = false) := by unfold Hid; rw [hW'.out, q1]
          rw [q1] at HB
          clear hSt hW'
          gi_wp2
          (refine wpIn_region_tameX (by kernel_rfl) (by kernel_rfl) ?_); (repeat (first | (refine wpTame_skip rfl ?_; simp only [Act.put, List.setIfInBounds_toArray, List.set_cons_succ, List.set_cons_zero]) | (refine wpTame_pure rfl rfl rfl (fun K hK => ?_); go_big_quiet_op; refine hK _ ?_; clear hK K) | (refine wpTame_eff rfl rfl (fun K hK => ?_); go_big_op; (first | (go_at_call 179; refine (way_any _ _ _ _ _).mono ?_; rintro e w' ⟨rfl, y1, rfl⟩) | (go_at_call 119; refine (HB.out _).mono ?_; rintro e w' ⟨rfl, y2, rfl⟩) | skip); (refine hK _ _ rfl (ext_of_below (by (repeat' (first | (with_reducible exact Below.refl _ _) | (with_reducible assumption) | (with_reducible refine Below.drew ?_) | (with_reducible refine Below.drewNStep ?_ _) | (with_reducible refine Below.alloc ?_ ?_ _) | (with_reducible refine Below.setCell ?_ ?_ _) | (with_reducible refine Below.extStep ?_ ?_ _) | (simp; done) | (simp; omega))))) ?_; clear hK K)))); (refine wpTame_nil ?_)
          gi_wp2
          subst ha1 ha2 ha3 ha4
          refine bodyQ_next (by (repeat' (first | (with_reducible exact Below.refl _ _) | (with_reducible assumption) | (with_reducible refine Below.drew ?_) | (with_reducible refine Below.drewNStep ?_ _) | (with_reducible refine Below.alloc ?_ ?_ _) | (with_reducible refine Below.setCell ?_ ?_ _) | (with_reducible refine Below.extStep ?_ ?_ _) | (simp; done) | (simp; omega)))) (by first | omega | (simp; omega)) hb2 (fun m => ⟨m.cell box, ⟨r, m.cell r1⟩, m.frozen r1 r2, Four.sim m ⟨e0, e1, e2, e3⟩, hno3.out hbf.out, hkp.sim m (by first | omega | (simp; done) | (simp; omega))⟩)
  case done =>
    rintro W ⟨box, ⟨r, r1⟩, r2, hno⟩ hb hD
    have hz := hidden (framesB_end hno)
    have g1 := has_of_cell r1
    clear hno hR
    gi_wp2
    have hDlt := (Array.getElem?_eq_some_iff.1 hD).1
    refine bodyPostM_cell (s := w.heap.size + 2) ((Below.heap_setCell _ _ _ _ (by simp <;> omega)).trans hD) (by simp <;> omega) (cell_set r1) (fun X hX => by simp [results, Tryz.results180, go_sem, hX]) (fun o => retX (by rw [hz.out]) ?_)
    refine Below.putObjStep (Below.setCell ((show Below w.heap.size w _ by (repeat' (first | (with_reducible exact Below.refl _ _) | (with_reducible assumption) | (with_reducible refine Below.drew ?_) | (with_reducible refine Below.drewNStep ?_ _) | (with_reducible refine Below.alloc ?_ ?_ _) | (with_reducible refine Below.setCell ?_ ?_ _) | (with_reducible refine Below.extStep ?_ ?_ _) | (simp; done) | (simp; omega)))).trans hb) (by simp <;> omega) _) (by simp <;> omega) _
  case stop =>
    rintro c' W ⟨rfl, r1, hy⟩ hb hD
    have hz := hidden hy
    have g1 := has_of_cell r1
    gi_wp2
    refine bodyPostM_cell (s := w.heap.size + 2) hD (by simp <;> omega) r1 (fun X hX => by simp [results, Tryz.results180, go_sem, hX]) (fun o => retX (by rw [hz.out]) ?_)
    refine Below.putObjStep ((show Below w.heap.size w _ by (repeat' (first | (with_reducible exact Below.refl _ _) | (with_reducible assumption) | (with_reducible refine Below.drew ?_) | (with_reducible refine Below.drewNStep ?_ _) | (with_reducible refine Below.alloc ?_ ?_ _) | (with_reducible refine Below.setCell ?_ ?_ _) | (with_reducible refine Below.extStep ?_ ?_ _) | (simp; done) | (simp; omega)))).trans hb) (by simp <;> omega) _
end Go.Proofs.YtbonjgeglhbhnaaGreat
