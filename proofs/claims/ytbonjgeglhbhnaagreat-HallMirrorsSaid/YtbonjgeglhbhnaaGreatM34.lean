/- visit; TwiceArea, TwiceVolume. -/
import Derived.Test.YtbonjgeglhbhnaaGreatM33
set_option linter.unusedVariables false
set_option linter.unusedSimpArgs false
namespace Go.Proofs.YtbonjgeglhbhnaaGreat
open Go.RowKit

def visitV (b : Nat) (e : Int) : Value := .tuple #[.pointer (if e = 0 then some ⟨b, 0, none⟩ else none), .int .i64 e]
/-- a room among what is new, or an error -/
def VisitP (w : World) (H : Hal) (S : Stg) (v4 v5 v6 v7 v8 : Value) (E : Int) (e : Ending) (w' : World) : Prop :=
  Below w.heap.size w w' ∧ ((E ≠ 0 ∧ e = .returned (.tuple #[.pointer none, .int .i64 E])) ∨ (E = 0 ∧ ∃ b, w.heap.size ≤ b ∧ e = .returned (.tuple #[.pointer (some ⟨b, 0, none⟩), .int .i64 0]) ∧ (∃ u9 u10, RoomAt w' b H S v4 v5 v6 v7 v8 u9 u10) ∧ ∀ i, w'.frozen? ⟨b, i, none⟩ = false))

set_option maxRecDepth 100000 in set_option maxHeartbeats 1000000 in
theorem visit_any {w : World} {H : Hal} {v4 v5 v6 v7 v8 : Value} (hV : HalVs w v4 v5 v6 v7 v8 H) : Calls Tryz.prog 63 #[halV H v4 v5 v6 v7 v8] w (VisitP w H ⟨[], []⟩ v4 v5 v6 v7 v8 (hallF H).2.2) := by
  have HC := hidden (fun (W : World) (hW : Below w.heap.size w W) => CheckHall_any (hV.below hW))
  have hV' := hV
  obtain ⟨_, g4, g5, g6, g7, g8⟩ := hV'
  obtain ⟨A4, c4, rfl, _⟩ := slc_form g4
  obtain ⟨A5, c5, rfl, _⟩ := slc_form g5
  obtain ⟨A6, c6, rfl, _⟩ := slc_form g6
  obtain ⟨A7, c7, rfl, _⟩ := slc_form g7
  obtain ⟨A8, c8, rfl, _⟩ := slc_form g8
  clear g4 g5 g6 g7 g8
  unfold halV at *
  unfold markV at HC
  generalize hallF H = f at *
  obtain ⟨x, y, z⟩ := f
  simp only at *
  by_cases hz : z = 0
  · subst hz
    go_enter Tryz.func63, Tryz.ntmps63
    go_wp2_with (go_at_call 99; refine (HC.out _ (by (repeat' (first | (with_reducible exact Below.refl _ _) | (with_reducible assumption) | (with_reducible refine Below.drew ?_) | (with_reducible refine Below.drewNStep ?_ _) | (with_reducible refine Below.alloc ?_ ?_ _) | (with_reducible refine Below.setCell ?_ ?_ _) | (with_reducible refine Below.extStep ?_ ?_ _) | (simp; done) | (simp; omega))))).mono ?_; rintro e w' ⟨rfl, x1, rfl⟩)
    refine bodyPost_ret (v := .tuple #[.pointer (some ⟨w.heap.size + 1 + x1.heap.size + 1, 0, none⟩), .int .i64 0]) ?_ rfl ⟨?_, .inr ⟨rfl, _, ?_, rfl, ?_, fun i => ?_⟩⟩
    · simp [results, Tryz.results63, go_sem]
    · (repeat' (first | (with_reducible exact Below.refl _ _) | (with_reducible assumption) | (with_reducible refine Below.drew ?_) | (with_reducible refine Below.drewNStep ?_ _) | (with_reducible refine Below.alloc ?_ ?_ _) | (with_reducible refine Below.setCell ?_ ?_ _) | (with_reducible refine Below.extStep ?_ ?_ _) | (simp; done) | (simp; omega)))
    · omega
    · refine ⟨_, _, ⟨?_, ?_, ?_, ?_, ?_, ?_, ?_, ?_, ?_, ?_, ?_, ?_, hV.below (by (repeat' (first | (with_reducible exact Below.refl _ _) | (with_reducible assumption) | (with_reducible refine Below.drew ?_) | (with_reducible refine Below.drewNStep ?_ _) | (with_reducible refine Below.alloc ?_ ?_ _) | (with_reducible refine Below.setCell ?_ ?_ _) | (with_reducible refine Below.extStep ?_ ?_ _) | (simp; done) | (simp; omega)))), ⟨by simp, none, 0, rfl, fun h => absurd h (by simp)⟩, ⟨by simp, none, 0, rfl, fun h => absurd h (by simp)⟩⟩⟩
      · first | (simp [World.Has]; done) | (simp [World.Has]; omega)
      all_goals (simp [go_sem])
    · simp [go_sem]
  · have q4 : (z != 0) = true := by simp [hz]
    have q5 : (z == 0) = false := by simp [hz]
    go_enter Tryz.func63, Tryz.ntmps63
    go_wp2_with (go_at_call 99; refine (HC.out _ (by (repeat' (first | (with_reducible exact Below.refl _ _) | (with_reducible assumption) | (with_reducible refine Below.drew ?_) | (with_reducible refine Below.drewNStep ?_ _) | (with_reducible refine Below.alloc ?_ ?_ _) | (with_reducible refine Below.setCell ?_ ?_ _) | (with_reducible refine Below.extStep ?_ ?_ _) | (simp; done) | (simp; omega))))).mono ?_; rintro e w' ⟨rfl, x1, rfl⟩)
    refine bodyPost_ret (v := .tuple #[.pointer none, .int .i64 z]) (by simp [results, Tryz.results63, go_sem]) rfl ⟨?_, .inl ⟨hz, rfl⟩⟩
    (repeat' (first | (with_reducible exact Below.refl _ _) | (with_reducible assumption) | (with_reducible refine Below.drew ?_) | (with_reducible refine Below.drewNStep ?_ _) | (with_reducible refine Below.alloc ?_ ?_ _) | (with_reducible refine Below.setCell ?_ ?_ _) | (with_reducible refine Below.extStep ?_ ?_ _) | (simp; done) | (simp; omega)))

structure HallOk (H : Hal) : Prop where
  cors : CorsIn H
  n3 : 3 ≤ H.cors.length
  n12 : H.cors.length ≤ 12
  wl : H.wals.length = H.cors.length
  h2 : 2 ≤ H.height
  h5 : H.height ≤ 5000
  nm : H.mats.length ≤ 10
  nc : H.cans.length ≤ 4
  ns : H.seas.length ≤ 40
  mats : ∀ i, i < H.mats.length → matE H i = 0
  cans : ∀ i, i < H.cans.length → canE H (msOf H) (fs1 H) i = 0
  seas : ∀ i, i < H.seas.length → seaE H i = 0
  wals : ∀ i, i < H.cors.length → wallEk H (msOf H) fs0 i = 0
  area : 0 < areaTo H H.cors.length
theorem firstBad_none {E : Nat → Int} {n : Nat} (h : firstBad E n = none) : ∀ k, k < n → E k = 0 := by
  unfold firstBad at h
  rw [List.find?_eq_none] at h
  intro k hk
  have := h k (by simpa using hk)
  simpa using this
theorem hall_all {H : Hal} (h : (hallF H).2.2 = 0) : ∀ k, k < 8 → (flt H k).2.2 = 0 := by
  unfold hallF at h
  cases hb : firstBad (fun k => (flt H k).2.2) 8 with
  | none => exact firstBad_none hb
  | some k =>
    rw [hb] at h
    unfold firstBad at hb
    have := List.find?_some hb
    simp at this
    exact absurd h this
theorem hall_ok {H : Hal} (h : (hallF H).2.2 = 0) : HallOk H := by
  have ha := hall_all h
  have h0 : itselfE H = 0 := ha 0 (by omega)
  have h1 : (matsF H).2.2 = 0 := ha 1 (by omega)
  have h2 : partsE H (msOf H) = 0 := ha 2 (by omega)
  have h3 := oneF_none (ha 3 (by omega))
  have h4 := oneF_none (ha 4 (by omega))
  have h5 : planE H = 0 := ha 5 (by omega)
  have h6 : (cansF H (msOf H) (fs1 H)).2.2 = 0 := ha 6 (by omega)
  have h7 : (seatsF H).2.2 = 0 := ha 7 (by omega)
  have g1 := matsF_ok h1
  have g6 := cansF_ok h6
  have g7 := seatsF_ok h7
  simp only [matsOk, cansOk, seatsOk, Bool.and_eq_true, Bool.not_eq_true', decide_eq_false_iff_not, Option.isNone_iff_eq_none] at g1 g6 g7
  have hp : H.wals.length = H.cors.length ∧ 3 ≤ H.cors.length ∧ H.cors.length ≤ 12 := by
    unfold partsE at h2
    repeat' (split at h2; exact absurd h2 (by decide))
    omega
  have hi : 2 ≤ H.height ∧ H.height ≤ 5000 := by
    unfold itselfE at h0
    repeat' (split at h0; exact absurd h0 (by decide))
    omega
  refine ⟨cornE_ok h3, hp.2.1, hp.2.2, hp.1, hi.1, hi.2, by omega, by omega, by omega, firstBad_none g1.2, firstBad_none g6.2, firstBad_none g7.2, firstBad_none h4, ?_⟩
  unfold planE at h5
  split at h5
  · exact absurd h5 (by decide)
  · split at h5
    · exact absurd h5 (by decide)
    · omega
structure CanOk (H : Hal) (m : Can) : Prop where
  fx : -5000 ≤ m.f.x ∧ m.f.x ≤ 5000
  fy : -5000 ≤ m.f.y ∧ m.f.y ≤ 5000
  tx : -5000 ≤ m.t.x ∧ m.t.x ≤ 5000
  ty : -5000 ≤ m.t.y ∧ m.t.y ≤ 5000
  h1 : 1 ≤ m.hs.length
  h4 : m.hs.length ≤ 4
  hz : ∀ k, k < m.hs.length → 1 ≤ intAt m.hs k ∧ intAt m.hs k < H.height
theorem HallOk.can {H : Hal} (h : HallOk H) {i : Nat} (hi : i < H.cans.length) : CanOk H (canAt H.cans i) := by
  have he := h.cans i hi
  unfold canE at he
  split at he
  · exact absurd he (by decide)
  split at he
  · exact absurd he (by decide)
  split at he
  · exact absurd he (by decide)
  split at he
  · rename_i hn; exact absurd he hn
  rename_i hh
  have hh : heightsE H.height (canAt H.cans i).hs = 0 := by simpa using hh
  have hb : beyondB 5000 [(canAt H.cans i).f.x, (canAt H.cans i).f.y, (canAt H.cans i).t.x, (canAt H.cans i).t.y] = false := by
    unfold shtE at he
    split at he
    · exact absurd he (by decide)
    · rename_i hx; simpa using hx
  obtain ⟨b1, b2, b3, b4⟩ := beyond4P hb
  have hl : ¬ (canAt H.cans i).hs.length < 1 ∧ ¬ 4 < (canAt H.cans i).hs.length := by
    unfold heightsE at hh
    constructor <;> intro hc
    · rw [if_pos hc] at hh; exact absurd hh (by decide)
    · rw [if_neg (by omega), if_pos hc] at hh; exact absurd hh (by decide)
  refine ⟨b1, b2, b3, b4, by omega, by omega, fun k hk => ?_⟩
  unfold heightsE at hh
  rw [if_neg hl.1, if_neg hl.2] at hh
  have hf : firstBad (hgtE H.height (canAt H.cans i).hs) (canAt H.cans i).hs.length = none := by
    cases hb : firstBad (hgtE H.height (canAt H.cans i).hs) (canAt H.cans i).hs.length with
    | none => rfl
    | some j =>
      rw [hb] at hh
      unfold firstBad at hb
      have := List.find?_some hb
      simp at this
      exact absurd hh this
  have hk0 := firstBad_none hf k hk
  unfold hgtE at hk0
  split at hk0
  · exact absurd hk0 (by decide)
  · split at hk0
    · exact absurd hk0 (by decide)
    · omega

theorem visit_bad {w : World} {H : Hal} {v4 v5 v6 v7 v8 : Value} (hV : HalVs w v4 v5 v6 v7 v8 H) (hE : (hallF H).2.2 ≠ 0) : Calls Tryz.prog 63 #[halV H v4 v5 v6 v7 v8] w (RetX w (.tuple #[.pointer none, .int .i64 (hallF H).2.2])) :=
  (visit_any hV).mono fun e w' h => by
    rcases h.2 with ⟨_, he⟩ | ⟨h0, _⟩
    · exact ⟨he, ext_of_below h.1⟩
    · exact absurd h0 hE
def VisitOk (w : World) (H : Hal) (S : Stg) (v4 v5 v6 v7 v8 : Value) (e : Ending) (w' : World) : Prop := Below w.heap.size w w' ∧ ∃ b, w.heap.size ≤ b ∧ e = .returned (.tuple #[.pointer (some ⟨b, 0, none⟩), .int .i64 0]) ∧ (∃ u9 u10, RoomAt w' b H S v4 v5 v6 v7 v8 u9 u10) ∧ ∀ i, w'.frozen? ⟨b, i, none⟩ = false
theorem visit_good {w : World} {H : Hal} {v4 v5 v6 v7 v8 : Value} (hV : HalVs w v4 v5 v6 v7 v8 H) (hE : (hallF H).2.2 = 0) : Calls Tryz.prog 63 #[halV H v4 v5 v6 v7 v8] w (VisitOk w H ⟨[], []⟩ v4 v5 v6 v7 v8) :=
  (visit_any hV).mono fun e w' h => by
    rcases h.2 with ⟨h0, _⟩ | ⟨_, h1⟩
    · exact absurd hE h0
    · exact ⟨h.1, h1⟩

set_option maxRecDepth 100000 in set_option maxHeartbeats 1000000 in
theorem TwiceArea_any {w : World} {H : Hal} {v4 v5 v6 v7 v8 : Value} (hV : HalVs w v4 v5 v6 v7 v8 H) :
    Calls Tryz.prog 49 #[halV H v4 v5 v6 v7 v8] w (RetX w (.tuple #[.int .i64 (if (hallF H).2.2 = 0 then areaTo H H.cors.length else 0), .int .i64 (hallF H).2.2])) := by
  by_cases hE : (hallF H).2.2 = 0
  · have HC := hidden (fun (W : World) (hW : Below w.heap.size w W) => visit_good (hV.below hW) hE)
    have hok := hall_ok hE
    have HA := hidden (fun (W : World) (b : Nat) (hR : Room W b H ⟨[], []⟩) => twiceArea_room hR hok.cors (by have := hok.n12; omega))
    rw [hE, if_pos rfl]
    clear hok hE
    obtain ⟨_, g4, g5, g6, g7, g8⟩ := hV
    obtain ⟨A4, c4, rfl, _⟩ := slc_form g4
    obtain ⟨A5, c5, rfl, _⟩ := slc_form g5
    obtain ⟨A6, c6, rfl, _⟩ := slc_form g6
    obtain ⟨A7, c7, rfl, _⟩ := slc_form g7
    obtain ⟨A8, c8, rfl, _⟩ := slc_form g8
    clear g4 g5 g6 g7 g8
    unfold halV at *
    go_enter Tryz.func49, Tryz.ntmps49
    go_wp2_with (first | (go_at_call 63; refine (HC.out _ (by (repeat' (first | (with_reducible exact Below.refl _ _) | (with_reducible assumption) | (with_reducible refine Below.drew ?_) | (with_reducible refine Below.drewNStep ?_ _) | (with_reducible refine Below.alloc ?_ ?_ _) | (with_reducible refine Below.setCell ?_ ?_ _) | (with_reducible refine Below.extStep ?_ ?_ _) | (simp; done) | (simp; omega))))).mono ?_; rintro e w1 ⟨hB1, b, hb1, rfl, ⟨_, _, hR1⟩, _⟩; replace hR1 : Room w1 b H ⟨[], []⟩ := ⟨_, _, _, _, _, _, _, hR1⟩) | (go_at_call 96; refine (HA.out _ _ (hR1.below (by (repeat' (first | (with_reducible exact Below.refl _ _) | (with_reducible assumption) | (with_reducible refine Below.drew ?_) | (with_reducible refine Below.drewNStep ?_ _) | (with_reducible refine Below.alloc ?_ ?_ _) | (with_reducible refine Below.setCell ?_ ?_ _) | (with_reducible refine Below.extStep ?_ ?_ _) | (simp; done) | (simp; omega)))))).mono ?_; rintro e w' ⟨rfl, x2, rfl⟩))
    have hB2 : Below w.heap.size w w1 := (show Below w.heap.size w _ by (repeat' (first | (with_reducible exact Below.refl _ _) | (with_reducible assumption) | (with_reducible refine Below.drew ?_) | (with_reducible refine Below.drewNStep ?_ _) | (with_reducible refine Below.alloc ?_ ?_ _) | (with_reducible refine Below.setCell ?_ ?_ _) | (with_reducible refine Below.extStep ?_ ?_ _) | (simp; done) | (simp; omega)))).trans (hB1.lower (by simp))
    refine bodyPost_ret (v := .tuple #[.int .i64 (areaTo H H.cors.length), .int .i64 0]) (by simp [results, Tryz.results49, go_sem]) rfl (retX rfl (hB2.trans ((show Below w1.heap.size w1 _ by (repeat' (first | (with_reducible exact Below.refl _ _) | (with_reducible assumption) | (with_reducible refine Below.drew ?_) | (with_reducible refine Below.drewNStep ?_ _) | (with_reducible refine Below.alloc ?_ ?_ _) | (with_reducible refine Below.setCell ?_ ?_ _) | (with_reducible refine Below.extStep ?_ ?_ _) | (simp; done) | (simp; omega)))).lower hB2.size)))
  · have HC := hidden (fun (W : World) (hW : Below w.heap.size w W) => visit_bad (hV.below hW) hE)
    rw [if_neg hE]
    generalize (hallF H).2.2 = z at *
    have q4 : (z != 0) = true := by simp [hE]
    have q5 : (z == 0) = false := by simp [hE]
    obtain ⟨_, g4, g5, g6, g7, g8⟩ := hV
    obtain ⟨A4, c4, rfl, _⟩ := slc_form g4
    obtain ⟨A5, c5, rfl, _⟩ := slc_form g5
    obtain ⟨A6, c6, rfl, _⟩ := slc_form g6
    obtain ⟨A7, c7, rfl, _⟩ := slc_form g7
    obtain ⟨A8, c8, rfl, _⟩ := slc_form g8
    clear g4 g5 g6 g7 g8
    unfold halV at *
    go_enter Tryz.func49, Tryz.ntmps49
    go_wp2_with (go_at_call 63; refine (HC.out _ (by (repeat' (first | (with_reducible exact Below.refl _ _) | (with_reducible assumption) | (with_reducible refine Below.drew ?_) | (with_reducible refine Below.drewNStep ?_ _) | (with_reducible refine Below.alloc ?_ ?_ _) | (with_reducible refine Below.setCell ?_ ?_ _) | (with_reducible refine Below.extStep ?_ ?_ _) | (simp; done) | (simp; omega))))).mono ?_; rintro e w' ⟨rfl, x1, rfl⟩)
    refine bodyPost_ret (v := .tuple #[.int .i64 0, .int .i64 z]) (by simp [results, Tryz.results49, go_sem]) rfl (retX rfl (by (repeat' (first | (with_reducible exact Below.refl _ _) | (with_reducible assumption) | (with_reducible refine Below.drew ?_) | (with_reducible refine Below.drewNStep ?_ _) | (with_reducible refine Below.alloc ?_ ?_ _) | (with_reducible refine Below.setCell ?_ ?_ _) | (with_reducible refine Below.extStep ?_ ?_ _) | (simp; done) | (simp; omega)))))
end Go.Proofs.YtbonjgeglhbhnaaGreat

/- slices.Index, slices.Contains over []int; countSurfaces; wallArea of a wall that is not diagonal. -/
namespace Go.Proofs.YtbonjgeglhbhnaaGreat
open Go.RowKit Go.Shelf
attribute [local go_sem] Oper.semAt_some

def idxOf (xs : List Int) (v : Int) (n : Nat) : Option Nat := (List.range n).find? (fun k => intAt xs k == v)
def idxI (xs : List Int) (v : Int) : Int := match idxOf xs v xs.length with | none => -1 | some k => k
def hasI (xs : List Int) (v : Int) : Bool := decide (0 ≤ idxI xs v)
theorem idxI_stop {xs : List Int} {v : Int} {k : Nat} (hk : k < xs.length) (he : (v == intAt xs k) = true) (h : ∀ j, j < k → (v == intAt xs j) = false) : idxI xs v = k := by
  unfold idxI idxOf
  have : (List.range xs.length).find? (fun k => intAt xs k == v) = some k := by
    rw [List.find?_range_eq_some]
    refine ⟨?_, by simpa using hk, fun j hj => ?_⟩
    · have := he; simp at this ⊢; exact this.symm
    · have := h j hj; simp at this ⊢; exact fun e => this e.symm
  rw [this]
theorem idxI_end {xs : List Int} {v : Int} (h : ∀ j, j < xs.length → (v == intAt xs j) = false) : idxI xs v = -1 := by
  unfold idxI idxOf
  have : (List.range xs.length).find? (fun k => intAt xs k == v) = none := by
    rw [List.find?_eq_none]
    intro k hk
    have := h k (by simpa using hk)
    simp at this ⊢
    exact fun e => this e.symm
  rw [this]

set_option maxRecDepth 100000 in set_option maxHeartbeats 1000000 in
theorem Index_any (xs : List Int) (v : Int) (A : Option Addr) (c : Nat) (w : World) (hS : SlcAt encInt w (.slice A xs.length c) xs) :
    Calls Tryz.prog 169 #[.slice A xs.length c, .int .i64 v] w (RetX w (.int .i64 (idxI xs v))) := by
  have hl := hS.1
  refine (callsIn_wide (n := 10)).1 ?_
  refine callsIn_of_wp Tryz.func169 rfl trivial ?_ rfl
  simp only [Tryz.ntmps169, List.size_toArray, List.length_cons, List.length_nil, Nat.reduceAdd, Nat.reduceSub, Array.replicate_succ, Array.replicate_zero, List.push_toArray, List.append_toArray, List.nil_append, List.cons_append]
  gi_wp2
  gi_loopw [8] (fun i wr => ∃ k : Nat, i = .int .i64 k ∧ k ≤ xs.length ∧ Below w.heap.size w wr ∧ ∀ j, j < k → (v == intAt xs j) = false) (fun i _ => xs.length - (intOf i).toNat)
  case atStart => exact ⟨0, rfl, Nat.zero_le _, Below.refl _ _, fun j hj => absurd hj (Nat.not_lt_zero j)⟩
  case round =>
    obtain ⟨k, rfl, hk, hB, hno⟩ := hrel
    replace hS := hS.below hB
    rcases Nat.lt_or_ge k xs.length with hlt | hge
    · obtain ⟨g, o, rfl, hg, hcs⟩ := int_at hS hlt
      have k0 := hcs k hlt
      have hst : Hid ((v == intAt xs k) = true → idxI xs v = k) := fun h => idxI_stop hlt h hno
      have hgo : Hid ((v == intAt xs k) = false → ∀ j, j < k + 1 → (v == intAt xs j) = false) := fun he j hj => by
        rcases Nat.lt_or_ge j k with h' | h'
        · exact hno j h'
        · obtain rfl : j = k := by omega
          exact he
      clear hcs hS hno
      generalize intAt xs k = n at *
      generalize xs.length = N at *
      cases q : (v == n) with
      | true =>
        have hz := hidden (hst.out q)
        gi_wp2
        refine bodyPost_ret (v := .int .i64 k) (by simp [results, Tryz.results169, go_sem]) rfl (retX (by rw [hz.out]) hB)
      | false =>
        have hz := hidden (hgo.out q)
        gi_wp2
        go_roundw
        case rel => exact ⟨k + 1, by go_num, by omega, hB, hz.out⟩
        case measure => simp [intOf]; omega
    · obtain rfl : k = xs.length := by omega
      have hz := hidden (idxI_end hno)
      gi_wp2
      refine bodyPost_ret (v := .int .i64 (-1)) (by simp [results, Tryz.results169, go_sem]) rfl (retX (by rw [hz.out]) hB)

set_option maxRecDepth 100000 in set_option maxHeartbeats 1000000 in
theorem Contains_any (xs : List Int) (v : Int) (A : Option Addr) (c : Nat) (w : World) (hS : SlcAt encInt w (.slice A xs.length c) xs) :
    Calls Tryz.prog 143 #[.slice A xs.length c, .int .i64 v] w (RetX w (.bool (hasI xs v))) := by
  have hh : Hid (hasI xs v = decide (0 ≤ idxI xs v)) := rfl
  have HI := hidden (fun (W : World) (hW : Below w.heap.size w W) => Index_any xs v A c W (hS.below hW))
  generalize idxI xs v = n at *
  generalize hasI xs v = r at *
  have hr := hh.out
  subst hr
  clear hh
  cases q : decide (0 ≤ n)
  all_goals
    go_enter Tryz.func143, Tryz.ntmps143
    go_wp2_with (go_at_call 169; refine (HI.out _ (by (repeat' (first | (with_reducible exact Below.refl _ _) | (with_reducible assumption) | (with_reducible refine Below.drew ?_) | (with_reducible refine Below.drewNStep ?_ _) | (with_reducible refine Below.alloc ?_ ?_ _) | (with_reducible refine Below.setCell ?_ ?_ _) | (with_reducible refine Below.extStep ?_ ?_ _) | (simp; done) | (simp; omega))))).mono ?_; rintro e w' ⟨rfl, x1, rfl⟩)
    go_ret
    refine retX_bool rfl ?_
    (repeat' (first | (with_reducible exact Below.refl _ _) | (with_reducible assumption) | (with_reducible refine Below.drew ?_) | (with_reducible refine Below.drewNStep ?_ _) | (with_reducible refine Below.alloc ?_ ?_ _) | (with_reducible refine Below.setCell ?_ ?_ _) | (with_reducible refine Below.extStep ?_ ?_ _) | (simp; done) | (simp; omega)))

set_option maxRecDepth 100000 in set_option maxHeartbeats 1000000 in
theorem countSurfaces_room {w : World} {b : Nat} {H : Hal} {S : Stg} (hR : Room w b H S) : Calls Tryz.prog 82 #[.pointer (some ⟨b, 0, none⟩)] w (RetX w (.int .i64 ((H.wals.length : Int) + 2 + H.cans.length))) := by
  obtain ⟨v4, v5, v6, v7, v8, u9, u10, hR⟩ := hR
  obtain ⟨A7, c7, rfl, hS7⟩ := slc_form hR.hal.cans
  obtain ⟨A6, c6, rfl, hS6⟩ := slc_form hR.hal.wals
  have l7 := hS7.1
  have l6 := hS6.1
  have k7 := hR.c7
  have k6 := hR.c6
  have hb := hR.has
  clear hR hS7 hS6
  have e1 : IntKind.i64.wrap ((H.wals.length : Int) + 2) = (H.wals.length : Int) + 2 := IntWalk.i64_in _ (by omega)
  have e2 : IntKind.i64.wrap ((H.wals.length : Int) + 2 + H.cans.length) = (H.wals.length : Int) + 2 + H.cans.length := IntWalk.i64_in _ (by omega)
  go_enter Tryz.func82, Tryz.ntmps82
  go_wp2
  (refine wp_region_tameX (by kernel_rfl) (by kernel_rfl) ?_); (repeat (first | (refine wpTame_skip rfl ?_; simp only [Act.put, List.setIfInBounds_toArray, List.set_cons_succ, List.set_cons_zero]) | (refine wpTame_pure rfl rfl rfl (fun K hK => ?_); go_big_quiet_op; refine hK _ ?_; clear hK K) | (refine wpTame_eff rfl rfl (fun K hK => ?_); go_big_op; (first | fail | skip); (refine hK _ _ rfl (ext_of_below (by (repeat' (first | (with_reducible exact Below.refl _ _) | (with_reducible assumption) | (with_reducible refine Below.drew ?_) | (with_reducible refine Below.drewNStep ?_ _) | (with_reducible refine Below.alloc ?_ ?_ _) | (with_reducible refine Below.setCell ?_ ?_ _) | (with_reducible refine Below.extStep ?_ ?_ _) | (simp; done) | (simp; omega))))) ?_; clear hK K)))); (refine wpTame_nil ?_)
  go_wp2
  go_ret
  refine retX_int rfl ?_
  (repeat' (first | (with_reducible exact Below.refl _ _) | (with_reducible assumption) | (with_reducible refine Below.drew ?_) | (with_reducible refine Below.drewNStep ?_ _) | (with_reducible refine Below.alloc ?_ ?_ _) | (with_reducible refine Below.setCell ?_ ?_ _) | (with_reducible refine Below.extStep ?_ ?_ _) | (simp; done) | (simp; omega)))

set_option maxRecDepth 100000 in set_option maxHeartbeats 1000000 in
theorem wallArea_plain (a b c d h : Int) (w : World) (h1 : -5000 ≤ a ∧ a ≤ 5000) (h2 : -5000 ≤ b ∧ b ≤ 5000) (h3 : -5000 ≤ c ∧ c ≤ 5000) (h4 : -5000 ≤ d ∧ d ≤ 5000) (hh : 0 ≤ h ∧ h ≤ 5000) (hd : a = c ∨ b = d) :
    Calls Tryz.prog 145 #[.agg #[.int .i64 a, .int .i64 b, .int .i64 c, .int .i64 d], .int .i64 h] w (RetX w (.agg #[.int .i64 ((max (max (c - a) (-(c - a))) (max (d - b) (-(d - b)))) * h), .int .i64 ((max (max (c - a) (-(c - a))) (max (d - b) (-(d - b)))) * h)])) := by
  have HA := hidden (fun W => reach_any a b c d W h1 h2 h3 h4)
  have HD := hidden (fun W => isDiagonal_any a b c d W)
  have hf : (!decide (a = c) && !decide (b = d)) = false := by rcases hd with h | h <;> simp [h]
  rw [hf] at HD
  have hr : 0 ≤ max (max (c - a) (-(c - a))) (max (d - b) (-(d - b))) ∧ max (max (c - a) (-(c - a))) (max (d - b) (-(d - b))) ≤ 10000 := by omega
  generalize max (max (c - a) (-(c - a))) (max (d - b) (-(d - b))) = r at *
  have hm : 0 ≤ r * h ∧ r * h ≤ 50000000 := ⟨Int.mul_nonneg hr.1 hh.1, by
    have := Int.mul_le_mul hr.2 hh.2 hh.1 (by omega)
    simpa using this⟩
  have e1 : IntKind.i64.wrap (r * h) = r * h := IntWalk.i64_in _ (by omega)
  go_enter Tryz.func145, Tryz.ntmps145
  go_wp2_with (first | (go_at_call 170; refine (HA.out _).mono ?_; rintro e w' ⟨rfl, x1, rfl⟩) | (go_at_call 171; refine (HD.out _).mono ?_; rintro e w' ⟨rfl, x2, rfl⟩))
  refine bodyPost_ret (v := .agg #[.int .i64 (r * h), .int .i64 (r * h)]) (by simp [results, Tryz.results145, go_sem]) rfl (retX rfl ?_)
  (repeat' (first | (with_reducible exact Below.refl _ _) | (with_reducible assumption) | (with_reducible refine Below.drew ?_) | (with_reducible refine Below.drewNStep ?_ _) | (with_reducible refine Below.alloc ?_ ?_ _) | (with_reducible refine Below.setCell ?_ ?_ _) | (with_reducible refine Below.extStep ?_ ?_ _) | (simp; done) | (simp; omega)))
end Go.Proofs.YtbonjgeglhbhnaaGreat

/- at, Low of shoeboxlaw01. -/
namespace Go.Proofs.YtbonjgeglhbhnaaGreat
open Go.RowKit Go.Shelf

set_option maxRecDepth 100000 in set_option maxHeartbeats 1000000 in
theorem law_at (x y z : Int) (w : World) : Calls Tryz.prog 52 #[.int .i64 x, .int .i64 y, .int .i64 z] w (RetX w (.agg #[.int .i64 x, .int .i64 y, .int .i64 z, .int .i64 1])) := by
  go_enter Tryz.func52, Tryz.ntmps52
  go_wp2
  refine bodyPost_ret (v := .agg #[.int .i64 x, .int .i64 y, .int .i64 z, .int .i64 1]) (by simp [results, Tryz.results52, go_sem]) rfl (retX rfl ?_)
  (repeat' (first | (with_reducible exact Below.refl _ _) | (with_reducible assumption) | (with_reducible refine Below.drew ?_) | (with_reducible refine Below.drewNStep ?_ _) | (with_reducible refine Below.alloc ?_ ?_ _) | (with_reducible refine Below.setCell ?_ ?_ _) | (with_reducible refine Below.extStep ?_ ?_ _) | (simp; done) | (simp; omega)))

set_option maxRecDepth 100000 in set_option maxHeartbeats 1000000 in
theorem law_Low (w : World) : Calls Tryz.prog 51 #[] w (fun e w' => Below w.heap.size w w' ∧ ∃ v9 v10, e = .returned (.agg #[v9, v10]) ∧ SlcAt encInt w' v9 [0] ∧ SlcAt encInt w' v10 []) := by
  go_enter Tryz.func51, Tryz.ntmps51
  go_wp2
  generalize hX : World.alloc _ _ = X
  have BX : Below w.heap.size w X := by rw [← hX]; (repeat' (first | (with_reducible exact Below.refl _ _) | (with_reducible assumption) | (with_reducible refine Below.drew ?_) | (with_reducible refine Below.drewNStep ?_ _) | (with_reducible refine Below.alloc ?_ ?_ _) | (with_reducible refine Below.setCell ?_ ?_ _) | (with_reducible refine Below.extStep ?_ ?_ _) | (simp; done) | (simp; omega)))
  have x0 : X.cell? ⟨w.heap.size, 0, none⟩ = some (.slice (some ⟨w.heap.size + 1, 0, none⟩) 1 1) := by rw [← hX]; simp [go_sem]
  have x1 : X.cell? ⟨w.heap.size, 1, none⟩ = some (.slice none 0 0) := by rw [← hX]; simp [go_sem]
  have x2 : X.cell? ⟨w.heap.size + 1, 0, none⟩ = some (.int .i64 0) := by rw [← hX]; simp [go_sem]
  clear hX
  refine bodyPost_ret (v := .agg #[.slice (some ⟨w.heap.size + 1, 0, none⟩) 1 1, .slice none 0 0]) (by simp [results, Tryz.results51, go_sem, x0, x1]) rfl ⟨BX, _, _, rfl, ?_, ?_⟩
  · refine ⟨by decide, _, 1, rfl, fun _ => ⟨_, 0, rfl, has_of_cell x2, ?_⟩⟩
    intro i x hx j hj
    obtain rfl : j = 0 := by have : j < 1 := hj; omega
    match i, hx with
    | 0, hx =>
      simp at hx
      subst hx
      exact ⟨_, x2, rfl⟩
  · exact ⟨by decide, _, 0, rfl, fun h => absurd h (by simp)⟩
end Go.Proofs.YtbonjgeglhbhnaaGreat

/- The greatest common divisor of a number above 0 and others. -/
namespace Go.Proofs.YtbonjgeglhbhnaaGreat
open Go.RowKit Go.Shelf
attribute [local go_sem] Oper.semAt_some

def dvTo (D : Int) (xs : List Int) : Nat → Int
  | 0 => D
  | k + 1 => (Int.gcd (dvTo D xs k) (intAt xs k) : Int)
theorem gcd_step (d n : Int) : Int.gcd (n.tmod d).natAbs d = Int.gcd d n := by
  unfold Int.gcd
  rw [Int.natAbs_natCast, Int.natAbs_tmod, ← Nat.gcd_rec]
theorem dvTo_bd {D : Int} {xs : List Int} (hD : 0 < D) : ∀ k, 0 < dvTo D xs k ∧ dvTo D xs k ≤ D
  | 0 => ⟨hD, Int.le_refl _⟩
  | k + 1 => by
    obtain ⟨h1, h2⟩ := dvTo_bd (xs := xs) hD k
    have hg : 0 < Int.gcd (dvTo D xs k) (intAt xs k) := by
      unfold Int.gcd
      exact Nat.gcd_pos_of_pos_left _ (by omega)
    have hl : (Int.gcd (dvTo D xs k) (intAt xs k) : Int) ≤ dvTo D xs k := Int.le_of_dvd h1 (Int.gcd_dvd_left ..)
    unfold dvTo
    omega

set_option maxRecDepth 100000 in set_option maxHeartbeats 1000000 in
theorem divisor_any (D : Int) (hD : 0 < D ∧ D ≤ 4000000000000000) (xs : List Int) (hx : ∀ k, k < xs.length → -4000000000000000000 ≤ intAt xs k ∧ intAt xs k ≤ 4000000000000000000) (A : Option Addr) (c : Nat) (w : World) (hS : SlcAt encInt w (.slice A xs.length c) xs) :
    Calls Tryz.prog 111 #[.int .i64 D, .slice A xs.length c] w (RetX w (.int .i64 (dvTo D xs xs.length))) := by
  have hl := hS.1
  refine (callsIn_wide (n := 10)).1 ?_
  refine callsIn_of_wp Tryz.func111 rfl trivial ?_ rfl
  simp only [Tryz.ntmps111, List.size_toArray, List.length_cons, List.length_nil, Nat.reduceAdd, Nat.reduceSub, Array.replicate_succ, Array.replicate_zero, List.push_toArray, List.append_toArray, List.nil_append, List.cons_append]
  gi_wp2
  gi_loopw [0, 9] (fun dv i wr => ∃ k : Nat, i = .int .i64 k ∧ k ≤ xs.length ∧ dv = .int .i64 (dvTo D xs k) ∧ Below w.heap.size w wr) (fun _ i _ => xs.length - (intOf i).toNat)
  case atStart => exact ⟨0, rfl, Nat.zero_le _, rfl, Below.refl _ _⟩
  case round =>
    obtain ⟨k, rfl, hk, rfl, hB⟩ := hrel
    replace hS := hS.below hB
    rcases Nat.lt_or_ge k xs.length with hlt | hge
    · obtain ⟨g, o, rfl, hg, hcs⟩ := int_at hS hlt
      have k0 := hcs k hlt
      have hxk := hx k hlt
      have hbd := dvTo_bd (xs := xs) hD.1 k
      have hG : Hid (dvTo D xs (k + 1) = (Int.gcd (dvTo D xs k) (intAt xs k) : Int)) := rfl
      clear hcs hS
      generalize dvTo D xs k = d0 at *
      generalize intAt xs k = n0 at *
      generalize hGG : dvTo D xs (k + 1) = G at *
      gi_wp2
      generalize wr = w2 at *
      gi_loopw [0, 6] (fun dv nv wr => ∃ d n : Int, dv = .int .i64 d ∧ nv = .int .i64 n ∧ (0 < d ∧ d ≤ D) ∧ (-4000000000000000000 ≤ n ∧ n ≤ 4000000000000000000) ∧ (Int.gcd d n : Int) = G ∧ Below w2.heap.size w2 wr) (fun dv _ _ => (intOf dv).toNat)
      case atStart => exact ⟨d0, n0, rfl, rfl, hbd, hxk, hG.out.symm, Below.refl _ _⟩
      case round =>
        obtain ⟨d, n, rfl, rfl, hd, hn, hg2, hB2⟩ := hrel
        have hdn : d ≠ 0 := by omega
        have ht1 := Int.tmod_lt_of_pos n hd.1
        have ht2 := Int.lt_tmod_of_pos n hd.1
        have hstep := gcd_step d n
        have hzero : n.tmod d = 0 → (Int.gcd d n : Int) = d := fun h => by
          rw [h] at hstep
          simp only [Int.natAbs_zero] at hstep
          have e : Int.gcd ((0 : Nat) : Int) d = d.natAbs := by unfold Int.gcd; simp
          rw [e] at hstep
          omega
        have hz := hidden hzero
        have hs := hidden hstep
        clear hzero hstep
        have hne1 : d ≠ -1 := by omega
        have hm : Hid (((max (n.tmod d) (-(n.tmod d)) : Int)) = ((n.tmod d).natAbs : Int)) := by unfold Hid; omega
        cases q : (n.tmod d != 0) with
        | true =>
          gi_wp2
          (refine ⟨trivial, ?_⟩; ((with_reducible refine (callsIn_wide.2 (size_any _ _ (by omega) (by omega))).mono ?_); rintro e w' ⟨rfl, rfl⟩))
          gi_wp2
          go_roundw
          case rel => 
            have q' : n.tmod d ≠ 0 := by simpa using q
            refine ⟨_, d, rfl, rfl, ⟨by omega, by omega⟩, by omega, ?_, hB2⟩
            rw [hm.out, hs.out]; exact hg2
          case measure =>
            have q' : n.tmod d ≠ 0 := by simpa using q
            simp [intOf]; omega
        | false =>
          have hd2 := hidden ((hz.out (by simpa using q)).symm.trans hg2)
          gi_wp2
          go_roundw
          case rel => exact ⟨k + 1, by go_num, by omega, by rw [hd2.out, hGG], hB.trans (hB2.lower hB.size)⟩
          case measure => simp [intOf]; omega
    · obtain rfl : k = xs.length := by omega
      gi_wp2
      refine bodyPost_ret (v := .int .i64 (dvTo D xs xs.length)) (by simp [results, Tryz.results111, go_sem]) rfl (retX rfl hB)
end Go.Proofs.YtbonjgeglhbhnaaGreat
