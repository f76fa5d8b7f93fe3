/- oneByOne, over any function with one captured value. -/
import Derived.Test.YtbonjgeglhbhnaaGreatM23
import Derived.Test.YtbonjgeglhbhnaaGreatM25
set_option linter.unusedVariables false
set_option linter.unusedSimpArgs false
namespace Go.Proofs.YtbonjgeglhbhnaaGreat
open Go.RowKit Go.Shelf
attribute [local go_sem] Oper.semAt_some

def firstBad (E : Nat → Int) (n : Nat) : Option Nat := (List.range n).find? (fun k => decide (E k ≠ 0))
def oneV (l : Int) (E : Nat → Int) (n : Nat) : Value := match firstBad E n with | none => .agg #[.int .i64 0, .int .i64 0, .int .i64 0] | some k => .agg #[.int .i64 l, .int .i64 k, .int .i64 (E k)]
theorem firstBad_end {E : Nat → Int} {n : Nat} (h : ∀ j, j < n → E j = 0) : firstBad E n = none := by
  unfold firstBad
  rw [List.find?_eq_none]
  intro k hk
  simp [h k (by simpa using hk)]
theorem firstBad_stop {E : Nat → Int} {n k : Nat} (hk : k < n) (he : E k ≠ 0) (h : ∀ j, j < k → E j = 0) : firstBad E n = some k := by
  unfold firstBad
  rw [List.find?_range_eq_some]
  refine ⟨by simp [he], by simpa using hk, fun j hj => by simp [h j hj]⟩

theorem oneV_form (l : Int) (E : Nat → Int) (n : Nat) : ∃ x y z, oneV l E n = .agg #[.int .i64 x, .int .i64 y, .int .i64 z] := by
  unfold oneV
  split
  · exact ⟨_, _, _, rfl⟩
  · exact ⟨_, _, _, rfl⟩
structure OneR (s : Nat) (wr : World) : Prop where
  r0 : wr.cell? ⟨s, 0, none⟩ = some (.int .i64 0)
  r1 : wr.cell? ⟨s, 1, none⟩ = some (.int .i64 0)
  r2 : wr.cell? ⟨s, 2, none⟩ = some (.int .i64 0)
  f0 : wr.frozen? ⟨s, 0, none⟩ = false
  f1 : wr.frozen? ⟨s, 1, none⟩ = false
  f2 : wr.frozen? ⟨s, 2, none⟩ = false
theorem OneR.touch {s : Nat} {bs : List Nat} {W W' : World} (h : OneR s W) (t : Touch bs W W') : OneR s W' :=
  ⟨t.kept.cell h.r0, t.kept.cell h.r1, t.kept.cell h.r2, t.frozen h.r0 h.f0, t.frozen h.r1 h.f1, t.frozen h.r2 h.f2⟩

set_option maxRecDepth 100000 in set_option maxHeartbeats 1000000 in
theorem oneByOne_any (f : Nat) (cap : Value) (eg : ∀ args w, (callFunc f args).run Tryz.prog w = .ok (.enter f args) w) (l : Int) (n : Nat) (hn : n ≤ 1000000) (E : Nat → Int) (bs : List Nat) (J : Nat → World → Prop) (w : World)
    (hm : ∀ b ∈ bs, ∃ es c, w.heap[b]? = some (.map es c)) (hJ : ∀ k W W', Below w.heap.size W W' → J k W → J k W')
    (hstep : ∀ k W, k < n → Touch bs w W → J k W → Calls Tryz.prog f #[.int .i64 k, cap] W (fun e W' => e = .returned (.int .i64 (E k)) ∧ Touch bs W W' ∧ (E k = 0 → J (k + 1) W'))) (h0 : J 0 w) :
    Calls Tryz.prog 158 #[.int .i64 l, .int .i64 n, .func (.func f) #[] #[cap]] w (fun e W' => e = .returned (oneV l E n) ∧ Touch bs w W' ∧ (firstBad E n = none → J n W')) := by
  have HH := hidden hstep
  clear hstep
  refine (callsIn_wide (n := 10)).1 ?_
  refine callsIn_of_wp Tryz.func158 rfl trivial ?_ rfl
  simp only [Tryz.ntmps158, List.size_toArray, List.length_cons, List.length_nil, Nat.reduceAdd, Nat.reduceSub, Array.replicate_succ, Array.replicate_zero, List.push_toArray, List.append_toArray, List.nil_append, List.cons_append]
  gi_wp2
  gi_loopw [10] (fun i wr => ∃ k : Nat, i = .int .i64 k ∧ k ≤ n ∧ Touch bs w wr ∧ OneR w.heap.size wr ∧ J k wr ∧ ∀ j, j < k → E j = 0) (fun i _ => n - (intOf i).toNat)
  case atStart => 
    exact ⟨0, rfl, Nat.zero_le _, Touch.of_below (by (repeat' (first | (with_reducible exact Below.refl _ _) | (with_reducible assumption) | (with_reducible refine Below.drew ?_) | (with_reducible refine Below.drewNStep ?_ _) | (with_reducible refine Below.alloc ?_ ?_ _) | (with_reducible refine Below.setCell ?_ ?_ _) | (with_reducible refine Below.extStep ?_ ?_ _) | (simp; done) | (simp; omega)))) hm, ⟨by simp [go_sem], by simp [go_sem], by simp [go_sem], by simp [go_sem], by simp [go_sem], by simp [go_sem]⟩, hJ 0 _ _ (by (repeat' (first | (with_reducible exact Below.refl _ _) | (with_reducible assumption) | (with_reducible refine Below.drew ?_) | (with_reducible refine Below.drewNStep ?_ _) | (with_reducible refine Below.alloc ?_ ?_ _) | (with_reducible refine Below.setCell ?_ ?_ _) | (with_reducible refine Below.extStep ?_ ?_ _) | (simp; done) | (simp; omega)))) h0, fun j hj => absurd hj (Nat.not_lt_zero j)⟩
  case round =>
    obtain ⟨k, rfl, hk, hTw, hO, hj, hz⟩ := hrel
    obtain ⟨r0, r1, r2, f0, f1, f2⟩ := hO
    have g0 := has_of_cell r0
    have hsz := hTw.size
    rcases Nat.lt_or_ge k n with hlt | hge
    · gi_wp2
      refine ⟨trivial, ?_⟩
      refine (callsIn_wide.2 (HH.out k _ hlt hTw hj)).mono ?_
      rintro e w1 ⟨rfl, hT1, hj1⟩
      have hTw1 := hTw.trans hT1
      have hO1 := OneR.touch ⟨r0, r1, r2, f0, f1, f2⟩ hT1
      clear r0 r1 r2 f0 f1 f2 hT1 hj g0
      obtain ⟨s0, s1, s2, t0, t1, t2⟩ := hO1
      have g1 := has_of_cell s0
      have hsz1 := hTw1.size
      by_cases he : E k = 0
      · have hj2 := hj1 he
        have hz2 : ∀ j, j < k + 1 → E j = 0 := fun j hj => by
          rcases Nat.lt_or_ge j k with h' | h'
          · exact hz j h'
          · obtain rfl : j = k := by omega
            exact he
        have hz2 := hidden hz2
        rw [he]
        clear hj1 hz
        gi_wp2
        go_roundw
        case rel => exact ⟨k + 1, by go_num, by omega, hTw1, ⟨s0, s1, s2, t0, t1, t2⟩, hj2, hz2.out⟩
        case measure => simp [intOf]; omega
      · have hne : (E k != 0) = true := by simp [he]
        have hne2 : (E k == 0) = false := by simp [he]
        have hv : Hid (oneV l E n = .agg #[.int .i64 l, .int .i64 k, .int .i64 (E k)]) := by unfold Hid oneV; rw [firstBad_stop hlt he hz]
        have hb : Hid (firstBad E n ≠ none) := by unfold Hid; rw [firstBad_stop hlt he hz]; simp
        clear hj1 hz he
        gi_wp2
        change bodyPost _ _ _ _ _ _
        refine bodyPost_ret (v := .agg #[.int .i64 l, .int .i64 k, .int .i64 (E k)]) ?_ rfl ⟨by rw [hv.out], hTw1.step ?_, fun h => absurd h hb.out⟩
        · simp [results, Tryz.results158, go_sem, s0, s1, s2, g1]
        · (repeat' (first | (with_reducible exact Below.refl _ _) | (with_reducible assumption) | (with_reducible refine Below.drew ?_) | (with_reducible refine Below.drewNStep ?_ _) | (with_reducible refine Below.alloc ?_ ?_ _) | (with_reducible refine Below.setCell ?_ ?_ _) | (with_reducible refine Below.extStep ?_ ?_ _) | (simp; done) | (simp; omega)))
    · obtain rfl : k = n := by omega
      have hz := hidden (firstBad_end hz)
      have hv : Hid (oneV l E k = .agg #[.int .i64 0, .int .i64 0, .int .i64 0]) := by unfold Hid oneV; rw [hz.out]
      gi_wp2
      refine ⟨trivial, ?_⟩
      ((with_reducible refine (callsIn_wide.2 (whole_any _ _)).mono ?_); rintro e w' ⟨rfl, x, rfl⟩)
      gi_wp2
      change bodyPost _ _ _ _ _ _
      refine bodyPost_ret (v := .agg #[.int .i64 0, .int .i64 0, .int .i64 0]) ?_ rfl ⟨by rw [hv.out], hTw.step ?_, fun _ => hJ k _ _ ?_ hj⟩
      · simp [results, Tryz.results158, go_sem, r0, r1, r2, g0]
      · (repeat' (first | (with_reducible exact Below.refl _ _) | (with_reducible assumption) | (with_reducible refine Below.drew ?_) | (with_reducible refine Below.drewNStep ?_ _) | (with_reducible refine Below.alloc ?_ ?_ _) | (with_reducible refine Below.setCell ?_ ?_ _) | (with_reducible refine Below.extStep ?_ ?_ _) | (simp; done) | (simp; omega)))
      · (repeat' (first | (with_reducible exact Below.refl _ _) | (with_reducible assumption) | (with_reducible refine Below.drew ?_) | (with_reducible refine Below.drewNStep ?_ _) | (with_reducible refine Below.alloc ?_ ?_ _) | (with_reducible refine Below.setCell ?_ ?_ _) | (with_reducible refine Below.extStep ?_ ?_ _) | (simp; done) | (simp; omega)))
end Go.Proofs.YtbonjgeglhbhnaaGreat

/- checkMaterials. -/
namespace Go.Proofs.YtbonjgeglhbhnaaGreat
open Go.RowKit

def matsV (H : Hal) : Value := if 10 < H.mats.length then .agg #[.int .i64 0, .int .i64 0, .int .i64 8] else oneV 1 (matE H) H.mats.length
def matsOk (H : Hal) : Bool := !decide (10 < H.mats.length) && (firstBad (matE H) H.mats.length).isNone
set_option maxRecDepth 100000 in set_option maxHeartbeats 1000000 in
theorem checkMaterials_sur {w : World} {b M F T : Nat} {H : Hal} {fs ts : List ByteArray} (hS : SurAt w b H M F T) (hN : Names w M F T [] fs ts) :
    Calls Tryz.prog 131 #[.pointer (some ⟨b, 0, none⟩)] w (fun e w' => e = .returned (matsV H) ∧ Touch [M, F, T] w w' ∧ (matsOk H = true → Names w' M F T (H.mats.map (·.name)) fs ts)) := by
  have HV : Hid (matsV H = if 10 < H.mats.length then .agg #[.int .i64 0, .int .i64 0, .int .i64 8] else oneV 1 (matE H) H.mats.length) := rfl
  have HO : Hid (matsOk H = (!decide (10 < H.mats.length) && (firstBad (matE H) H.mats.length).isNone)) := rfl
  have hn0 : Names w M F T (matNames H 0) fs ts := hN
  have hnn : matNames H H.mats.length = H.mats.map (·.name) := by simp [matNames]
  have HC := hidden (fun (W : World) (c : Nat) (hW : Below w.heap.size w W) (hc : W.cell? ⟨c, 0, none⟩ = some (.pointer (some ⟨b, 0, none⟩))) =>
    oneByOne_any 159 (.pointer (some ⟨c, 0, none⟩)) (enters_of Tryz.func159 (by kernel_rfl) rfl) 1 H.mats.length (by obtain ⟨⟨_, _, _, _, _, _, _, hR⟩, _⟩ := hS; exact hR.hal.mats.1) (matE H) [M, F, T] (fun k V => Names V M F T (matNames H k) fs ts) W
      (hn0.below hW).maps (fun k V V' hb h => h.belowD hb (hn0.below hW).m.has (hn0.below hW).f.has (hn0.below hW).t.has)
      (fun k V hk ht hn => mats1 ((hS.below hW).kept ht.kept) (ht.kept.cell hc) k hk hn) (hn0.below hW))
  obtain ⟨⟨v4, v5, v6, v7, v8, v9, v10, hR⟩, hm, _, _⟩ := hS
  obtain ⟨A, c4, rfl, hS4⟩ := slc_form hR.hal.mats
  have h4 := hR.c4
  have hb := hR.has
  have l4 := hS4.1
  clear hR hS4
  rw [← hnn]
  clear hnn
  generalize matsV H = V at *
  generalize matsOk H = O at *
  generalize H.mats.length = n at *
  cases q : decide ((10 : Int) < (n : Int)) with
  | true =>
    have hv : V = .agg #[.int .i64 0, .int .i64 0, .int .i64 8] := by rw [HV.out, if_pos (by simp at q; omega)]
    have ho : O = false := by rw [HO.out]; simp at q; simp; omega
    subst hv ho
    clear HC HV HO
    go_enter Tryz.func131, Tryz.ntmps131
    go_wp2_with (go_at_call 157; refine (whole_any _ _).mono ?_; rintro e w' ⟨rfl, x2, rfl⟩)
    refine bodyPost_ret (v := .agg #[.int .i64 0, .int .i64 0, .int .i64 8]) (by simp [results, Tryz.results131, go_sem]) rfl ⟨rfl, hN.touch (by (repeat' (first | (with_reducible exact Below.refl _ _) | (with_reducible assumption) | (with_reducible refine Below.drew ?_) | (with_reducible refine Below.drewNStep ?_ _) | (with_reducible refine Below.alloc ?_ ?_ _) | (with_reducible refine Below.setCell ?_ ?_ _) | (with_reducible refine Below.extStep ?_ ?_ _) | (simp; done) | (simp; omega)))), fun h => by cases h⟩
  | false =>
    have hv : V = oneV 1 (matE H) n := by rw [HV.out, if_neg (by simp at q; omega)]
    have ho : Hid (O = true → firstBad (matE H) n = none) := by
      intro h
      rw [HO.out] at h
      simp only [Bool.and_eq_true] at h
      simpa using h.2
    subst hv
    clear HV HO
    obtain ⟨x, y, z, hz⟩ := oneV_form 1 (matE H) n
    rw [hz]
    rw [hz] at HC
    clear hz
    go_enter Tryz.func131, Tryz.ntmps131
    go_wp2_with (go_at_call 158; refine (HC.out _ _ (by (repeat' (first | (with_reducible exact Below.refl _ _) | (with_reducible assumption) | (with_reducible refine Below.drew ?_) | (with_reducible refine Below.drewNStep ?_ _) | (with_reducible refine Below.alloc ?_ ?_ _) | (with_reducible refine Below.setCell ?_ ?_ _) | (with_reducible refine Below.extStep ?_ ?_ _) | (simp; done) | (simp; omega)))) (by simp [go_sem])).mono ?_; rintro e w1 ⟨rfl, hT1, hN1⟩; obtain ⟨r0, r1, r2, f0, f1, f2⟩ := OneR.touch (s := w.heap.size + 1) ⟨by simp [go_sem], by simp [go_sem], by simp [go_sem], by simp [go_sem], by simp [go_sem], by simp [go_sem]⟩ hT1; have gr := has_of_cell r0; have hsz := hT1.size; simp only [World.size_alloc] at hsz)
    refine bodyPost_ret (v := .agg #[.int .i64 x, .int .i64 y, .int .i64 z]) (by simp [results, Tryz.results131, go_sem, r0, r1, r2, gr]) rfl ⟨rfl, ((hN.touch (by (repeat' (first | (with_reducible exact Below.refl _ _) | (with_reducible assumption) | (with_reducible refine Below.drew ?_) | (with_reducible refine Below.drewNStep ?_ _) | (with_reducible refine Below.alloc ?_ ?_ _) | (with_reducible refine Below.setCell ?_ ?_ _) | (with_reducible refine Below.extStep ?_ ?_ _) | (simp; done) | (simp; omega))))).trans hT1).step (by (repeat' (first | (with_reducible exact Below.refl _ _) | (with_reducible assumption) | (with_reducible refine Below.drew ?_) | (with_reducible refine Below.drewNStep ?_ _) | (with_reducible refine Below.alloc ?_ ?_ _) | (with_reducible refine Below.setCell ?_ ?_ _) | (with_reducible refine Below.extStep ?_ ?_ _) | (simp; done) | (simp; omega)))), fun h => (hN1 (ho.out h)).belowD (D := w.heap.size) (by (repeat' (first | (with_reducible exact Below.refl _ _) | (with_reducible assumption) | (with_reducible refine Below.drew ?_) | (with_reducible refine Below.drewNStep ?_ _) | (with_reducible refine Below.alloc ?_ ?_ _) | (with_reducible refine Below.setCell ?_ ?_ _) | (with_reducible refine Below.extStep ?_ ?_ _) | (simp; done) | (simp; omega)))) hN.m.has hN.f.has hN.t.has⟩
end Go.Proofs.YtbonjgeglhbhnaaGreat
