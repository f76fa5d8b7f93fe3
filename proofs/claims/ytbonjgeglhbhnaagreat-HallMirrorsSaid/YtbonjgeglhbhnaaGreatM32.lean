/- checkCorners, checkPlan. -/
import Derived.Test.YtbonjgeglhbhnaaGreatM27
import Derived.Test.YtbonjgeglhbhnaaGreatM26
import Derived.Test.YtbonjgeglhbhnaaGreatM22
import Derived.Test.YtbonjgeglhbhnaaGreatM28
import Derived.Test.YtbonjgeglhbhnaaGreatM14
import Derived.Test.YtbonjgeglhbhnaaGreatM20
import Derived.Test.YtbonjgeglhbhnaaGreatM30
import Derived.Test.YtbonjgeglhbhnaaGreatM31
set_option linter.unusedVariables false
set_option linter.unusedSimpArgs false
namespace Go.Proofs.YtbonjgeglhbhnaaGreat
open Go.RowKit

set_option maxRecDepth 100000 in set_option maxHeartbeats 1000000 in
theorem checkCorners_sur {w : World} {b M F T : Nat} {H : Hal} (hS : SurAt w b H M F T) :
    Calls Tryz.prog 133 #[.pointer (some ⟨b, 0, none⟩)] w (RetX w (oneV 2 (cornE H) H.cors.length)) := by
  have HC := hidden (fun (W : World) (c : Nat) (hW : Below w.heap.size w W) (hc : W.cell? ⟨c, 0, none⟩ = some (.pointer (some ⟨b, 0, none⟩))) =>
    oneByOne_any 161 (.pointer (some ⟨c, 0, none⟩)) (enters_of Tryz.func161 (by kernel_rfl) rfl) 2 H.cors.length (by obtain ⟨⟨_, _, _, _, _, _, _, hR⟩, _⟩ := hS; exact hR.hal.cors.1) (cornE H) [] (fun k V => True) W
      (fun _ h => by cases h) (fun _ _ _ _ _ => trivial)
      (fun k V hk ht _ => (corn1 ((hS.below hW).kept ht.kept) (ht.kept.cell hc) k hk).mono (fun e w' h => ⟨h.below.1, Touch.of_below h.below.2 (fun _ h => by cases h), fun _ => trivial⟩)) trivial)
  obtain ⟨⟨v4, v5, v6, v7, v8, v9, v10, hR⟩, hm, _, _⟩ := hS
  obtain ⟨A, c4, rfl, hS4⟩ := slc_form hR.hal.cors
  have h4 := hR.c5
  have hb := hR.has
  have l4 := hS4.1
  clear hR hS4
  generalize H.cors.length = n at *
  obtain ⟨x, y, z, hz⟩ := oneV_form 2 (cornE H) n
  rw [hz]
  rw [hz] at HC
  clear hz
  go_enter Tryz.func133, Tryz.ntmps133
  go_wp2_with (go_at_call 158; refine (HC.out _ _ (by (repeat' (first | (with_reducible exact Below.refl _ _) | (with_reducible assumption) | (with_reducible refine Below.drew ?_) | (with_reducible refine Below.drewNStep ?_ _) | (with_reducible refine Below.alloc ?_ ?_ _) | (with_reducible refine Below.setCell ?_ ?_ _) | (with_reducible refine Below.extStep ?_ ?_ _) | (simp; done) | (simp; omega)))) (by simp [go_sem])).mono ?_; rintro e w1 ⟨rfl, hT1, hN1⟩; obtain ⟨r0, r1, r2, f0, f1, f2⟩ := OneR.touch (s := w.heap.size + 1) ⟨by simp [go_sem], by simp [go_sem], by simp [go_sem], by simp [go_sem], by simp [go_sem], by simp [go_sem]⟩ hT1; have gr := has_of_cell r0; have hsz := hT1.size; simp only [World.size_alloc] at hsz)
  refine bodyPost_ret (v := .agg #[.int .i64 x, .int .i64 y, .int .i64 z]) (by simp [results, Tryz.results133, go_sem, r0, r1, r2, gr]) rfl (retX rfl ?_)
  have hB1 : Below w.heap.size w w1 := (show Below w.heap.size w _ by (repeat' (first | (with_reducible exact Below.refl _ _) | (with_reducible assumption) | (with_reducible refine Below.drew ?_) | (with_reducible refine Below.drewNStep ?_ _) | (with_reducible refine Below.alloc ?_ ?_ _) | (with_reducible refine Below.setCell ?_ ?_ _) | (with_reducible refine Below.extStep ?_ ?_ _) | (simp; done) | (simp; omega)))).trans (hT1.below (D := w.heap.size) (by simp; omega) (fun _ h => by cases h))
  exact hB1.trans (by (repeat' (first | (with_reducible exact Below.refl _ _) | (with_reducible assumption) | (with_reducible refine Below.drew ?_) | (with_reducible refine Below.drewNStep ?_ _) | (with_reducible refine Below.alloc ?_ ?_ _) | (with_reducible refine Below.setCell ?_ ?_ _) | (with_reducible refine Below.extStep ?_ ?_ _) | (simp; done) | (simp; omega))))

def planE (H : Hal) : Int := if simpleB H = false then 24 else if areaTo H H.cors.length ≤ 0 then 9 else 0
set_option maxRecDepth 100000 in set_option maxHeartbeats 1000000 in
theorem checkPlan_sur {w : World} {b M F T : Nat} {H : Hal} (hS : SurAt w b H M F T) (hC : CorsIn H) (hN : H.cors.length ≤ 20) :
    Calls Tryz.prog 135 #[.pointer (some ⟨b, 0, none⟩)] w (RetX w (.agg #[.int .i64 0, .int .i64 0, .int .i64 (planE H)])) := by
  have HE : Hid (planE H = if simpleB H = false then 24 else if areaTo H H.cors.length ≤ 0 then 9 else 0) := rfl
  have HS := hidden (fun (W : World) (hW : Below w.heap.size w W) => isSimple_room (hS.below hW).room hC hN)
  have HA := hidden (fun (W : World) (hW : Below w.heap.size w W) => twiceArea_room (hS.below hW).room hC hN)
  obtain ⟨⟨v4, v5, v6, v7, v8, v9, v10, hR⟩, hm, _, _⟩ := hS
  have hb := hR.has
  have h0 := hR.c0
  clear hR
  generalize planE H = E at *
  generalize simpleB H = sb at *
  generalize areaTo H H.cors.length = ar at *
  cases sb with
  | false =>
    have hE := HE.out
    rw [if_pos rfl] at hE
    subst hE
    clear HE
    go_enter Tryz.func135, Tryz.ntmps135
    go_wp2_with (first | (go_at_call 163; refine (HS.out _ (by (repeat' (first | (with_reducible exact Below.refl _ _) | (with_reducible assumption) | (with_reducible refine Below.drew ?_) | (with_reducible refine Below.drewNStep ?_ _) | (with_reducible refine Below.alloc ?_ ?_ _) | (with_reducible refine Below.setCell ?_ ?_ _) | (with_reducible refine Below.extStep ?_ ?_ _) | (simp; done) | (simp; omega))))).mono ?_; rintro e w' ⟨rfl, x1, rfl⟩) | (go_at_call 96; refine (HA.out _ (by (repeat' (first | (with_reducible exact Below.refl _ _) | (with_reducible assumption) | (with_reducible refine Below.drew ?_) | (with_reducible refine Below.drewNStep ?_ _) | (with_reducible refine Below.alloc ?_ ?_ _) | (with_reducible refine Below.setCell ?_ ?_ _) | (with_reducible refine Below.extStep ?_ ?_ _) | (simp; done) | (simp; omega))))).mono ?_; rintro e w' ⟨rfl, x2, rfl⟩) | (go_at_call 157; refine (whole_any _ _).mono ?_; rintro e w' ⟨rfl, x3, rfl⟩))
    refine bodyPost_ret ?_ rfl (retX rfl ?_); (simp [results, Tryz.results135, go_sem]); (repeat' (first | (with_reducible exact Below.refl _ _) | (with_reducible assumption) | (with_reducible refine Below.drew ?_) | (with_reducible refine Below.drewNStep ?_ _) | (with_reducible refine Below.alloc ?_ ?_ _) | (with_reducible refine Below.setCell ?_ ?_ _) | (with_reducible refine Below.extStep ?_ ?_ _) | (simp; done) | (simp; omega)))
  | true =>
    cases q : decide (ar ≤ 0) with
    | true =>
      have hE := HE.out
      rw [if_neg (by decide), if_pos (of_decide_eq_true q)] at hE
      subst hE
      clear HE
      go_enter Tryz.func135, Tryz.ntmps135
      go_wp2_with (first | (go_at_call 163; refine (HS.out _ (by (repeat' (first | (with_reducible exact Below.refl _ _) | (with_reducible assumption) | (with_reducible refine Below.drew ?_) | (with_reducible refine Below.drewNStep ?_ _) | (with_reducible refine Below.alloc ?_ ?_ _) | (with_reducible refine Below.setCell ?_ ?_ _) | (with_reducible refine Below.extStep ?_ ?_ _) | (simp; done) | (simp; omega))))).mono ?_; rintro e w' ⟨rfl, x1, rfl⟩) | (go_at_call 96; refine (HA.out _ (by (repeat' (first | (with_reducible exact Below.refl _ _) | (with_reducible assumption) | (with_reducible refine Below.drew ?_) | (with_reducible refine Below.drewNStep ?_ _) | (with_reducible refine Below.alloc ?_ ?_ _) | (with_reducible refine Below.setCell ?_ ?_ _) | (with_reducible refine Below.extStep ?_ ?_ _) | (simp; done) | (simp; omega))))).mono ?_; rintro e w' ⟨rfl, x2, rfl⟩) | (go_at_call 157; refine (whole_any _ _).mono ?_; rintro e w' ⟨rfl, x3, rfl⟩))
      refine bodyPost_ret ?_ rfl (retX rfl ?_); (simp [results, Tryz.results135, go_sem]); (repeat' (first | (with_reducible exact Below.refl _ _) | (with_reducible assumption) | (with_reducible refine Below.drew ?_) | (with_reducible refine Below.drewNStep ?_ _) | (with_reducible refine Below.alloc ?_ ?_ _) | (with_reducible refine Below.setCell ?_ ?_ _) | (with_reducible refine Below.extStep ?_ ?_ _) | (simp; done) | (simp; omega)))
    | false =>
      have hE := HE.out
      rw [if_neg (by decide), if_neg (of_decide_eq_false q)] at hE
      subst hE
      clear HE
      go_enter Tryz.func135, Tryz.ntmps135
      go_wp2_with (first | (go_at_call 163; refine (HS.out _ (by (repeat' (first | (with_reducible exact Below.refl _ _) | (with_reducible assumption) | (with_reducible refine Below.drew ?_) | (with_reducible refine Below.drewNStep ?_ _) | (with_reducible refine Below.alloc ?_ ?_ _) | (with_reducible refine Below.setCell ?_ ?_ _) | (with_reducible refine Below.extStep ?_ ?_ _) | (simp; done) | (simp; omega))))).mono ?_; rintro e w' ⟨rfl, x1, rfl⟩) | (go_at_call 96; refine (HA.out _ (by (repeat' (first | (with_reducible exact Below.refl _ _) | (with_reducible assumption) | (with_reducible refine Below.drew ?_) | (with_reducible refine Below.drewNStep ?_ _) | (with_reducible refine Below.alloc ?_ ?_ _) | (with_reducible refine Below.setCell ?_ ?_ _) | (with_reducible refine Below.extStep ?_ ?_ _) | (simp; done) | (simp; omega))))).mono ?_; rintro e w' ⟨rfl, x2, rfl⟩) | (go_at_call 157; refine (whole_any _ _).mono ?_; rintro e w' ⟨rfl, x3, rfl⟩))
      refine bodyPost_ret ?_ rfl (retX rfl ?_); (simp [results, Tryz.results135, go_sem]); (repeat' (first | (with_reducible exact Below.refl _ _) | (with_reducible assumption) | (with_reducible refine Below.drew ?_) | (with_reducible refine Below.drewNStep ?_ _) | (with_reducible refine Below.alloc ?_ ?_ _) | (with_reducible refine Below.setCell ?_ ?_ _) | (with_reducible refine Below.extStep ?_ ?_ _) | (simp; done) | (simp; omega)))
end Go.Proofs.YtbonjgeglhbhnaaGreat

/- checkWalls. -/
namespace Go.Proofs.YtbonjgeglhbhnaaGreat
open Go.RowKit Go.Shelf
attribute [local go_sem] Oper.semAt_some

theorem bodyPostM_any {F : Fence} {n : Nat} {P : Program} {fn : Func} {R : Ending → World → Prop} {tmps : Array Value} {D : Nat} {W : World} {v : Value} (hD : W.heap[D]? = some (.deferred (some [])))
    (hr : ∀ o : Obj, (results fn tmps).run P (W.putObj D o) = .ok v (W.putObj D o)) (hR : ∀ o, R (.returned v) (W.putObj D o)) : bodyPostM F n P fn R .ret { tmps := tmps, defers := [{ target := .collected D, args := #[] }] } W :=
  ⟨by simp, .inl ⟨_, _, rfl, run_takeDeferred hD, ⟨v, hr _, hR _⟩⟩⟩
theorem wpIn_region_tameH {P : Program} {l₀ n : Nat} {id : Nat} {Q : Exit → Act → World → Prop} {a : Act} {w : World} {l : List Oper} (r : Nat) (hm : P.follows .mixedOrders = true) (hB : (noDefer l && Region.tameB .any Oper.isEff l) = true)
    (h : wpTame P l.toArray Oper.isEff (fun w' => ∃ x, w' = w.hole r x) (fun a' w' => Q .normal a' w') l a w.drew) : (Code.region id l.toArray true).wpIn (Fence.wide.inRound l₀) n P Q a w :=
  wpIn_region_tame (fun w' => ∃ x, w' = w.hole r x) Oper.isEff hm hB (hole_of (HoleRel.refl _ _ _).drew) h

theorem Touch.simB {bs : List Nat} {w W W' : World} {B : Nat} (h : Touch bs w W) (s : Sim B W W') (hB : w.heap.size ≤ B) : Touch bs w W' :=
  ⟨s.os.trans h.os, s.tape.trans h.tape, s.output.trans h.output, Nat.le_trans h.size s.size, fun k hk hn => by
    have hl : k < W.heap.size := Nat.lt_of_lt_of_le hk h.size
    rw [← h.block k hk hn, Array.getElem?_eq_getElem hl]
    exact s.same k _ (Array.getElem?_eq_getElem hl) (.inr (by omega)), h.was, fun b hb => by
    obtain ⟨es, c, hw⟩ := h.was b hb
    obtain ⟨es', c', hx⟩ := h.now b hb
    exact ⟨es', c', s.same b _ hx (.inr (Nat.lt_of_lt_of_le (Array.getElem?_eq_some_iff.1 hw).1 hB))⟩⟩
theorem Touch.keepsAll {bs : List Nat} {w w' : World} {B : Nat} (h : Touch bs w w') (hb : ∀ b ∈ bs, b < B) : KeepsAll B w w' :=
  ⟨h.size, fun k o hk ho => (h.block k (Array.getElem?_eq_some_iff.1 ho).1 (fun hm => absurd (hb k hm) (by omega))).trans ho⟩
def walNames (H : Hal) (i : Nat) : List ByteArray := (H.wals.take i).map (·.name)
def wallEk (H : Hal) (ms fs : List ByteArray) (k : Nat) : Int := wallE ms (fs ++ walNames H k) (walAt H.wals k) (corAt H.cors k).x (corAt H.cors k).y (corAt H.cors (nxt H.cors.length k)).x (corAt H.cors (nxt H.cors.length k)).y
theorem walNames_succ {H : Hal} {i : Nat} (fs : List ByteArray) (h : i < H.wals.length) : fs ++ walNames H (i + 1) = (fs ++ walNames H i) ++ [(walAt H.wals i).name] := by
  unfold walNames walAt
  rw [List.take_add_one, List.getElem?_eq_getElem h, List.map_append, List.append_assoc]
  rfl
theorem wal_sized {H : Hal} (hs : H.Sized) (i : Nat) (hi : i < H.wals.length) : (walAt H.wals i).name.size ≤ 1000000 := by
  have : walAt H.wals i = H.wals[i] := by unfold walAt; rw [List.getElem?_eq_getElem hi]; rfl
  rw [this]
  exact (hs.wals _ (List.getElem_mem hi)).1

structure WlI (H : Hal) (bp s M F T : Nat) (ms fs ts : List ByteArray) (k : Nat) (W : World) : Prop where
  box : W.cell? ⟨s, 0, none⟩ = some (.pointer (some ⟨bp, 0, none⟩))
  res : OneR (s + 1) W
  nam : Names W M F T ms (fs ++ walNames H k) ts
  none : ∀ j, j < k → wallEk H ms fs j = 0
theorem OneR.sim {s D : Nat} {W W' : World} (m : Sim D W W') (h : OneR s W) : OneR s W' := ⟨m.cell h.r0, m.cell h.r1, m.cell h.r2, m.frozen h.r0 h.f0, m.frozen h.r1 h.f1, m.frozen h.r2 h.f2⟩
theorem WlI.sim {H : Hal} {bp s M F T : Nat} {ms fs ts : List ByteArray} {k D : Nat} {W W' : World} (m : Sim D W W') (hM : M < D) (hF : F < D) (hT : T < D) (h : WlI H bp s M F T ms fs ts k W) : WlI H bp s M F T ms fs ts k W' :=
  ⟨m.cell h.box, h.res.sim m, h.nam.sim m hM hF hT, h.none⟩
structure WlX (H : Hal) (s : Nat) (ms fs : List ByteArray) (C : Code) (W : World) : Prop where
  ret : C = .ret
  res : ∃ x y z, oneV 3 (wallEk H ms fs) H.cors.length = .agg #[.int .i64 x, .int .i64 y, .int .i64 z] ∧ W.cell? ⟨s + 1, 0, none⟩ = some (.int .i64 x) ∧ W.cell? ⟨s + 1, 1, none⟩ = some (.int .i64 y) ∧ W.cell? ⟨s + 1, 2, none⟩ = some (.int .i64 z)
  bad : firstBad (wallEk H ms fs) H.cors.length ≠ none
theorem WlX.sim {H : Hal} {s D : Nat} {ms fs : List ByteArray} {C : Code} {W W' : World} (m : Sim D W W') (h : WlX H s ms fs C W) : WlX H s ms fs C W' :=
  ⟨h.ret, let ⟨x, y, z, e, a, b, c⟩ := h.res; ⟨x, y, z, e, m.cell a, m.cell b, m.cell c⟩, h.bad⟩

def wlA (H : Hal) (bp s B k : Nat) : Act := { tmps := #[.pointer (some ⟨bp, 0, none⟩), .pointer (some ⟨s, 0, none⟩), .pointer (some ⟨s + 1, 0, none⟩), .int .i64 k, .pointer (some ⟨B, 0, none⟩), undef, .pointer (some ⟨bp, 0, none⟩), .pointer (some ⟨bp, 0, none⟩), .pointer (some ⟨bp, 0, none⟩), .func (.func 118) #[.pointer (some ⟨bp, 0, none⟩)] #[], .int .i64 k, lineV H k, undef, undef, undef, undef, undef, undef, undef, undef, undef, undef, undef, undef, undef, undef, undef, undef, undef, undef, undef], defers := [] }

set_option maxRecDepth 100000 in set_option maxHeartbeats 1000000 in
theorem checkWalls_sur {w : World} {bp M F T : Nat} {H : Hal} {ms fs ts : List ByteArray} (hS : SurAt w bp H M F T) (hN : Names w M F T ms fs ts) (hC : CorsIn H) (hNn : H.cors.length ≤ 20) (hW : H.wals.length = H.cors.length) :
    Calls Tryz.prog 134 #[.pointer (some ⟨bp, 0, none⟩)] w (fun e w' => e = .returned (oneV 3 (wallEk H ms fs) H.cors.length) ∧ Touch [M, F, T] w w' ∧ (firstBad (wallEk H ms fs) H.cors.length = none → Names w' M F T ms (fs ++ H.wals.map (·.name)) ts)) := by
  have hbh : w.Has bp := by obtain ⟨⟨_, _, _, _, _, _, _, hR⟩, _⟩ := hS; exact hR.has
  have hMh := hN.m.has
  have hFh := hN.f.has
  have hTh := hN.t.has
  refine (callsIn_wide (n := 10)).1 ?_
  refine callsIn_of_wp_marks Tryz.func134 rfl trivial ?_ rfl
  simp only [Tryz.ntmps134, List.size_toArray, List.length_cons, List.length_nil, Nat.reduceAdd, Nat.reduceSub, Array.replicate_succ, Array.replicate_zero, List.push_toArray, List.append_toArray, List.nil_append, List.cons_append]
  gi_wp2
  generalize hw1 : ((w.alloc _).alloc _ : World) = w1
  have hB1 : Below w.heap.size w w1 := by rw [← hw1]; (repeat' (first | (with_reducible exact Below.refl _ _) | (with_reducible assumption) | (with_reducible refine Below.drew ?_) | (with_reducible refine Below.drewNStep ?_ _) | (with_reducible refine Below.alloc ?_ ?_ _) | (with_reducible refine Below.setCell ?_ ?_ _) | (with_reducible refine Below.extStep ?_ ?_ _) | (simp; done) | (simp; omega)))
  have hs1 : w1.heap.size = w.heap.size + 2 := by rw [← hw1]; simp
  have hN1 : Names w1 M F T ms (fs ++ walNames H 0) ts := by simpa [walNames] using hN.below hB1
  have hS1 := hS.below hB1
  have hbox : w1.cell? ⟨w.heap.size, 0, none⟩ = some (.pointer (some ⟨bp, 0, none⟩)) := by rw [← hw1]; simp [go_sem]
  have hres : OneR (w.heap.size + 1) w1 := by rw [← hw1]; exact ⟨by simp [go_sem], by simp [go_sem], by simp [go_sem], by simp [go_sem], by simp [go_sem], by simp [go_sem]⟩
  unfold World.Has at hMh hFh hTh
  have hM1 : M < w1.heap.size := by omega
  have hF1 : F < w1.heap.size := by omega
  have hT1 : T < w1.heap.size := by omega
  clear hw1
  refine range_outerG rfl (by omega) (gf := 118) (pre := #[.pointer (some ⟨bp, 0, none⟩)]) rfl trivial (enters_of Tryz.func118 (by kernel_rfl) rfl) (G := fun W => Touch [M, F, T] w W) (fun W W' s h => h.simB s (by omega)) (hN.touch hB1)
    (walls_iterG (fun W x h => h.ext x) (fun W h => (hS.kept h.kept).room) _ (by omega)) (fun k => rfl)
    (fun k W => WlI H bp w.heap.size M F T ms fs ts k W) (fun C W => WlX H w.heap.size ms fs C W) (fun k W W' s h => h.sim s hM1 hF1 hT1) (fun c W W' s h => h.sim s) ?start
    (fun k a' W => ∃ B, w.heap.size + 2 ≤ B ∧ a' = wlA H bp w.heap.size B k ∧ EdgeIn W B H k) (fun k a' W W' s ⟨B, h1, h2, h3⟩ => ⟨B, h1, h2, h3.sim s⟩) ?assign ?body ?done ?stop
  case start => exact ⟨hbox, hres, hN1, fun j hj => absurd hj (Nat.not_lt_zero j)⟩
  case assign =>
    intro l k W K hk hI hG hK
    have hsz := hG.size
    have hs2 : w.heap.size + 1 < W.heap.size := has_of_cell hI.res.r0
    simp only [wallEnc, lineV]
    gi_wp2
    exact hK _ _ (KeepsAll.alloc _ _ _) (hG.step (by (repeat' (first | (with_reducible exact Below.refl _ _) | (with_reducible assumption) | (with_reducible refine Below.drew ?_) | (with_reducible refine Below.drewNStep ?_ _) | (with_reducible refine Below.alloc ?_ ?_ _) | (with_reducible refine Below.setCell ?_ ?_ _) | (with_reducible refine Below.extStep ?_ ?_ _) | (simp; done) | (simp; omega))))) (hI.sim (Sim.alloc w1.heap.size _ _) hM1 hF1 hT1) ⟨W.heap.size, by omega, rfl, EdgeIn.new _ _ _ _⟩
  case body =>
    rintro l k a' W hk hl hr ⟨box, hO, hNW, hno⟩ ⟨B, hB, rfl, ⟨e0, e1, e2, e3⟩⟩ hG
    have hkw : k < H.wals.length := by omega
    have hSW := hS.kept hG.kept
    have hSW' := hSW
    obtain ⟨⟨v4, v5, v6, v7, v8, v9, v10, hR⟩, _⟩ := hSW'
    obtain ⟨A, c6, rfl, hS6⟩ := slc_form hR.hal.wals
    obtain ⟨g, o, rfl, hg, hcs⟩ := wal_at hS6 hkw
    obtain ⟨k0, k1, k2⟩ := hcs k hkw
    have hsz := wal_sized hR.hal.sized k hkw
    have l6 := hS6.1
    have h6 := hR.c6
    obtain ⟨a1, a2⟩ := hC k (by omega)
    obtain ⟨b1, b2⟩ := hC _ (nxt_lt (n := H.cors.length) (i := k) (by omega))
    have HW := hidden (fun (X : World) (hX : Below W.heap.size W X) => checkWall_sur (hSW.below hX) (hNW.below hX) (walAt H.wals k) hsz (corAt H.cors k).x (corAt H.cors k).y (corAt H.cors (nxt H.cors.length k)).x (corAt H.cors (nxt H.cors.length k)).y a1 a2 b1 b2)
    have hE : Hid (wallEk H ms fs k = wallE ms (fs ++ walNames H k) (walAt H.wals k) (corAt H.cors k).x (corAt H.cors k).y (corAt H.cors (nxt H.cors.length k)).x (corAt H.cors (nxt H.cors.length k)).y) := rfl
    have hSu := hidden (walNames_succ (H := H) (i := k) fs hkw)
    have nb := hNW.f.ne h6
    have nx := hNW.f.ne box
    have nB := hNW.f.ne e0
    have ng := hNW.f.ne k0
    have gb := has_of_cell h6
    have gx := has_of_cell box
    have gB := has_of_cell e0
    have gg := has_of_cell k0
    have hOl := has_of_cell hO.r0
    have HNW := hidden hNW
    have HO := hidden hO
    have hst : Hid (∀ e, wallEk H ms fs k = e → e ≠ 0 → oneV 3 (wallEk H ms fs) H.cors.length = .agg #[.int .i64 3, .int .i64 k, .int .i64 e] ∧ firstBad (wallEk H ms fs) H.cors.length ≠ none) := fun e he hn => by
      have := firstBad_stop hk (by rw [he]; exact hn) hno
      exact ⟨by unfold oneV; rw [this]; simp only [he], by rw [this]; simp⟩
    have hgo : Hid (wallEk H ms fs k = 0 → ∀ j, j < k + 1 → wallEk H ms fs j = 0) := fun he j hj => by
      rcases Nat.lt_or_ge j k with h' | h'
      · exact hno j h'
      · obtain rfl : j = k := by omega
        exact he
    clear hR hS6 hcs hSW hno hr hl hNW hO
    rw [← hE.out] at HW
    unfold wlA lineV
    generalize wallEk H ms fs k = E at *
    generalize (corAt H.cors k).x = x1 at *
    generalize (corAt H.cors k).y = x2 at *
    generalize (corAt H.cors (nxt H.cors.length k)).x = x3 at *
    generalize (corAt H.cors (nxt H.cors.length k)).y = x4 at *
    generalize walAt H.wals k = m at *
    generalize H.wals.length = nw at *
    gi_wp2
    (refine wpIn_region_tameH (F) (by kernel_rfl) (by kernel_rfl) ?_); (repeat (first | (refine wpTame_skip rfl ?_; simp only [Act.put, List.setIfInBounds_toArray, List.set_cons_succ, List.set_cons_zero]) | (refine wpTame_pure rfl rfl rfl (fun K hK => ?_); go_big_quiet_op; refine hK _ ?_; clear hK K) | (refine wpTame_eff rfl rfl (fun K hK => ?_); go_big_op; (first | (go_at_call 162; refine (HW.out _ (by (repeat' (first | (with_reducible exact Below.refl _ _) | (with_reducible assumption) | (with_reducible refine Below.drew ?_) | (with_reducible refine Below.drewNStep ?_ _) | (with_reducible refine Below.alloc ?_ ?_ _) | (with_reducible refine Below.setCell ?_ ?_ _) | (with_reducible refine Below.extStep ?_ ?_ _) | (simp; done) | (simp; omega))))).mono ?_; rintro e w2 ⟨rfl, hH, hT, hN2⟩; have hHW : HoleRel W.heap.size F W w2 := (HoleRel.drew (HoleRel.refl _ _ _)).trans hH) | skip); (refine hK _ _ rfl (hole_of (by (repeat' (first | (with_reducible exact HoleRel.refl _ _ _) | (with_reducible assumption) | (with_reducible refine HoleRel.swap ?_ _ _) | (with_reducible refine HoleRel.drew ?_) | (with_reducible refine HoleRel.drewN ?_ _) | (with_reducible refine HoleRel.setCell ?_ ?_ _) | (with_reducible refine HoleRel.putObj ?_ ?_ _) | (with_reducible refine HoleRel.alloc ?_ ?_ _) | (with_reducible refine HoleRel.ext ?_ ?_ _) | (exact Or.inl rfl) | (simp; done) | (simp; omega))))) ?_; clear hK K)))); (refine wpTame_nil ?_)
    have TW : Touch [M, F, T] W w2 := (HNW.out.touch (by (repeat' (first | (with_reducible exact Below.refl _ _) | (with_reducible assumption) | (with_reducible refine Below.drew ?_) | (with_reducible refine Below.drewNStep ?_ _) | (with_reducible refine Below.alloc ?_ ?_ _) | (with_reducible refine Below.setCell ?_ ?_ _) | (with_reducible refine Below.extStep ?_ ?_ _) | (simp; done) | (simp; omega))))).trans hT
    have KW := TW.keepsAll (B := w1.heap.size) (by simp; omega)
    have O2 := HO.out.touch TW
    have box2 := TW.kept.cell box
    clear HO HW hT hH hHW
    obtain ⟨r0, r1, r2, f0, f1, f2⟩ := O2
    have g2 := has_of_cell r0
    by_cases he : E = 0
    · have hn2 := hN2 (by rw [he])
      subst he
      gi_wp2
      exact ⟨by rw [← hs1]; exact KW, hG.trans TW, box2, ⟨r0, r1, r2, f0, f1, f2⟩, by rw [hSu.out]; exact hn2, hgo.out (by first | exact rfl | trivial)⟩
    · have q4 : (E != 0) = true := by simp [he]
      have q5 : (E == 0) = false := by simp [he]
      obtain ⟨hv, hbad⟩ := hst.out E rfl he
      have hv := hidden hv
      have hbad := hidden hbad
      clear hst hgo hN2
      gi_wp2
      refine ⟨((KeepsAll.trans KW (KeepsAll.setCell _ _ _ (by show w.heap.size + 1 < w1.heap.size; omega))).trans (KeepsAll.setCell _ _ _ (by show w.heap.size + 1 < w1.heap.size; omega))).trans (KeepsAll.setCell _ _ _ (by show w.heap.size + 1 < w1.heap.size; omega)), (hG.trans TW).step ?_, rfl, ⟨3, k, E, hv.out, ?_, ?_, ?_⟩, hbad.out⟩
      · (repeat' (first | (with_reducible exact Below.refl _ _) | (with_reducible assumption) | (with_reducible refine Below.drew ?_) | (with_reducible refine Below.drewNStep ?_ _) | (with_reducible refine Below.alloc ?_ ?_ _) | (with_reducible refine Below.setCell ?_ ?_ _) | (with_reducible refine Below.extStep ?_ ?_ _) | (simp; done) | (simp; omega)))
      · simp [go_sem, r0, r1, r2, g2]
      · simp [go_sem, r0, r1, r2, g2]
      · simp [go_sem, r0, r1, r2, g2]
  case done =>
    rintro W ⟨box, hO, hNW, hno⟩ hG hD
    rw [hs1] at hD
    have hv : Hid (oneV 3 (wallEk H ms fs) H.cors.length = .agg #[.int .i64 0, .int .i64 0, .int .i64 0]) := by unfold Hid oneV; rw [firstBad_end hno]
    have hall : Hid (walNames H H.cors.length = H.wals.map (·.name)) := by unfold Hid; rw [← hW]; simp [walNames]
    obtain ⟨r0, r1, r2, f0, f1, f2⟩ := hO
    have g1 := has_of_cell r0
    have HNW := hidden hNW
    have hsz := hG.size
    have hDl := (Array.getElem?_eq_some_iff.1 hD).1
    clear hno hNW
    gi_wp2
    (refine ⟨trivial, ?_⟩; ((with_reducible refine (callsIn_wide.2 (whole_any _ _)).mono ?_); rintro e w' ⟨rfl, x, rfl⟩))
    gi_wp2
    generalize hZ : World.setCell _ _ _ = Z
    have BZ : Below w.heap.size W Z := by rw [← hZ]; (repeat' (first | (with_reducible exact Below.refl _ _) | (with_reducible assumption) | (with_reducible refine Below.drew ?_) | (with_reducible refine Below.drewNStep ?_ _) | (with_reducible refine Below.alloc ?_ ?_ _) | (with_reducible refine Below.setCell ?_ ?_ _) | (with_reducible refine Below.extStep ?_ ?_ _) | (simp; done) | (simp; omega)))
    have DZ : Z.heap[w.heap.size + 2]? = some (.deferred (some [])) := by
      rw [← hZ]
      exact (Below.heap_setCell _ _ _ _ (by first | (simp; done) | (simp; omega))).trans ((Below.heap_setCell _ _ _ _ (by first | (simp; done) | (simp; omega))).trans ((Below.heap_setCell _ _ _ _ (by first | (simp; done) | (simp; omega))).trans ((World.ext_heap_lt _ _ _ hDl).trans hD)))
    have z0 : Z.cell? ⟨w.heap.size + 1, 0, none⟩ = some (.int .i64 0) := by rw [← hZ]; simp [go_sem, r0, r1, r2, g1]
    have z1 : Z.cell? ⟨w.heap.size + 1, 1, none⟩ = some (.int .i64 0) := by rw [← hZ]; simp [go_sem, r0, r1, r2, g1]
    have z2 : Z.cell? ⟨w.heap.size + 1, 2, none⟩ = some (.int .i64 0) := by rw [← hZ]; simp [go_sem, r0, r1, r2, g1]
    have d0 : ∀ o, (Z.putObj (w.heap.size + 2) o).cell? ⟨w.heap.size + 1, 0, none⟩ = some (.int .i64 0) := fun o => cell_put (by omega) z0
    have d1 : ∀ o, (Z.putObj (w.heap.size + 2) o).cell? ⟨w.heap.size + 1, 1, none⟩ = some (.int .i64 0) := fun o => cell_put (by omega) z1
    have d2 : ∀ o, (Z.putObj (w.heap.size + 2) o).cell? ⟨w.heap.size + 1, 2, none⟩ = some (.int .i64 0) := fun o => cell_put (by omega) z2
    clear hZ
    exact bodyPostM_any (v := .agg #[.int .i64 0, .int .i64 0, .int .i64 0]) DZ (fun o => by simp [results, Tryz.results134, go_sem, d0, d1, d2]) (fun o => ⟨by rw [hv.out], hG.step (BZ.putObjStep (by omega) _), fun _ => by rw [← hall.out]; exact HNW.out.belowD (D := w.heap.size) (BZ.putObjStep (by omega) _) hMh hFh hTh⟩)
  case stop =>
    rintro c' W ⟨rfl, ⟨x, y, z, hz, c0, c1, c2⟩, hbad⟩ hG hD
    have hz' := hidden hz
    have hb' := hidden hbad
    have g1 := has_of_cell c0
    clear hbad hz
    gi_wp2
    have d0 : ∀ o, (W.putObj w1.heap.size o).cell? ⟨w.heap.size + 1, 0, none⟩ = some (.int .i64 x) := fun o => cell_put (by omega) c0
    have d1 : ∀ o, (W.putObj w1.heap.size o).cell? ⟨w.heap.size + 1, 1, none⟩ = some (.int .i64 y) := fun o => cell_put (by omega) c1
    have d2 : ∀ o, (W.putObj w1.heap.size o).cell? ⟨w.heap.size + 1, 2, none⟩ = some (.int .i64 z) := fun o => cell_put (by omega) c2
    exact bodyPostM_any (v := .agg #[.int .i64 x, .int .i64 y, .int .i64 z]) hD (fun o => by simp [results, Tryz.results134, go_sem, d0, d1, d2]) (fun o => ⟨by rw [hz'.out], hG.step (Below.putObjStep (Below.refl _ _) (by omega) o), fun h => absurd h hb'.out⟩)
end Go.Proofs.YtbonjgeglhbhnaaGreat

/- The eight checks of a hall, in their order. -/
namespace Go.Proofs.YtbonjgeglhbhnaaGreat
open Go.RowKit

abbrev Flt := Int × Int × Int
def fltV (f : Flt) : Value := .agg #[.int .i64 (f.1), .int .i64 (f.2.1), .int .i64 (f.2.2)]
def oneF (l : Int) (E : Nat → Int) (n : Nat) : Flt := match firstBad E n with | none => (0, 0, 0) | some k => (l, (k : Int), E k)
theorem oneF_V (l : Int) (E : Nat → Int) (n : Nat) : oneV l E n = fltV (oneF l E n) := by
  unfold oneV oneF fltV
  cases firstBad E n <;> rfl
theorem oneF_none {l : Int} {E : Nat → Int} {n : Nat} (h : (oneF l E n).2.2 = 0) : firstBad E n = none := by
  unfold oneF at h
  cases hb : firstBad E n with
  | none => rfl
  | some k =>
    rw [hb] at h
    unfold firstBad at hb
    have := List.find?_some hb
    simp at this
    exact absurd h this
def floorN : ByteArray := ⟨#[102, 108, 111, 111, 114]⟩
def ceilN : ByteArray := ⟨#[99, 101, 105, 108, 105, 110, 103]⟩
def fs0 : List ByteArray := [floorN, ceilN]
def msOf (H : Hal) : List ByteArray := H.mats.map (·.name)
def fs1 (H : Hal) : List ByteArray := fs0 ++ H.wals.map (·.name)
def fs2 (H : Hal) : List ByteArray := fs1 H ++ H.cans.map (·.name)
def matsF (H : Hal) : Flt := if 10 < H.mats.length then (0, 0, 8) else oneF 1 (matE H) H.mats.length
def cansF (H : Hal) (ms fs : List ByteArray) : Flt := if 4 < H.cans.length then (0, 0, 8) else oneF 4 (canE H ms fs) H.cans.length
def seatsF (H : Hal) : Flt := if 40 < H.seas.length then (0, 0, 8) else oneF 5 (seaE H) H.seas.length
theorem matsF_V (H : Hal) : matsV H = fltV (matsF H) := by unfold matsV matsF; split; rfl; exact oneF_V _ _ _
theorem cansF_V (H : Hal) (ms fs : List ByteArray) : cansV H ms fs = fltV (cansF H ms fs) := by unfold cansV cansF; split; rfl; exact oneF_V _ _ _
theorem seatsF_V (H : Hal) : seatsV H = fltV (seatsF H) := by unfold seatsV seatsF; split; rfl; exact oneF_V _ _ _
theorem matsF_ok {H : Hal} (h : (matsF H).2.2 = 0) : matsOk H = true := by
  unfold matsF at h
  unfold matsOk
  split at h
  · exact absurd h (by decide)
  · rename_i hn; simp [hn, oneF_none h]
theorem cansF_ok {H : Hal} {ms fs : List ByteArray} (h : (cansF H ms fs).2.2 = 0) : cansOk H ms fs = true := by
  unfold cansF at h
  unfold cansOk
  split at h
  · exact absurd h (by decide)
  · rename_i hn; simp [hn, oneF_none h]
theorem seatsF_ok {H : Hal} (h : (seatsF H).2.2 = 0) : seatsOk H = true := by
  unfold seatsF at h
  unfold seatsOk
  split at h
  · exact absurd h (by decide)
  · rename_i hn; simp [hn, oneF_none h]

def flt (H : Hal) (k : Nat) : Flt :=
  if k = 0 then (0, 0, itselfE H) else if k = 1 then matsF H else if k = 2 then (0, 0, partsE H (msOf H)) else if k = 3 then oneF 2 (cornE H) H.cors.length
  else if k = 4 then oneF 3 (wallEk H (msOf H) fs0) H.cors.length else if k = 5 then (0, 0, planE H) else if k = 6 then cansF H (msOf H) (fs1 H) else seatsF H
def hallF (H : Hal) : Flt := match firstBad (fun k => (flt H k).2.2) 8 with | none => (0, 0, 0) | some k => flt H k

def fnAt (k : Nat) : Nat := if k = 0 then 130 else if k = 1 then 131 else if k = 2 then 132 else if k = 3 then 133
  else if k = 4 then 134 else if k = 5 then 135 else if k = 6 then 136 else 137
theorem fnAt_enters (k : Nat) : ∀ args w, (callFunc (fnAt k) args).run Tryz.prog w = .ok (.enter (fnAt k) args) w := by
  unfold fnAt
  repeat' split
  · exact enters_of Tryz.func130 (by kernel_rfl) rfl
  · exact enters_of Tryz.func131 (by kernel_rfl) rfl
  · exact enters_of Tryz.func132 (by kernel_rfl) rfl
  · exact enters_of Tryz.func133 (by kernel_rfl) rfl
  · exact enters_of Tryz.func134 (by kernel_rfl) rfl
  · exact enters_of Tryz.func135 (by kernel_rfl) rfl
  · exact enters_of Tryz.func136 (by kernel_rfl) rfl
  · exact enters_of Tryz.func137 (by kernel_rfl) rfl

def msAt (H : Hal) (k : Nat) : List ByteArray := if k ≤ 1 then [] else msOf H
def fsAt (H : Hal) (k : Nat) : List ByteArray := if k ≤ 4 then fs0 else if k ≤ 6 then fs1 H else fs2 H
def tsAt (H : Hal) (k : Nat) : List ByteArray := if k ≤ 7 then [] else H.seas.map (·.name)

theorem itself_ok {H : Hal} (h : itselfE H = 0) : -5000 ≤ H.height ∧ H.height ≤ 5000 := by
  unfold itselfE at h
  split at h
  · exact absurd h (by decide)
  · split at h
    · exact absurd h (by decide)
    · split at h
      · exact absurd h (by decide)
      · omega
theorem parts_ok {H : Hal} {ms : List ByteArray} (h : partsE H ms = 0) : H.wals.length = H.cors.length ∧ H.cors.length ≤ 20 := by
  unfold partsE at h
  repeat' (split at h; exact absurd h (by decide))
  omega

theorem check_at {H : Hal} {W : World} {b M F T : Nat} (k : Nat) (hk : k < 8) (hS : SurAt W b H M F T) (hN : Names W M F T (msAt H k) (fsAt H k) (tsAt H k)) (hok : ∀ j, j < k → (flt H j).2.2 = 0) :
    Calls Tryz.prog (fnAt k) #[.pointer (some ⟨b, 0, none⟩)] W (fun e W' => e = .returned (fltV (flt H k)) ∧ Touch [M, F, T] W W' ∧ ((flt H k).2.2 = 0 → Names W' M F T (msAt H (k + 1)) (fsAt H (k + 1)) (tsAt H (k + 1)))) := by
  have hk8 : k = 0 ∨ k = 1 ∨ k = 2 ∨ k = 3 ∨ k = 4 ∨ k = 5 ∨ k = 6 ∨ k = 7 := by omega
  rcases hk8 with rfl | rfl | rfl | rfl | rfl | rfl | rfl | rfl
  · exact (checkItself_sur hS).mono fun e W' h => ⟨h.below.1, hN.touch h.below.2, fun _ => hN.below h.below.2⟩
  · exact (checkMaterials_sur hS hN).mono fun e W' h => ⟨by rw [h.1, matsF_V]; rfl, h.2.1, fun h0 => h.2.2 (matsF_ok h0)⟩
  · exact (checkParts_sur hS hN).mono fun e W' h => ⟨h.below.1, hN.touch h.below.2, fun _ => hN.below h.below.2⟩
  · exact (checkCorners_sur hS).mono fun e W' h => ⟨by rw [h.below.1, oneF_V]; rfl, hN.touch h.below.2, fun _ => hN.below h.below.2⟩
  · have h2 := parts_ok (hok 2 (by omega))
    have hC := cornE_ok (oneF_none (hok 3 (by omega)))
    exact (checkWalls_sur hS hN hC h2.2 h2.1).mono fun e W' h => ⟨by rw [h.1, oneF_V]; rfl, h.2.1, fun h0 => h.2.2 (oneF_none h0)⟩
  · have h2 := parts_ok (hok 2 (by omega))
    have hC := cornE_ok (oneF_none (hok 3 (by omega)))
    exact (checkPlan_sur hS hC h2.2).mono fun e W' h => ⟨h.below.1, hN.touch h.below.2, fun _ => hN.below h.below.2⟩
  · have h2 := parts_ok (hok 2 (by omega))
    have hC := cornE_ok (oneF_none (hok 3 (by omega)))
    exact (checkCanopies_sur hS hC h2.2 hN).mono fun e W' h => ⟨by rw [h.1, cansF_V]; rfl, h.2.1, fun h0 => h.2.2 (cansF_ok h0)⟩
  · have h2 := parts_ok (hok 2 (by omega))
    have hC := cornE_ok (oneF_none (hok 3 (by omega)))
    have hh := itself_ok (hok 0 (by omega))
    exact (checkSeats_sur hS hC h2.2 hh hN).mono fun e W' h => ⟨by rw [h.1, seatsF_V]; rfl, h.2.1, fun h0 => h.2.2 (seatsF_ok h0)⟩
end Go.Proofs.YtbonjgeglhbhnaaGreat
