/- checkWalls. -/
import Derived.Test.YtekieoamelahkaaGreatM20
import Derived.Test.YtekieoamelahkaaGreatM14
import Derived.Test.YtekieoamelahkaaGreatM17
import Derived.Test.YtekieoamelahkaaGreatM18
import Derived.Test.YtekieoamelahkaaGreatM19
set_option maxRecDepth 100000
set_option maxHeartbeats 1000000
set_option linter.unusedVariables false
set_option linter.unusedSimpArgs false
namespace Go.Proofs.YtekieoamelahkaaGreat
open Go.RowKit Go.Shelf
attribute [local go_sem] Oper.semAt_some

theorem bodyPostM_any {F : Fence} {n : Nat} {P : Program} {fn : Func} {R : Ending → World → Prop} {tmps : Array Value} {D : Nat} {W : World} {v : Value} (hD : W.heap[D]? = some (.deferred (some [])))
 (hr : ∀ o : Obj, (results fn tmps).run P (W.putObj D o) = .ok v (W.putObj D o)) (hR : ∀ o, R (.returned v) (W.putObj D o)) : bodyPostM F n P fn R .ret { tmps := tmps, defers := [{ target := .collected D, args := #[] }] } W :=
 ⟨by simp, .inl ⟨_, _, rfl, run_takeDeferred hD, ⟨v, hr _, hR _⟩⟩⟩
theorem wpIn_region_tameH {P : Program} {l₀ n : Nat} {id : Nat} {Q : Exit → Act → World → Prop} {a : Act} {w : World} {l : List Oper} (r : Nat) (hm : P.follows .mixedOrders = true) (hB : (noDefer l && Region.tameB .any Oper.isEff l) = true)
 (h : wpTame P l.toArray Oper.isEff (fun w' => ∃ x, w' = w.hole r x) (fun a' w' => Q .normal a' w') l a w.drew) : (Code.region id l.toArray true).wpIn (Fence.wide.inRound l₀) n P Q a w :=
 wpIn_region_tame (fun w' => ∃ x, w' = w.hole r x) Oper.isEff hm hB (hole_of (HoleRel.refl _ _ _).drew) h

theorem Touch.simB {bs : List Nat} {w W W' : World} {B : Nat} (h : Touch bs w W) (s : Sim B W W') (hB : w.heap.size ≤ B) : Touch bs w W' :=
 ⟨s.os.trans h.os, s.tape.trans h.tape, s.output.trans h.output, Nat.le_trans h.size s.size, fun k hk hn => by
  have hl : k < W.heap.size := Nat.lt_of_lt_of_le hk h.size
  rw [← h.block k hk hn, Array.getElem?_eq_getElem hl]
  exact s.same k _ (Array.getElem?_eq_getElem hl) (.inr (by omega)), h.was, fun b hb => by
  obtain ⟨es, c, hw⟩ := h.was b hb
  obtain ⟨es', c', hx⟩ := h.now b hb
  exact ⟨es', c', s.same b _ hx (.inr (Nat.lt_of_lt_of_le (Array.getElem?_eq_some_iff.1 hw).1 hB))⟩⟩
theorem Touch.keepsAll {bs : List Nat} {w w' : World} {B : Nat} (h : Touch bs w w') (hb : ∀ b ∈ bs, b < B) : KeepsAll B w w' :=
 ⟨h.size, fun k o hk ho => (h.block k (Array.getElem?_eq_some_iff.1 ho).1 (fun hm => absurd (hb k hm) (by omega))).trans ho⟩
def walNames (H : Hal) (i : Nat) : List ByteArray := (H.wals.take i).map (·.name)
def wallEk (H : Hal) (ms fs : List ByteArray) (k : Nat) : Int := wallE ms (fs ++ walNames H k) (walAt H.wals k) (corAt H.cors k).x (corAt H.cors k).y (corAt H.cors (nxt H.cors.length k)).x (corAt H.cors (nxt H.cors.length k)).y
theorem walNames_succ {H : Hal} {i : Nat} (fs : List ByteArray) (h : i < H.wals.length) : fs ++ walNames H (i + 1) = (fs ++ walNames H i) ++ [(walAt H.wals i).name] := by
 unfold walNames walAt
 rw [List.take_add_one, List.getElem?_eq_getElem h, List.map_append, List.append_assoc]
 rfl
theorem wal_sized {H : Hal} (hs : H.Sized) (i : Nat) (hi : i < H.wals.length) : (walAt H.wals i).name.size ≤ 1000000 := by
 have : walAt H.wals i = H.wals[i] := by unfold walAt; rw [List.getElem?_eq_getElem hi]; rfl
 rw [this]
 exact (hs.wals _ (List.getElem_mem hi)).1

structure WlI (H : Hal) (bp s M F T : Nat) (ms fs ts : List ByteArray) (k : Nat) (W : World) : Prop where
 box : W.cell? ⟨s, 0, none⟩ = some (.pointer (some ⟨bp, 0, none⟩))
 res : OneR (s + 1) W
 nam : Names W M F T ms (fs ++ walNames H k) ts
 none : ∀ j, j < k → wallEk H ms fs j = 0
theorem OneR.sim {s D : Nat} {W W' : World} (m : Sim D W W') (h : OneR s W) : OneR s W' := ⟨m.cell h.r0, m.cell h.r1, m.cell h.r2, m.frozen h.r0 h.f0, m.frozen h.r1 h.f1, m.frozen h.r2 h.f2⟩
theorem WlI.sim {H : Hal} {bp s M F T : Nat} {ms fs ts : List ByteArray} {k D : Nat} {W W' : World} (m : Sim D W W') (hM : M < D) (hF : F < D) (hT : T < D) (h : WlI H bp s M F T ms fs ts k W) : WlI H bp s M F T ms fs ts k W' :=
 ⟨m.cell h.box, h.res.sim m, h.nam.sim m hM hF hT, h.none⟩
structure WlX (H : Hal) (s : Nat) (ms fs : List ByteArray) (C : Code) (W : World) : Prop where
 ret : C = .ret
 res : ∃ x y z, oneV 3 (wallEk H ms fs) H.cors.length = .agg #[.int .i64 x, .int .i64 y, .int .i64 z] ∧ W.cell? ⟨s + 1, 0, none⟩ = some (.int .i64 x) ∧ W.cell? ⟨s + 1, 1, none⟩ = some (.int .i64 y) ∧ W.cell? ⟨s + 1, 2, none⟩ = some (.int .i64 z)
 bad : firstBad (wallEk H ms fs) H.cors.length ≠ none
theorem WlX.sim {H : Hal} {s D : Nat} {ms fs : List ByteArray} {C : Code} {W W' : World} (m : Sim D W W') (h : WlX H s ms fs C W) : WlX H s ms fs C W' :=
 ⟨h.ret, let ⟨x, y, z, e, a, b, c⟩ := h.res; ⟨x, y, z, e, m.cell a, m.cell b, m.cell c⟩, h.bad⟩

def wlA (H : Hal) (bp s B k : Nat) : Act := { tmps := #[.pointer (some ⟨bp, 0, none⟩), .pointer (some ⟨s, 0, none⟩), .pointer (some ⟨s + 1, 0, none⟩), .int .i64 k, .pointer (some ⟨B, 0, none⟩), undef, .pointer (some ⟨bp, 0, none⟩), .pointer (some ⟨bp, 0, none⟩), .pointer (some ⟨bp, 0, none⟩), .func (.func 129) #[.pointer (some ⟨bp, 0, none⟩)] #[], .int .i64 k, lineV H k, undef, undef, undef, undef, undef, undef, undef, undef, undef, undef, undef, undef, undef, undef, undef, undef, undef, undef, undef], defers := [] }

theorem checkWalls_sur {w : World} {bp M F T : Nat} {H : Hal} {ms fs ts : List ByteArray} (hS : SurAt w bp H M F T) (hN : Names w M F T ms fs ts) (hC : CorsIn H) (hNn : H.cors.length ≤ 20) (hW : H.wals.length = H.cors.length) :
 Calls Tryz.prog 72 #[.pointer (some ⟨bp, 0, none⟩)] w (fun e w' => e = .returned (oneV 3 (wallEk H ms fs) H.cors.length) ∧ Touch [M, F, T] w w' ∧ (firstBad (wallEk H ms fs) H.cors.length = none → Names w' M F T ms (fs ++ H.wals.map (·.name)) ts)) := by
 have hbh : w.Has bp := by obtain ⟨⟨_, _, _, _, _, _, _, hR⟩, _⟩ := hS; exact hR.has
 have hMh := hN.m.has
 have hFh := hN.f.has
 have hTh := hN.t.has
 refine (callsIn_wide (n := 10)).1 ?_
 refine callsIn_of_wp_marks Tryz.func72 rfl trivial ?_ rfl
 simp only [Tryz.ntmps72, nt, Nat.reduceAdd, Nat.reduceSub]
 gi_wp2
 generalize hw1 : ((w.alloc _).alloc _ : World) = w1
 have hB1 : Below w.heap.size w w1 := by rw [← hw1]; (repeat' first | with_reducible (first | apply bz0 | assumption | apply bz1 | apply bz2 | apply bz3 | apply bz4 | apply bz5) | (simp <;> omega))
 have hs1 : w1.heap.size = w.heap.size + 2 := by rw [← hw1]; simp
 have hN1 : Names w1 M F T ms (fs ++ walNames H 0) ts := by simpa [walNames] using hN.below hB1
 have hS1 := hS.below hB1
 have hbox : w1.cell? ⟨w.heap.size, 0, none⟩ = some (.pointer (some ⟨bp, 0, none⟩)) := by rw [← hw1]; simp [go_sem]
 have hres : OneR (w.heap.size + 1) w1 := by rw [← hw1]; exact ⟨by simp [go_sem], by simp [go_sem], by simp [go_sem], by simp [go_sem], by simp [go_sem], by simp [go_sem]⟩
 unfold World.Has at hMh hFh hTh
 have hM1 : M < w1.heap.size := by omega
 have hF1 : F < w1.heap.size := by omega
 have hT1 : T < w1.heap.size := by omega
 clear hw1
 refine range_outerG rfl (by omega) (gf := 129) (pre := #[.pointer (some ⟨bp, 0, none⟩)]) rfl trivial (enters_of Tryz.func129 (by kernel_rfl) rfl) (G := fun W => Touch [M, F, T] w W) (fun W W' s h => h.simB s (by omega)) (hN.touch hB1)
  (walls_iterG (fun W x h => h.ext x) (fun W h => (hS.kept h.kept).room) _ (by omega)) (fun k => rfl)
  (fun k W => WlI H bp w.heap.size M F T ms fs ts k W) (fun C W => WlX H w.heap.size ms fs C W) (fun k W W' s h => h.sim s hM1 hF1 hT1) (fun c W W' s h => h.sim s) ?start
  (fun k a' W => ∃ B, w.heap.size + 2 ≤ B ∧ a' = wlA H bp w.heap.size B k ∧ EdgeIn W B H k) (fun k a' W W' s ⟨B, h1, h2, h3⟩ => ⟨B, h1, h2, h3.sim s⟩) ?assign ?body ?done ?stop
 case start => exact ⟨hbox, hres, hN1, fun j hj => absurd hj (Nat.not_lt_zero j)⟩
 case assign =>
  intro l k W K hk hI hG hK
  have hsz := hG.size
  have hs2 : w.heap.size + 1 < W.heap.size := has_of_cell hI.res.r0
  simp only [wallEnc, lineV]
  gi_wp2
  exact hK _ _ (KeepsAll.alloc _ _ _) (hG.step (by (repeat' first | with_reducible (first | apply bz0 | assumption | apply bz1 | apply bz2 | apply bz3 | apply bz4 | apply bz5) | (simp <;> omega)))) (hI.sim (Sim.alloc w1.heap.size _ _) hM1 hF1 hT1) ⟨W.heap.size, by omega, rfl, EdgeIn.new _ _ _ _⟩
 case body =>
  rintro l k a' W hk hl hr ⟨box, hO, hNW, hno⟩ ⟨B, hB, rfl, ⟨e0, e1, e2, e3⟩⟩ hG
  have hkw : k < H.wals.length := by omega
  have hSW := hS.kept hG.kept
  have hSW' := hSW
  obtain ⟨⟨v4, v5, v6, v7, v8, v9, v10, hR⟩, _⟩ := hSW'
  obtain ⟨A, c6, rfl, hS6⟩ := slc_form hR.hal.wals
  obtain ⟨g, o, rfl, hg, hcs⟩ := wal_at hS6 hkw
  obtain ⟨k0, k1, k2⟩ := hcs k hkw
  have hsz := wal_sized hR.hal.sized k hkw
  have l6 := hS6.1
  have h6 := hR.c6
  obtain ⟨a1, a2⟩ := hC k (by omega)
  obtain ⟨b1, b2⟩ := hC _ (nxt_lt (n := H.cors.length) (i := k) (by omega))
  have HW := hidden (fun (X : World) (hX : Below W.heap.size W X) => checkWall_sur (hSW.below hX) (hNW.below hX) (walAt H.wals k) hsz (corAt H.cors k).x (corAt H.cors k).y (corAt H.cors (nxt H.cors.length k)).x (corAt H.cors (nxt H.cors.length k)).y a1 a2 b1 b2)
  have hE : Hid (wallEk H ms fs k = wallE ms (fs ++ walNames H k) (walAt H.wals k) (corAt H.cors k).x (corAt H.cors k).y (corAt H.cors (nxt H.cors.length k)).x (corAt H.cors (nxt H.cors.length k)).y) := rfl
  have hSu := hidden (walNames_succ (H := H) (i := k) fs hkw)
  have nb := hNW.f.ne h6
  have nx := hNW.f.ne box
  have nB := hNW.f.ne e0
  have ng := hNW.f.ne k0
  have gb := has_of_cell h6
  have gx := has_of_cell box
  have gB := has_of_cell e0
  have gg := has_of_cell k0
  have hOl := has_of_cell hO.r0
  have HNW := hidden hNW
  have HO := hidden hO
  have hst : Hid (∀ e, wallEk H ms fs k = e → e ≠ 0 → oneV 3 (wallEk H ms fs) H.cors.length = .agg #[.int .i64 3, .int .i64 k, .int .i64 e] ∧ firstBad (wallEk H ms fs) H.cors.length ≠ none) := fun e he hn => by
   have := firstBad_stop hk (by rw [he]; exact hn) hno
   exact ⟨by unfold oneV; rw [this]; simp only [he], by rw [this]; simp⟩
  have hgo : Hid (wallEk H ms fs k = 0 → ∀ j, j < k + 1 → wallEk H ms fs j = 0) := fun he j hj => by
   rcases Nat.lt_or_ge j k with h' | h'
   · exact hno j h'
   · obtain rfl : j = k := by omega
     exact he
  clear hR hS6 hcs hSW hno hr hl hNW hO
  rw [← hE.out] at HW
  unfold wlA lineV
  generalize wallEk H ms fs k = E at *
  generalize (corAt H.cors k).x = x1 at *
  generalize (corAt H.cors k).y = x2 at *
  generalize (corAt H.cors (nxt H.cors.length k)).x = x3 at *
  generalize (corAt H.cors (nxt H.cors.length k)).y = x4 at *
  generalize walAt H.wals k = m at *
  generalize H.wals.length = nw at *
  gi_wp2
  (refine wpIn_region_tameH (F) (by kernel_rfl) (by kernel_rfl) ?_); (repeat (first | (refine tmS rfl ?_; simp only [Act.put, List.setIfInBounds_toArray, List.set_cons_succ, List.set_cons_zero]) | (refine tmP rfl rfl rfl (fun K hK => ?_); go_big_quiet_op; refine hK _ ?_; clear hK K) | (refine tmE rfl rfl (fun K hK => ?_); go_big_op; (first | (go_at_call 130; refine (HW.out _ (by (repeat' first | with_reducible (first | apply bz0 | assumption | apply bz1 | apply bz2 | apply bz3 | apply bz4 | apply bz5) | (simp <;> omega)))).mono ?_; rintro e w2 ⟨rfl, hH, hT, hN2⟩; have hHW : HoleRel W.heap.size F W w2 := (HoleRel.drew (HoleRel.refl _ _ _)).trans hH) | skip); (refine hK _ _ rfl (hole_of (by (repeat' (first | (with_reducible exact HoleRel.refl _ _ _) | (with_reducible assumption) | (with_reducible refine HoleRel.swap ?_ _ _) | (with_reducible refine HoleRel.drew ?_) | (with_reducible refine HoleRel.drewN ?_ _) | (with_reducible refine HoleRel.setCell ?_ ?_ _) | (with_reducible refine HoleRel.putObj ?_ ?_ _) | (with_reducible refine HoleRel.alloc ?_ ?_ _) | (with_reducible refine HoleRel.ext ?_ ?_ _) | (exact Or.inl rfl) | (simp; done) | (simp; omega))))) ?_; clear hK K)))); (refine tmN ?_)
  have TW : Touch [M, F, T] W w2 := (HNW.out.touch (by (repeat' first | with_reducible (first | apply bz0 | assumption | apply bz1 | apply bz2 | apply bz3 | apply bz4 | apply bz5) | (simp <;> omega)))).trans hT
  have KW := TW.keepsAll (B := w1.heap.size) (by simp; omega)
  have O2 := HO.out.touch TW
  have box2 := TW.kept.cell box
  clear HO HW hT hH hHW
  obtain ⟨r0, r1, r2, f0, f1, f2⟩ := O2
  have g2 := has_of_cell r0
  by_cases he : E = 0
  · have hn2 := hN2 (by rw [he])
    subst he
    gi_wp2
    exact ⟨by rw [← hs1]; exact KW, hG.trans TW, box2, ⟨r0, r1, r2, f0, f1, f2⟩, by rw [hSu.out]; exact hn2, hgo.out (by first | exact rfl | trivial)⟩
  · have q4 : (E != 0) = true := by simp [he]
    have q5 : (E == 0) = false := by simp [he]
    obtain ⟨hv, hbad⟩ := hst.out E rfl he
    have hv := hidden hv
    have hbad := hidden hbad
    clear hst hgo hN2
    gi_wp2
    refine ⟨((KeepsAll.trans KW (KeepsAll.setCell _ _ _ (by show w.heap.size + 1 < w1.heap.size; omega))).trans (KeepsAll.setCell _ _ _ (by show w.heap.size + 1 < w1.heap.size; omega))).trans (KeepsAll.setCell _ _ _ (by show w.heap.size + 1 < w1.heap.size; omega)), (hG.trans TW).step ?_, rfl, ⟨3, k, E, hv.out, ?_, ?_, ?_⟩, hbad.out⟩
    · (repeat' first | with_reducible (first | apply bz0 | assumption | apply bz1 | apply bz2 | apply bz3 | apply bz4 | apply bz5) | (simp <;> omega))
    · simp [go_sem, r0, r1, r2, g2]
    · simp [go_sem, r0, r1, r2, g2]
    · simp [go_sem, r0, r1, r2, g2]
 case done =>
  rintro W ⟨box, hO, hNW, hno⟩ hG hD
  rw [hs1] at hD
  have hv : Hid (oneV 3 (wallEk H ms fs) H.cors.length = .agg #[.int .i64 0, .int .i64 0, .int .i64 0]) := by unfold Hid oneV; rw [firstBad_end hno]
  have hall : Hid (walNames H H.cors.length = H.wals.map (·.name)) := by unfold Hid; rw [← hW]; simp [walNames]
  obtain ⟨r0, r1, r2, f0, f1, f2⟩ := hO
  have g1 := has_of_cell r0
  have HNW := hidden hNW
  have hsz := hG.size
  have hDl := (Array.getElem?_eq_some_iff.1 hD).1
  clear hno hNW
  gi_wp2
  (refine ⟨trivial, ?_⟩; ((with_reducible refine (callsIn_wide.2 (whole_any _ _)).mono ?_); rintro e w' ⟨rfl, x, rfl⟩))
  gi_wp2
  generalize hZ : World.setCell _ _ _ = Z
  have BZ : Below w.heap.size W Z := by rw [← hZ]; (repeat' first | with_reducible (first | apply bz0 | assumption | apply bz1 | apply bz2 | apply bz3 | apply bz4 | apply bz5) | (simp <;> omega))
  have DZ : Z.heap[w.heap.size + 2]? = some (.deferred (some [])) := by
   rw [← hZ]
   exact (Below.heap_setCell _ _ _ _ (by first | (simp; done) | (simp; omega))).trans ((Below.heap_setCell _ _ _ _ (by first | (simp; done) | (simp; omega))).trans ((Below.heap_setCell _ _ _ _ (by first | (simp; done) | (simp; omega))).trans ((World.ext_heap_lt _ _ _ hDl).trans hD)))
  have z0 : Z.cell? ⟨w.heap.size + 1, 0, none⟩ = some (.int .i64 0) := by rw [← hZ]; simp [go_sem, r0, r1, r2, g1]
  have z1 : Z.cell? ⟨w.heap.size + 1, 1, none⟩ = some (.int .i64 0) := by rw [← hZ]; simp [go_sem, r0, r1, r2, g1]
  have z2 : Z.cell? ⟨w.heap.size + 1, 2, none⟩ = some (.int .i64 0) := by rw [← hZ]; simp [go_sem, r0, r1, r2, g1]
  have d0 : ∀ o, (Z.putObj (w.heap.size + 2) o).cell? ⟨w.heap.size + 1, 0, none⟩ = some (.int .i64 0) := fun o => cell_put (by omega) z0
  have d1 : ∀ o, (Z.putObj (w.heap.size + 2) o).cell? ⟨w.heap.size + 1, 1, none⟩ = some (.int .i64 0) := fun o => cell_put (by omega) z1
  have d2 : ∀ o, (Z.putObj (w.heap.size + 2) o).cell? ⟨w.heap.size + 1, 2, none⟩ = some (.int .i64 0) := fun o => cell_put (by omega) z2
  clear hZ
  exact bodyPostM_any (v := .agg #[.int .i64 0, .int .i64 0, .int .i64 0]) DZ (fun o => by simp [results, Tryz.results72, go_sem, d0, d1, d2]) (fun o => ⟨by rw [hv.out], hG.step (BZ.putObjStep (by omega) _), fun _ => by rw [← hall.out]; exact HNW.out.belowD (D := w.heap.size) (BZ.putObjStep (by omega) _) hMh hFh hTh⟩)
 case stop =>
  rintro c' W ⟨rfl, ⟨x, y, z, hz, c0, c1, c2⟩, hbad⟩ hG hD
  have hz' := hidden hz
  have hb' := hidden hbad
  have g1 := has_of_cell c0
  clear hbad hz
  gi_wp2
  have d0 : ∀ o, (W.putObj w1.heap.size o).cell? ⟨w.heap.size + 1, 0, none⟩ = some (.int .i64 x) := fun o => cell_put (by omega) c0
  have d1 : ∀ o, (W.putObj w1.heap.size o).cell? ⟨w.heap.size + 1, 1, none⟩ = some (.int .i64 y) := fun o => cell_put (by omega) c1
  have d2 : ∀ o, (W.putObj w1.heap.size o).cell? ⟨w.heap.size + 1, 2, none⟩ = some (.int .i64 z) := fun o => cell_put (by omega) c2
  exact bodyPostM_any (v := .agg #[.int .i64 x, .int .i64 y, .int .i64 z]) hD (fun o => by simp [results, Tryz.results72, go_sem, d0, d1, d2]) (fun o => ⟨by rw [hz'.out], hG.step (Below.putObjStep (Below.refl _ _) (by omega) o), fun h => absurd h hb'.out⟩)
end Go.Proofs.YtekieoamelahkaaGreat

/- checkHeights. -/
namespace Go.Proofs.YtekieoamelahkaaGreat
open Go.RowKit Go.Shelf
attribute [local go_sem] Oper.semAt_some

def hgtE (z : Int) (hs : List Int) (k : Nat) : Int := if intAt hs k < 1 then 2 else if z ≤ intAt hs k then 2 else if 0 < k ∧ intAt hs k ≤ intAt hs (k - 1) then 9 else 0
def heightsE (z : Int) (hs : List Int) : Int := if hs.length < 1 then 10 else if 4 < hs.length then 10 else match firstBad (hgtE z hs) hs.length with | none => 0 | some k => hgtE z hs k
theorem heightsE_stop {z : Int} {hs : List Int} {k : Nat} (h1 : ¬ hs.length < 1) (h4 : ¬ 4 < hs.length) (hk : k < hs.length) (he : hgtE z hs k ≠ 0) (h : ∀ j, j < k → hgtE z hs j = 0) : heightsE z hs = hgtE z hs k := by
 unfold heightsE; rw [if_neg h1, if_neg h4, firstBad_stop hk he h]
theorem heightsE_end {z : Int} {hs : List Int} (h1 : ¬ hs.length < 1) (h4 : ¬ 4 < hs.length) (h : ∀ j, j < hs.length → hgtE z hs j = 0) : heightsE z hs = 0 := by
 unfold heightsE; rw [if_neg h1, if_neg h4, firstBad_end h]

theorem checkHeights_sur {w : World} {b M F T : Nat} {H : Hal} (hS : SurAt w b H M F T) (hs : List Int) (A : Option Addr) (c : Nat) (hL : SlcAt encInt w (.slice A hs.length c) hs) :
 Calls Tryz.prog 133 #[.pointer (some ⟨b, 0, none⟩), .slice A hs.length c] w (RetX w (.int .i64 (heightsE H.height hs))) := by
 have hl := hL.1
 obtain ⟨⟨v4, v5, v6, v7, v8, v9, v10, hR⟩, hm, _, _⟩ := hS
 have hb := hR.has
 have h1 := hR.c1
 clear hR hm
 generalize H.height = z at *
 refine (callsIn_wide (n := 10)).1 ?_
 refine callsIn_of_wp Tryz.func133 rfl trivial ?_ rfl
 simp only [Tryz.ntmps133, nt, Nat.reduceAdd, Nat.reduceSub]
 cases q1 : decide ((hs.length : Int) < 1) with
 | true =>
  have hz : Hid (heightsE z hs = 10) := by unfold Hid heightsE; rw [if_pos (by simp at q1; omega)]
  gi_wp2
  refine bodyPost_ret (v := .int .i64 10) (by simp [results, Tryz.results133, go_sem]) rfl (retX (by rw [hz.out]) (by (repeat' first | with_reducible (first | apply bz0 | assumption | apply bz1 | apply bz2 | apply bz3 | apply bz4 | apply bz5) | (simp <;> omega))))
 | false =>
  cases q2 : decide ((4 : Int) < (hs.length : Int)) with
  | true =>
   have hz : Hid (heightsE z hs = 10) := by unfold Hid heightsE; rw [if_neg (by simp at q1; omega), if_pos (by simp at q2; omega)]
   gi_wp2
   refine bodyPost_ret (v := .int .i64 10) (by simp [results, Tryz.results133, go_sem]) rfl (retX (by rw [hz.out]) (by (repeat' first | with_reducible (first | apply bz0 | assumption | apply bz1 | apply bz2 | apply bz3 | apply bz4 | apply bz5) | (simp <;> omega))))
  | false =>
   have n1 : ¬ hs.length < 1 := by simp at q1; omega
   have n4 : ¬ 4 < hs.length := by simp at q2; omega
   gi_wp2
   gi_loopw [17] (fun i wr => ∃ k : Nat, i = .int .i64 k ∧ k ≤ hs.length ∧ Below w.heap.size w wr ∧ ∀ j, j < k → hgtE z hs j = 0) (fun i _ => hs.length - (intOf i).toNat)
   case atStart => exact ⟨0, rfl, Nat.zero_le _, Below.refl _ _, fun j hj => absurd hj (Nat.not_lt_zero j)⟩
   case round =>
    obtain ⟨k, rfl, hk, hB, hno⟩ := hrel
    replace hL := hL.below hB
    rcases Nat.lt_or_ge k hs.length with hlt | hge
    · obtain ⟨g, o, rfl, hg, hcs⟩ := int_at hL hlt
      have k0 := hcs k hlt
      have kp := hcs (k - 1) (by omega)
      have h1' := (Sim.of_below (D := 0) hB).cell h1
      have hb' := has_of_cell h1'
      have hst : Hid (∀ e, hgtE z hs k = e → e ≠ 0 → heightsE z hs = e) := fun e he hn => by
       rw [← he]; exact heightsE_stop n1 n4 hlt (by rw [he]; exact hn) hno
      have hgo : Hid (hgtE z hs k = 0 → ∀ j, j < k + 1 → hgtE z hs j = 0) := fun he j hj => by
       rcases Nat.lt_or_ge j k with h' | h'
       · exact hno j h'
       · obtain rfl : j = k := by omega
         exact he
      have hO : Hid (hgtE z hs k = if intAt hs k < 1 then 2 else if z ≤ intAt hs k then 2 else if 0 < k ∧ intAt hs k ≤ intAt hs (k - 1) then 9 else 0) := rfl
      clear hcs hL h1 hno
      generalize intAt hs k = n at *
      generalize intAt hs (k - 1) = pv at *
      generalize hs.length = N at *
      cases p1 : decide (n < 1) with
      | true =>
       have hz := hidden (hst.out 2 (by rw [hO.out, if_pos (of_decide_eq_true p1)]) (by decide))
       gi_wp2
       refine bodyPost_ret (v := .int .i64 2) (by simp [results, Tryz.results133, go_sem]) rfl (retX (by rw [hz.out]) hB)
      | false =>
       cases p2 : decide (z ≤ n) with
       | true =>
        have hz := hidden (hst.out 2 (by rw [hO.out, if_neg (of_decide_eq_false p1), if_pos (of_decide_eq_true p2)]) (by decide))
        gi_wp2
        refine bodyPost_ret (v := .int .i64 2) (by simp [results, Tryz.results133, go_sem]) rfl (retX (by rw [hz.out]) hB)
       | false =>
        rcases Nat.eq_zero_or_pos k with hk0 | hk0
        · have hz := hidden (hgo.out (by rw [hO.out, if_neg (of_decide_eq_false p1), if_neg (of_decide_eq_false p2), if_neg (by omega)]))
          subst hk0
          simp only [Nat.add_zero] at k0
          have e00 : decide ((0 : Int) < ((0 : Nat) : Int)) = false := by decide
          gi_wp2
          go_roundw
          case rel => exact ⟨0 + 1, by go_num, by omega, hB, hz.out⟩
          case measure => simp [intOf]; omega
        · obtain ⟨m, rfl⟩ : ∃ m, k = m + 1 := ⟨k - 1, by omega⟩
          simp only [Nat.add_sub_cancel] at kp
          have e1 : IntKind.i64.wrap (((m + 1 : Nat) : Int) - 1) = (m : Int) := by rw [IntWalk.i64_in _ (by omega)]; omega
          have e0 : decide ((0 : Int) < ((m + 1 : Nat) : Int)) = true := by first | (simp; done) | (simp; omega)
          cases p3 : decide (n ≤ pv) with
          | true =>
           have hz := hidden (hst.out 9 (by rw [hO.out, if_neg (of_decide_eq_false p1), if_neg (of_decide_eq_false p2), if_pos ⟨by omega, of_decide_eq_true p3⟩]) (by decide))
           gi_wp2
           refine bodyPost_ret (v := .int .i64 9) (by simp [results, Tryz.results133, go_sem]) rfl (retX (by rw [hz.out]) hB)
          | false =>
           have hz := hidden (hgo.out (by rw [hO.out, if_neg (of_decide_eq_false p1), if_neg (of_decide_eq_false p2), if_neg (fun h => of_decide_eq_false p3 h.2)]))
           gi_wp2
           go_roundw
           case rel => exact ⟨m + 1 + 1, by go_num, by omega, hB, hz.out⟩
           case measure => simp [intOf]; omega
    · obtain rfl : k = hs.length := by omega
      have hz := hidden (heightsE_end n1 n4 hno)
      gi_wp2
      refine bodyPost_ret (v := .int .i64 0) (by simp [results, Tryz.results133, go_sem]) rfl (retX (by rw [hz.out]) hB)
end Go.Proofs.YtekieoamelahkaaGreat

/- checkSheet. -/
namespace Go.Proofs.YtekieoamelahkaaGreat
open Go.RowKit

theorem slc4 {W : World} {B : Nat} {x y z u : Int} (h0 : W.cell? ⟨B, 0, none⟩ = some (.int .i64 x)) (h1 : W.cell? ⟨B, 1, none⟩ = some (.int .i64 y)) (h2 : W.cell? ⟨B, 2, none⟩ = some (.int .i64 z)) (h3 : W.cell? ⟨B, 3, none⟩ = some (.int .i64 u)) : SlcAt encInt W (.slice (some ⟨B, 0, none⟩) 4 4) [x, y, z, u] := by
 refine ⟨by simp, _, _, rfl, fun _ => ⟨B, 0, rfl, has_of_cell h0, fun i v hi j hj => ?_⟩⟩
 have hj0 : j = 0 := by have : j < 1 := hj; omega
 subst hj0
 rcases i with _ | _ | _ | _ | i
 · simp at hi; subst hi; exact ⟨_, h0, rfl⟩
 · simp at hi; subst hi; exact ⟨_, h1, rfl⟩
 · simp at hi; subst hi; exact ⟨_, h2, rfl⟩
 · simp at hi; subst hi; exact ⟨_, h3, rfl⟩
 · simp at hi
theorem beyond4P {x y z u : Int} (h : beyondB 5000 [x, y, z, u] = false) : (-5000 ≤ x ∧ x ≤ 5000) ∧ (-5000 ≤ y ∧ y ≤ 5000) ∧ (-5000 ≤ z ∧ z ≤ 5000) ∧ (-5000 ≤ u ∧ u ≤ 5000) := by
 simp [beyondB, outB] at h
 omega
def shtE (H : Hal) (a b c d : Int) : Int := if beyondB 5000 [a, b, c, d] then 2 else if a = c then 11 else if b = d then 11 else if framesB H (min a c) (min b d) (max a c) (max b d) = false then 24 else 0

theorem checkSheet_sur {w : World} {bp M F T : Nat} {H : Hal} (hS : SurAt w bp H M F T) (hC : CorsIn H) (hN : H.cors.length ≤ 20) (na ma : ByteArray) (a b c d : Int) (v : Value) (hv : ∃ A n c, v = .slice A n c) :
 Calls Tryz.prog 134 #[.pointer (some ⟨bp, 0, none⟩), .agg #[.string na, .string ma, .int .i64 a, .int .i64 b, .int .i64 c, .int .i64 d, v]] w (RetX w (.int .i64 (shtE H a b c d))) := by
 have HE : Hid (shtE H a b c d = if beyondB 5000 [a, b, c, d] then 2 else if a = c then 11 else if b = d then 11 else if framesB H (min a c) (min b d) (max a c) (max b d) = false then 24 else 0) := rfl
 have HY := hidden (fun (W : World) (B : Nat) (h0 : W.cell? ⟨B, 0, none⟩ = some (.int .i64 a)) (h1 : W.cell? ⟨B, 1, none⟩ = some (.int .i64 b)) (h2 : W.cell? ⟨B, 2, none⟩ = some (.int .i64 c)) (h3 : W.cell? ⟨B, 3, none⟩ = some (.int .i64 d)) => beyond_any 5000 (by omega) [a, b, c, d] (some ⟨B, 0, none⟩) 4 W (slc4 h0 h1 h2 h3))
 have HT := hidden (fun W => sheetOf_any na ma a b c d v hv W)
 have hbp := hS.room
 cases q : beyondB 5000 [a, b, c, d] with
 | true =>
  have hE := HE.out
  rw [q, if_pos rfl] at hE
  rw [hE]
  rw [q] at HY
  clear HE hE hS
  obtain ⟨A, n, cc, rfl⟩ := hv
  go_enter Tryz.func134, Tryz.ntmps134
  go_wp2_with (first | (go_at_call 105; refine (HY.out _ _ (by simp [go_sem]) (by simp [go_sem]) (by simp [go_sem]) (by simp [go_sem])).mono ?_; rintro e w' ⟨rfl, x1, rfl⟩))
  refine bodyPost_ret ?_ rfl (retX rfl ?_); (simp [results, Tryz.results134, go_sem]); (repeat' first | with_reducible (first | apply bz0 | assumption | apply bz1 | apply bz2 | apply bz3 | apply bz4 | apply bz5) | (simp <;> omega))
 | false =>
  obtain ⟨b1, b2, b3, b4⟩ := beyond4P q
  have HF := hidden (fun (W : World) (hW : Below w.heap.size w W) => frames_room (hS.below hW).room hC hN (min a c) (min b d) (max a c) (max b d) (by omega) (by omega) (by omega) (by omega))
  obtain ⟨A, n, cc, rfl⟩ := hv
  have hE := HE.out
  rw [q, if_neg (by decide)] at hE
  rw [q] at HY
  have hhas : w.Has bp := by obtain ⟨_, _, _, _, _, _, _, hR⟩ := hbp; exact hR.has
  clear HE hS hbp
  unfold canV at HT
  generalize shtE H a b c d = E at *
  generalize framesB H (min a c) (min b d) (max a c) (max b d) = fb at *
  cases q1 : (a == c) with
  | true =>
   rw [if_pos (by simpa using q1)] at hE
   subst hE
   clear HF
   go_enter Tryz.func134, Tryz.ntmps134
   go_wp2_with (first | (go_at_call 105; refine (HY.out _ _ (by simp [go_sem]) (by simp [go_sem]) (by simp [go_sem]) (by simp [go_sem])).mono ?_; rintro e w' ⟨rfl, x1, rfl⟩))
   refine bodyPost_ret ?_ rfl (retX rfl ?_); (simp [results, Tryz.results134, go_sem]); (repeat' first | with_reducible (first | apply bz0 | assumption | apply bz1 | apply bz2 | apply bz3 | apply bz4 | apply bz5) | (simp <;> omega))
  | false =>
   rw [if_neg (by simpa using q1)] at hE
   cases q2 : (b == d) with
   | true =>
    rw [if_pos (by simpa using q2)] at hE
    subst hE
    clear HF
    go_enter Tryz.func134, Tryz.ntmps134
    go_wp2_with (first | (go_at_call 105; refine (HY.out _ _ (by simp [go_sem]) (by simp [go_sem]) (by simp [go_sem]) (by simp [go_sem])).mono ?_; rintro e w' ⟨rfl, x1, rfl⟩))
    refine bodyPost_ret ?_ rfl (retX rfl ?_); (simp [results, Tryz.results134, go_sem]); (repeat' first | with_reducible (first | apply bz0 | assumption | apply bz1 | apply bz2 | apply bz3 | apply bz4 | apply bz5) | (simp <;> omega))
   | false =>
    rw [if_neg (by simpa using q2)] at hE
    cases fb
    all_goals
     simp at hE
     subst hE
     go_enter Tryz.func134, Tryz.ntmps134
     go_wp2_with (first | (go_at_call 105; refine (HY.out _ _ (by simp [go_sem]) (by simp [go_sem]) (by simp [go_sem]) (by simp [go_sem])).mono ?_; rintro e w' ⟨rfl, x1, rfl⟩))
     (refine tmX (by kernel_rfl) (by kernel_rfl) ?_); (repeat (first | (refine tmS rfl ?_; simp only [Act.put, List.setIfInBounds_toArray, List.set_cons_succ, List.set_cons_zero]) | (refine tmP rfl rfl rfl (fun K hK => ?_); go_big_quiet_op; refine hK _ ?_; clear hK K) | (refine tmE rfl rfl (fun K hK => ?_); go_big_op; (first | (go_at_call 156; refine (HT.out _).mono ?_; rintro e w' ⟨rfl, x2, rfl⟩) | (go_at_call 173; refine (HF.out _ (by (repeat' first | with_reducible (first | apply bz0 | assumption | apply bz1 | apply bz2 | apply bz3 | apply bz4 | apply bz5) | (simp <;> omega)))).mono ?_; rintro e w' ⟨rfl, x3, rfl⟩) | skip); (refine hK _ _ rfl (ext_of_below (by (repeat' first | with_reducible (first | apply bz0 | assumption | apply bz1 | apply bz2 | apply bz3 | apply bz4 | apply bz5) | (simp <;> omega)))) ?_; clear hK K)))); (refine tmN ?_)
     go_wp2
     refine bodyPost_ret ?_ rfl (retX rfl ?_); (simp [results, Tryz.results134, go_sem]); (repeat' first | with_reducible (first | apply bz0 | assumption | apply bz1 | apply bz2 | apply bz3 | apply bz4 | apply bz5) | (simp <;> omega))
end Go.Proofs.YtekieoamelahkaaGreat

/- The function of checkCanopies; checkCanopies. -/
namespace Go.Proofs.YtekieoamelahkaaGreat
open Go.RowKit Go.Shelf
attribute [local go_sem] Oper.semAt_some

def canNames (H : Hal) (i : Nat) : List ByteArray := (H.cans.take i).map (·.name)
def canE (H : Hal) (ms fs : List ByteArray) (i : Nat) : Int :=
 if nameB (canAt H.cans i).name = false then 4 else if hasName (fs ++ canNames H i) (canAt H.cans i).name = true then 5 else if hasName ms (canAt H.cans i).mat = false then 6
 else if heightsE H.height (canAt H.cans i).hs ≠ 0 then heightsE H.height (canAt H.cans i).hs else shtE H (canAt H.cans i).f.x (canAt H.cans i).f.y (canAt H.cans i).t.x (canAt H.cans i).t.y
theorem canNames_succ {H : Hal} {i : Nat} (fs : List ByteArray) (h : i < H.cans.length) : fs ++ canNames H (i + 1) = (fs ++ canNames H i) ++ [(canAt H.cans i).name] := by
 unfold canNames canAt
 rw [List.take_add_one, List.getElem?_eq_getElem h, List.map_append, List.append_assoc]
 rfl
theorem can_sized {H : Hal} (hs : H.Sized) (i : Nat) (hi : i < H.cans.length) : (canAt H.cans i).name.size ≤ 1000000 := by
 have : canAt H.cans i = H.cans[i] := by unfold canAt; rw [List.getElem?_eq_getElem hi]; rfl
 rw [this]
 exact (hs.cans _ (List.getElem_mem hi)).1

theorem can1 {w : World} {b c M F T : Nat} {H : Hal} {ms fs0 ts : List ByteArray} (hS : SurAt w b H M F T) (hC : CorsIn H) (hNn : H.cors.length ≤ 20) (hc : w.cell? ⟨c, 0, none⟩ = some (.pointer (some ⟨b, 0, none⟩))) (i : Nat) (hi : i < H.cans.length) (hN : Names w M F T ms (fs0 ++ canNames H i) ts) :
 Calls Tryz.prog 132 #[.int .i64 i, .pointer (some ⟨c, 0, none⟩)] w (fun e w' => e = .returned (.int .i64 (canE H ms fs0 i)) ∧ Touch [M, F, T] w w' ∧ (canE H ms fs0 i = 0 → Names w' M F T ms (fs0 ++ canNames H (i + 1)) ts)) := by
 have HE : Hid (canE H ms fs0 i = if nameB (canAt H.cans i).name = false then 4 else if hasName (fs0 ++ canNames H i) (canAt H.cans i).name = true then 5 else if hasName ms (canAt H.cans i).mat = false then 6
  else if heightsE H.height (canAt H.cans i).hs ≠ 0 then heightsE H.height (canAt H.cans i).hs else shtE H (canAt H.cans i).f.x (canAt H.cans i).f.y (canAt H.cans i).t.x (canAt H.cans i).t.y) := rfl
 have HS := hidden (canNames_succ fs0 hi)
 have hS' := hS
 obtain ⟨⟨v4, v5, v6, v7, v8, v9, v10, hR⟩, hmm, hm, _⟩ := hS'
 obtain ⟨A, c4, rfl, hS4⟩ := slc_form hR.hal.cans
 obtain ⟨g, o, rfl, hg, hcs⟩ := can_at hS4 hi
 have HN := hidden (fun W => isName_any (canAt H.cans i).name (can_sized hR.hal.sized i hi) W)
 have l4 := hS4.1
 obtain ⟨k0, k1, k2, k3, k4, k5, A', c', k6, hL⟩ := hcs i hi
 have HH := hidden (fun (W : World) (hW : Kept w W) => checkHeights_sur (hS.kept hW) (canAt H.cans i).hs A' c' (hL.kept hW))
 have HQ := hidden (fun (W : World) (hW : Kept w W) => checkSheet_sur (hS.kept hW) hC hNn (canAt H.cans i).name (canAt H.cans i).mat (canAt H.cans i).f.x (canAt H.cans i).f.y (canAt H.cans i).t.x (canAt H.cans i).t.y (.slice A' (canAt H.cans i).hs.length c') ⟨_, _, _, rfl⟩)
 have h7 := hR.c7
 have hb := hR.has
 have hM := hN.f
 have hMM := hN.m
 have hMh : w.Has F := hM.has
 have hMMh : w.Has M := hMM.has
 have hch := has_of_cell hc
 have nb := hM.ne h7
 have nc := hM.ne hc
 have ns : w.heap.size ≠ F := fun e => absurd hMh (by rw [← e]; exact Nat.lt_irrefl _)
 clear hR hS4 hcs hL hS
 have HL := look_set (b := F) (ns := fs0 ++ canNames H i)
 have HLM := look_set (b := M) (ns := ms)
 have HT := hidden (hN.touch (w' := w) (Below.refl _ _))
 generalize canE H ms fs0 i = E at *
 generalize heightsE H.height (canAt H.cans i).hs = I at *
 generalize shtE H (canAt H.cans i).f.x (canAt H.cans i).f.y (canAt H.cans i).t.x (canAt H.cans i).t.y = J at *
 generalize fs0 ++ canNames H (i + 1) = fs' at *
 generalize fs0 ++ canNames H i = fs at *
 generalize (canAt H.cans i).f.x = p1 at *
 generalize (canAt H.cans i).f.y = p2 at *
 generalize (canAt H.cans i).t.x = p3 at *
 generalize (canAt H.cans i).t.y = p4 at *
 generalize (canAt H.cans i).hs.length = hn at *
 generalize (canAt H.cans i).name = nm at *
 generalize (canAt H.cans i).mat = ma at *
 generalize H.cans.length = n at *
 refine (callsIn_wide (n := 10)).1 ?_
 refine callsIn_of_wp Tryz.func132 rfl trivial ?_ rfl
 simp only [Tryz.ntmps132, nt, Nat.reduceAdd, Nat.reduceSub]
 cases q0 : nameB nm with
 | false =>
  rw [q0] at HE HN
  have hE := HE.out
  rw [if_pos rfl] at hE
  subst hE
  clear HE
  gi_wp2
  (refine ⟨trivial, ?_⟩; ((with_reducible refine (callsIn_wide.2 (HN.out _)).mono ?_); rintro e w' ⟨rfl, x1, rfl⟩))
  gi_wp2
  refine bodyPost_ret (v := .int .i64 4) (by simp [results, Tryz.results132, go_sem]) rfl ⟨rfl, HT.out.step (by (repeat' first | with_reducible (first | apply bz0 | assumption | apply bz1 | apply bz2 | apply bz3 | apply bz4 | apply bz5) | (simp <;> omega))), fun h => absurd h (by decide)⟩
 | true =>
  rw [q0] at HE HN
  cases q1 : hasName fs nm with
  | true =>
   have hE := HE.out
   rw [if_neg (by decide), q1, if_pos rfl] at hE
   subst hE
   clear HE
   gi_wp2
   (refine ⟨trivial, ?_⟩; ((with_reducible refine (callsIn_wide.2 (HN.out _)).mono ?_); rintro e w' ⟨rfl, x1, rfl⟩))
   gi_wp2
   refine wpIn_wide.2 ?_
   (refine tmX (by kernel_rfl) (by kernel_rfl) ?_); (repeat (first | (refine tmS rfl ?_; simp only [Act.put, List.setIfInBounds_toArray, List.set_cons_succ, List.set_cons_zero]) | (refine tmP rfl rfl rfl (fun K hK => ?_); go_big_quiet_op; refine hK _ ?_; clear hK K) | (refine tmE rfl rfl (fun K hK => ?_); go_big_op; (first | fail | skip); (refine hK _ _ rfl (ext_of_below (by (repeat' first | with_reducible (first | apply bz0 | assumption | apply bz1 | apply bz2 | apply bz3 | apply bz4 | apply bz5) | (simp <;> omega)))) ?_; clear hK K)))); (refine tmN ?_)
   gi_wp2
   refine bodyPost_ret (v := .int .i64 5) (by simp [results, Tryz.results132, go_sem]) rfl ⟨rfl, HT.out.step (by (repeat' first | with_reducible (first | apply bz0 | assumption | apply bz1 | apply bz2 | apply bz3 | apply bz4 | apply bz5) | (simp <;> omega))), fun h => absurd h (by decide)⟩
  | false =>
   cases q2 : hasName ms ma with
   | false =>
    have hE := HE.out
    rw [if_neg (by decide), q1, if_neg (by decide), q2, if_pos rfl] at hE
    subst hE
    clear HE
    gi_wp2
    (refine ⟨trivial, ?_⟩; ((with_reducible refine (callsIn_wide.2 (HN.out _)).mono ?_); rintro e w' ⟨rfl, x1, rfl⟩))
    gi_wp2
    refine wpIn_wide.2 ?_
    (refine tmX (by kernel_rfl) (by kernel_rfl) ?_); (repeat (first | (refine tmS rfl ?_; simp only [Act.put, List.setIfInBounds_toArray, List.set_cons_succ, List.set_cons_zero]) | (refine tmP rfl rfl rfl (fun K hK => ?_); go_big_quiet_op; refine hK _ ?_; clear hK K) | (refine tmE rfl rfl (fun K hK => ?_); go_big_op; (first | fail | skip); (refine hK _ _ rfl (ext_of_below (by (repeat' first | with_reducible (first | apply bz0 | assumption | apply bz1 | apply bz2 | apply bz3 | apply bz4 | apply bz5) | (simp <;> omega)))) ?_; clear hK K)))); (refine tmN ?_)
    gi_wp2
    refine wpIn_wide.2 ?_
    (refine tmX (by kernel_rfl) (by kernel_rfl) ?_); (repeat (first | (refine tmS rfl ?_; simp only [Act.put, List.setIfInBounds_toArray, List.set_cons_succ, List.set_cons_zero]) | (refine tmP rfl rfl rfl (fun K hK => ?_); go_big_quiet_op; refine hK _ ?_; clear hK K) | (refine tmE rfl rfl (fun K hK => ?_); go_big_op; (first | fail | skip); (refine hK _ _ rfl (ext_of_below (by (repeat' first | with_reducible (first | apply bz0 | assumption | apply bz1 | apply bz2 | apply bz3 | apply bz4 | apply bz5) | (simp <;> omega)))) ?_; clear hK K)))); (refine tmN ?_)
    gi_wp2
    refine bodyPost_ret (v := .int .i64 6) (by simp [results, Tryz.results132, go_sem]) rfl ⟨rfl, HT.out.step (by (repeat' first | with_reducible (first | apply bz0 | assumption | apply bz1 | apply bz2 | apply bz3 | apply bz4 | apply bz5) | (simp <;> omega))), fun h => absurd h (by decide)⟩
   | true =>
    have hE := HE.out
    rw [if_neg (by decide), q1, if_neg (by decide), q2, if_neg (by decide)] at hE
    clear HE
    have HP : ∀ o x, (Instr.mapUpdate 128 (.map (some F)) (.string nm) (.bool true)).run Tryz.prog (((w.alloc o).ext x).drew.drew.drew) = .ok () ((((w.alloc o).ext x).drew.drew.drew).putObj F (putMap (((w.alloc o).ext x).drew.drew.drew) F nm)) := fun o x => put_set _ (by simp [hM, hMh]) nm q1
    gi_wp2
    (refine ⟨trivial, ?_⟩; ((with_reducible refine (callsIn_wide.2 (HN.out _)).mono ?_); rintro e w' ⟨rfl, x1, rfl⟩))
    gi_wp2
    refine wpIn_wide.2 ?_
    (refine tmX (by kernel_rfl) (by kernel_rfl) ?_); (repeat (first | (refine tmS rfl ?_; simp only [Act.put, List.setIfInBounds_toArray, List.set_cons_succ, List.set_cons_zero]) | (refine tmP rfl rfl rfl (fun K hK => ?_); go_big_quiet_op; refine hK _ ?_; clear hK K) | (refine tmE rfl rfl (fun K hK => ?_); go_big_op; (first | fail | skip); (refine hK _ _ rfl (ext_of_below (by (repeat' first | with_reducible (first | apply bz0 | assumption | apply bz1 | apply bz2 | apply bz3 | apply bz4 | apply bz5) | (simp <;> omega)))) ?_; clear hK K)))); (refine tmN ?_)
    gi_wp2
    refine wpIn_wide.2 ?_
    (refine tmX (by kernel_rfl) (by kernel_rfl) ?_); (repeat (first | (refine tmS rfl ?_; simp only [Act.put, List.setIfInBounds_toArray, List.set_cons_succ, List.set_cons_zero]) | (refine tmP rfl rfl rfl (fun K hK => ?_); go_big_quiet_op; refine hK _ ?_; clear hK K) | (refine tmE rfl rfl (fun K hK => ?_); go_big_op; (first | fail | skip); (refine hK _ _ rfl (ext_of_below (by (repeat' first | with_reducible (first | apply bz0 | assumption | apply bz1 | apply bz2 | apply bz3 | apply bz4 | apply bz5) | (simp <;> omega)))) ?_; clear hK K)))); (refine tmN ?_)
    gi_wp2
    refine wpIn_wide.2 ?_
    (refine wp_region_tameH (F) (by kernel_rfl) (by kernel_rfl) ?_); (repeat (first | (refine tmS rfl ?_; simp only [Act.put, List.setIfInBounds_toArray, List.set_cons_succ, List.set_cons_zero]) | (refine tmP rfl rfl rfl (fun K hK => ?_); go_big_quiet_op; refine hK _ ?_; clear hK K) | (refine tmE rfl rfl (fun K hK => ?_); go_big_op; (first | fail | skip); (refine hK _ _ rfl (hole_of (by (repeat' (first | (with_reducible exact HoleRel.refl _ _ _) | (with_reducible assumption) | (with_reducible refine HoleRel.swap ?_ _ _) | (with_reducible refine HoleRel.drew ?_) | (with_reducible refine HoleRel.drewN ?_ _) | (with_reducible refine HoleRel.setCell ?_ ?_ _) | (with_reducible refine HoleRel.putObj ?_ ?_ _) | (with_reducible refine HoleRel.alloc ?_ ?_ _) | (with_reducible refine HoleRel.ext ?_ ?_ _) | (exact Or.inl rfl) | (simp; done) | (simp; omega))))) ?_; clear hK K)))); (refine tmN ?_)
    generalize hX : World.putObj _ _ _ = X
    have TX : Touch [M, F, T] w X := by rw [← hX]; exact (HT.out.step (by (repeat' first | with_reducible (first | apply bz0 | assumption | apply bz1 | apply bz2 | apply bz3 | apply bz4 | apply bz5) | (simp <;> omega)))).trans (Names.touchPut (hN.below (by (repeat' first | with_reducible (first | apply bz0 | assumption | apply bz1 | apply bz2 | apply bz3 | apply bz4 | apply bz5) | (simp <;> omega)))) (by simp) nm)
    have NX : Names X M F T ms (fs ++ [nm]) ts := by rw [← hX]; exact (hN.below (by (repeat' first | with_reducible (first | apply bz0 | assumption | apply bz1 | apply bz2 | apply bz3 | apply bz4 | apply bz5) | (simp <;> omega)))).addF nm
    have z0 : X.cell? ⟨w.heap.size, 0, none⟩ = some (.string nm) := by rw [← hX]; exact cell_put ns (by simp [go_sem])
    have z1 : X.cell? ⟨w.heap.size, 1, none⟩ = some (.string ma) := by rw [← hX]; exact cell_put ns (by simp [go_sem])
    have z2 : X.cell? ⟨w.heap.size, 2, none⟩ = some (.int .i64 p1) := by rw [← hX]; exact cell_put ns (by simp [go_sem])
    have z3 : X.cell? ⟨w.heap.size, 3, none⟩ = some (.int .i64 p2) := by rw [← hX]; exact cell_put ns (by simp [go_sem])
    have z4 : X.cell? ⟨w.heap.size, 4, none⟩ = some (.int .i64 p3) := by rw [← hX]; exact cell_put ns (by simp [go_sem])
    have z5 : X.cell? ⟨w.heap.size, 5, none⟩ = some (.int .i64 p4) := by rw [← hX]; exact cell_put ns (by simp [go_sem])
    have z6 : X.cell? ⟨w.heap.size, 6, none⟩ = some (.slice A' hn c') := by rw [← hX]; exact cell_put ns (by simp [go_sem])
    replace hc := TX.kept.cell hc
    have hb' := TX.kept.has hb
    clear hX HP HL HLM HN hM hMh hMM hMMh nb nc h7 k0 k1 k2 k3 k4 k5 k6 hm hmm
    have gz := has_of_cell z1
    have hch' := has_of_cell hc
    by_cases q3 : I = 0
    · rw [if_neg (by simp [q3])] at hE
      subst hE
      rw [q3] at HH
      gi_wp2
      (refine ⟨trivial, ?_⟩; ((with_reducible refine (callsIn_wide.2 (HH.out _ ?hk)).mono ?_); (case hk => exact (TX.kept.trans (Kept.of_below (by (repeat' first | with_reducible (first | apply bz0 | assumption | apply bz1 | apply bz2 | apply bz3 | apply bz4 | apply bz5) | (simp <;> omega)))))); rintro e w' ⟨rfl, u1, rfl⟩))
      gi_wp2
      (refine ⟨trivial, ?_⟩; ((with_reducible refine (callsIn_wide.2 (HQ.out _ ?hk)).mono ?_); (case hk => exact (TX.kept.trans (Kept.of_below (by (repeat' first | with_reducible (first | apply bz0 | assumption | apply bz1 | apply bz2 | apply bz3 | apply bz4 | apply bz5) | (simp <;> omega)))))); rintro e w' ⟨rfl, u2, rfl⟩))
      gi_wp2
      refine bodyPost_ret (v := .int .i64 E) (by simp [results, Tryz.results132, go_sem]) rfl ⟨rfl, TX.trans (NX.touch (by (repeat' first | with_reducible (first | apply bz0 | assumption | apply bz1 | apply bz2 | apply bz3 | apply bz4 | apply bz5) | (simp <;> omega)))), fun _ => by rw [HS.out]; exact NX.below (by (repeat' first | with_reducible (first | apply bz0 | assumption | apply bz1 | apply bz2 | apply bz3 | apply bz4 | apply bz5) | (simp <;> omega)))⟩
    · rw [if_pos q3] at hE
      subst hE
      have q4 : (E != 0) = true := by simp [q3]
      have q5 : (E == 0) = false := by simp [q3]
      gi_wp2
      (refine ⟨trivial, ?_⟩; ((with_reducible refine (callsIn_wide.2 (HH.out _ ?hk)).mono ?_); (case hk => exact (TX.kept.trans (Kept.of_below (by (repeat' first | with_reducible (first | apply bz0 | assumption | apply bz1 | apply bz2 | apply bz3 | apply bz4 | apply bz5) | (simp <;> omega)))))); rintro e w' ⟨rfl, u1, rfl⟩))
      gi_wp2
      refine bodyPost_ret (v := .int .i64 E) (by simp [results, Tryz.results132, go_sem]) rfl ⟨rfl, TX.trans (NX.touch (by (repeat' first | with_reducible (first | apply bz0 | assumption | apply bz1 | apply bz2 | apply bz3 | apply bz4 | apply bz5) | (simp <;> omega)))), fun h => absurd h q3⟩


def cansV (H : Hal) (ms fs : List ByteArray) : Value := if 4 < H.cans.length then .agg #[.int .i64 0, .int .i64 0, .int .i64 8] else oneV 4 (canE H ms fs) H.cans.length
def cansOk (H : Hal) (ms fs : List ByteArray) : Bool := !decide (4 < H.cans.length) && (firstBad (canE H ms fs) H.cans.length).isNone
theorem checkCanopies_sur {w : World} {b M F T : Nat} {H : Hal} {ms fs ts : List ByteArray} (hS : SurAt w b H M F T) (hC : CorsIn H) (hNn : H.cors.length ≤ 20) (hN : Names w M F T ms fs ts) :
 Calls Tryz.prog 74 #[.pointer (some ⟨b, 0, none⟩)] w (fun e w' => e = .returned (cansV H ms fs) ∧ Touch [M, F, T] w w' ∧ (cansOk H ms fs = true → Names w' M F T ms (fs ++ H.cans.map (·.name)) ts)) := by
 have HV : Hid (cansV H ms fs = if 4 < H.cans.length then .agg #[.int .i64 0, .int .i64 0, .int .i64 8] else oneV 4 (canE H ms fs) H.cans.length) := rfl
 have HO : Hid (cansOk H ms fs = (!decide (4 < H.cans.length) && (firstBad (canE H ms fs) H.cans.length).isNone)) := rfl
 have hn0 : Names w M F T ms (fs ++ canNames H 0) ts := by simpa [canNames] using hN
 have hnn : canNames H H.cans.length = H.cans.map (·.name) := by simp [canNames]
 have HC := hidden (fun (W : World) (c : Nat) (hW : Below w.heap.size w W) (hc : W.cell? ⟨c, 0, none⟩ = some (.pointer (some ⟨b, 0, none⟩))) =>
  oneByOne_any 132 (.pointer (some ⟨c, 0, none⟩)) (enters_of Tryz.func132 (by kernel_rfl) rfl) 4 H.cans.length (by obtain ⟨⟨_, _, _, _, _, _, _, hR⟩, _⟩ := hS; exact hR.hal.cans.1) (canE H ms fs) [M, F, T] (fun k V => Names V M F T ms (fs ++ canNames H k) ts) W
   (hn0.below hW).maps (fun k V V' hb h => h.belowD hb (hn0.below hW).m.has (hn0.below hW).f.has (hn0.below hW).t.has)
   (fun k V hk ht hn => can1 ((hS.below hW).kept ht.kept) hC hNn (ht.kept.cell hc) k hk hn) (hn0.below hW))
 obtain ⟨⟨v4, v5, v6, v7, v8, v9, v10, hR⟩, hm, _, _⟩ := hS
 obtain ⟨A, c4, rfl, hS4⟩ := slc_form hR.hal.cans
 have h7 := hR.c7
 have hb := hR.has
 have l4 := hS4.1
 clear hR hS4
 rw [← hnn]
 clear hnn
 generalize cansV H ms fs = V at *
 generalize cansOk H ms fs = O at *
 generalize H.cans.length = n at *
 cases q : decide ((4 : Int) < (n : Int)) with
 | true =>
  have hv : V = .agg #[.int .i64 0, .int .i64 0, .int .i64 8] := by rw [HV.out, if_pos (by simp at q; omega)]
  have ho : O = false := by rw [HO.out]; simp at q; simp; omega
  subst hv ho
  clear HC HV HO
  go_enter Tryz.func74, Tryz.ntmps74
  go_wp2_with (go_at_call 124; refine (whole_any _ _).mono ?_; rintro e w' ⟨rfl, x2, rfl⟩)
  refine bodyPost_ret (v := .agg #[.int .i64 0, .int .i64 0, .int .i64 8]) (by simp [results, Tryz.results74, go_sem]) rfl ⟨rfl, hN.touch (by (repeat' first | with_reducible (first | apply bz0 | assumption | apply bz1 | apply bz2 | apply bz3 | apply bz4 | apply bz5) | (simp <;> omega))), fun h => by cases h⟩
 | false =>
  have hv : V = oneV 4 (canE H ms fs) n := by rw [HV.out, if_neg (by simp at q; omega)]
  have ho : Hid (O = true → firstBad (canE H ms fs) n = none) := by
   intro h
   rw [HO.out] at h
   simp only [Bool.and_eq_true] at h
   simpa using h.2
  subst hv
  clear HV HO
  obtain ⟨x, y, z, hz⟩ := oneV_form 4 (canE H ms fs) n
  rw [hz]
  rw [hz] at HC
  clear hz
  go_enter Tryz.func74, Tryz.ntmps74
  go_wp2_with (go_at_call 125; refine (HC.out _ _ (by (repeat' first | with_reducible (first | apply bz0 | assumption | apply bz1 | apply bz2 | apply bz3 | apply bz4 | apply bz5) | (simp <;> omega))) (by simp [go_sem])).mono ?_; rintro e w1 ⟨rfl, hT1, hN1⟩; obtain ⟨r0, r1, r2, f0, f1, f2⟩ := OneR.touch (s := w.heap.size + 1) ⟨by simp [go_sem], by simp [go_sem], by simp [go_sem], by simp [go_sem], by simp [go_sem], by simp [go_sem]⟩ hT1; have gr := has_of_cell r0; have hsz := hT1.size; simp only [World.size_alloc] at hsz)
  refine bodyPost_ret (v := .agg #[.int .i64 x, .int .i64 y, .int .i64 z]) (by simp [results, Tryz.results74, go_sem, r0, r1, r2, gr]) rfl ⟨rfl, ((hN.touch (by (repeat' first | with_reducible (first | apply bz0 | assumption | apply bz1 | apply bz2 | apply bz3 | apply bz4 | apply bz5) | (simp <;> omega)))).trans hT1).step (by (repeat' first | with_reducible (first | apply bz0 | assumption | apply bz1 | apply bz2 | apply bz3 | apply bz4 | apply bz5) | (simp <;> omega))), fun h => (hN1 (ho.out h)).belowD (D := w.heap.size) (by (repeat' first | with_reducible (first | apply bz0 | assumption | apply bz1 | apply bz2 | apply bz3 | apply bz4 | apply bz5) | (simp <;> omega))) hN.m.has hN.f.has hN.t.has⟩
end Go.Proofs.YtekieoamelahkaaGreat
