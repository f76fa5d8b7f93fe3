/- Whether a way is free: definitions; a way that leaves the hall. -/
import Derived.Test.YtekieoamelahkaaGreatM17
set_option maxRecDepth 100000
set_option maxHeartbeats 1000000
set_option linter.unusedVariables false
set_option linter.unusedSimpArgs false
namespace Go.Proofs.YtekieoamelahkaaGreat
open Go.RowKit Go.Shelf
attribute [local go_sem] Oper.semAt_some

def wallB (H : Hal) (x1 y1 d1 x2 y2 d2 : Int) (k : Nat) : Bool := blocksB (corAt H.cors k).x (corAt H.cors k).y (corAt H.cors (nxt H.cors.length k)).x (corAt H.cors (nxt H.cors.length k)).y x1 y1 d1 x2 y2 d2
def wallsB (H : Hal) (x1 y1 d1 x2 y2 d2 : Int) : Bool := (List.range H.cors.length).any (wallB H x1 y1 d1 x2 y2 d2)
def canB (H : Hal) (S : Stg) (x1 y1 z1 d1 x2 y2 z2 d2 : Int) (i : Nat) : Bool :=
 sheetBlocksB (min (canAt H.cans i).f.x (canAt H.cans i).t.x) (min (canAt H.cans i).f.y (canAt H.cans i).t.y) (max (canAt H.cans i).f.x (canAt H.cans i).t.x) (max (canAt H.cans i).f.y (canAt H.cans i).t.y) 2 (canZ H S i) x1 y1 z1 d1 x2 y2 z2 d2
def cansB (H : Hal) (S : Stg) (x1 y1 z1 d1 x2 y2 z2 d2 : Int) : Bool := (List.range H.cans.length).any (canB H S x1 y1 z1 d1 x2 y2 z2 d2)
def insideB (H : Hal) (x1 y1 z1 d1 x2 y2 z2 d2 : Int) : Bool := withinB H (x1 * d2 + x2 * d1) (y1 * d2 + y2 * d1) (z1 * d2 + z2 * d1) (2 * d1 * d2) && (levelB H.height z1 d1 && levelB H.height z2 d2)
def freeB (H : Hal) (S : Stg) (x1 y1 z1 d1 x2 y2 z2 d2 : Int) : Bool := insideB H x1 y1 z1 d1 x2 y2 z2 d2 && (!wallsB H x1 y1 d1 x2 y2 d2 && !cansB H S x1 y1 z1 d1 x2 y2 z2 d2)

theorem mid_bd {x1 d1 x2 d2 : Int} (hd1 : 0 ≤ d1 ∧ d1 ≤ 100000) (hd2 : 0 ≤ d2 ∧ d2 ≤ 100000) (hx1 : -500000000 ≤ x1 ∧ x1 ≤ 500000000) (hx2 : -500000000 ≤ x2 ∧ x2 ≤ 500000000) : -1000000000000000000 ≤ x1 * d2 + x2 * d1 ∧ x1 * d2 + x2 * d1 ≤ 1000000000000000000 := by
 have m1 := mul_bd hx1 hd2 (by omega)
 have m2 := mul_bd hx2 hd1 (by omega)
 omega
theorem midn_bd {d1 d2 : Int} (hd1 : 0 ≤ d1 ∧ d1 ≤ 100000) (hd2 : 0 ≤ d2 ∧ d2 ≤ 100000) : 0 ≤ 2 * d1 * d2 ∧ 2 * d1 * d2 ≤ 100000000000000 := by
 have mm := mul_bd (a := 2 * d1) (A := 200000) ⟨by omega, by omega⟩ hd2 (by omega)
 have mn : 0 ≤ 2 * d1 * d2 := Int.mul_nonneg (by omega) hd2.1
 omega


theorem isFree_out {w : World} {b : Nat} {H : Hal} {S : Stg} (hR : Room w b H S) (hC : CorsIn H) (hN : H.cors.length ≤ 20) (hh : -5000 ≤ H.height ∧ H.height ≤ 5000) (x1 y1 z1 d1 x2 y2 z2 d2 : Int) (hd1 : 0 ≤ d1 ∧ d1 ≤ 100000) (hd2 : 0 ≤ d2 ∧ d2 ≤ 100000) (hx1 : -500000000 ≤ x1 ∧ x1 ≤ 500000000) (hy1 : -500000000 ≤ y1 ∧ y1 ≤ 500000000) (hz1 : -500000000 ≤ z1 ∧ z1 ≤ 500000000) (hx2 : -500000000 ≤ x2 ∧ x2 ≤ 500000000) (hy2 : -500000000 ≤ y2 ∧ y2 ≤ 500000000) (hz2 : -500000000 ≤ z2 ∧ z2 ≤ 500000000) (hin : insideB H x1 y1 z1 d1 x2 y2 z2 d2 = false) :
 Calls Tryz.prog 115 #[.pointer (some ⟨b, 0, none⟩), .agg #[.int .i64 x1, .int .i64 y1, .int .i64 z1, .int .i64 d1, .int .i64 x2, .int .i64 y2, .int .i64 z2, .int .i64 d2]] w (RetX w (.bool false)) := by
 have HM := hidden (fun W => middle_any x1 y1 z1 d1 x2 y2 z2 d2 W hd1 hd2 hx1 hy1 hz1 hx2 hy2 hz2)
 have hn := midn_bd hd1 hd2
 have HW := hidden (fun (W : World) (hb : Below w.heap.size w W) => isWithin_room (hR.below hb) hC hN hh _ _ _ _ hn (mid_bd hd1 hd2 hx1 hx2) (mid_bd hd1 hd2 hy1 hy2) (mid_bd hd1 hd2 hz1 hz2))
 have HL1 := hidden (fun (W : World) (hb : Below w.heap.size w W) => isLevel_any (hR.below hb) hh x1 y1 z1 d1 ⟨hd1.1, by omega⟩)
 have HL2 := hidden (fun (W : World) (hb : Below w.heap.size w W) => isLevel_any (hR.below hb) hh x2 y2 z2 d2 ⟨hd2.1, by omega⟩)
 unfold insideB at hin
 generalize hq0 : withinB H (x1 * d2 + x2 * d1) (y1 * d2 + y2 * d1) (z1 * d2 + z2 * d1) (2 * d1 * d2) = q0 at *
 generalize hq1 : levelB H.height z1 d1 = q1 at *
 generalize hq2 : levelB H.height z2 d2 = q2 at *
 clear hq0 hq1 hq2 hn hR hC hN hh hd1 hd2 hx1 hy1 hz1 hx2 hy2 hz2
 have cs : q0 = false ∨ (q0 = true ∧ q1 = false) ∨ (q0 = true ∧ q1 = true ∧ q2 = false) := by revert hin; cases q0 <;> cases q1 <;> cases q2 <;> simp
 clear hin
 rcases cs with rfl | ⟨rfl, rfl⟩ | ⟨rfl, rfl, rfl⟩
 all_goals
  refine (callsIn_wide (n := 10)).1 ?_
  refine callsIn_of_wp_marks Tryz.func115 rfl trivial ?_ rfl
  simp only [Tryz.ntmps115, nt, Nat.reduceAdd, Nat.reduceSub]
  gi_wp2
  repeat ((refine ⟨trivial, ?_⟩; first | ((with_reducible refine (callsIn_wide.2 (HM.out _)).mono ?_); rintro e w' ⟨rfl, x, rfl⟩) | ((with_reducible refine (callsIn_wide.2 (HW.out _ ?hbel)).mono ?_); (case hbel => (repeat' first | with_reducible (first | apply bz0 | assumption | apply bz1 | apply bz2 | apply bz3 | apply bz4 | apply bz5) | (simp <;> omega))); rintro e w' ⟨rfl, x, rfl⟩) | ((with_reducible refine (callsIn_wide.2 (HL1.out _ ?hbel)).mono ?_); (case hbel => (repeat' first | with_reducible (first | apply bz0 | assumption | apply bz1 | apply bz2 | apply bz3 | apply bz4 | apply bz5) | (simp <;> omega))); rintro e w' ⟨rfl, x, rfl⟩) | ((with_reducible refine (callsIn_wide.2 (HL2.out _ ?hbel)).mono ?_); (case hbel => (repeat' first | with_reducible (first | apply bz0 | assumption | apply bz1 | apply bz2 | apply bz3 | apply bz4 | apply bz5) | (simp <;> omega))); rintro e w' ⟨rfl, x, rfl⟩) | skip); gi_wp2)
  refine bodyPostM_ret (v := .bool false) (by simp [results, Tryz.results115, go_sem]) rfl (retX rfl ?_)
  (repeat' first | with_reducible (first | apply bz0 | assumption | apply bz1 | apply bz2 | apply bz3 | apply bz4 | apply bz5) | (simp <;> omega))
end Go.Proofs.YtekieoamelahkaaGreat

/- Whether the walls have nothing in common but the corners between neighbours. -/
namespace Go.Proofs.YtekieoamelahkaaGreat
open Go.RowKit Go.Shelf
attribute [local go_sem] Oper.semAt_some

def wayB (H : Hal) (j i : Nat) : Bool := blocksB (corAt H.cors j).x (corAt H.cors j).y (corAt H.cors (nxt H.cors.length j)).x (corAt H.cors (nxt H.cors.length j)).y (corAt H.cors i).x (corAt H.cors i).y 1 (corAt H.cors (nxt H.cors.length i)).x (corAt H.cors (nxt H.cors.length i)).y 1
def beginB (H : Hal) (j i : Nat) : Bool := holdsB (corAt H.cors j).x (corAt H.cors j).y (corAt H.cors (nxt H.cors.length j)).x (corAt H.cors (nxt H.cors.length j)).y (corAt H.cors i).x (corAt H.cors i).y 1
def badB (H : Hal) (i j : Nat) : Bool := !decide (i = j) && (wayB H j i || (!decide (nxt H.cors.length j = i) && beginB H j i))
def simpleB (H : Hal) : Bool := (List.range H.cors.length).all fun i => (List.range H.cors.length).all fun j => !badB H i j
theorem simpleB_stop {H : Hal} {i j : Nat} (hi : i < H.cors.length) (hj : j < H.cors.length) (h : badB H i j = true) : simpleB H = false := by
 unfold simpleB
 rw [List.all_eq_false]
 refine ⟨i, by simpa using hi, ?_⟩
 rw [Bool.not_eq_true, List.all_eq_false]
 exact ⟨j, by simpa using hj, by simp [h]⟩
theorem simpleB_end {H : Hal} (h : ∀ i, i < H.cors.length → ∀ j, j < H.cors.length → badB H i j = false) : simpleB H = true := by
 unfold simpleB
 rw [List.all_eq_true]
 intro i hi
 rw [List.all_eq_true]
 intro j hj
 simp [h i (by simpa using hi) j (by simpa using hj)]

structure SimI (H : Hal) (b s i : Nat) (W : World) : Prop where
 box : W.cell? ⟨s, 0, none⟩ = some (.pointer (some ⟨b, 0, none⟩))
 res : ∃ r, W.cell? ⟨s + 1, 0, none⟩ = some (.bool r)
 fres : W.frozen? ⟨s + 1, 0, none⟩ = false
 none : ∀ p, p < i → ∀ j, j < H.cors.length → badB H p j = false
theorem SimI.sim {H : Hal} {b s i D : Nat} {W W' : World} (m : Sim D W W') (h : SimI H b s i W) : SimI H b s i W' :=
 ⟨m.cell h.box, let ⟨r, hr⟩ := h.res; ⟨r, m.cell hr⟩, let ⟨r, hr⟩ := h.res; m.frozen hr h.fres, h.none⟩
structure SimX (H : Hal) (s : Nat) (C : Code) (W : World) : Prop where
 ret : C = .ret
 res : W.cell? ⟨s + 1, 0, none⟩ = some (.bool false)
 no : simpleB H = false
theorem SimX.sim {H : Hal} {s D : Nat} {C : Code} {W W' : World} (m : Sim D W W') (h : SimX H s C W) : SimX H s C W' := ⟨h.ret, m.cell h.res, h.no⟩
theorem _root_.Go.KeepsAll.sim {D B : Nat} {W V V' : World} (h : KeepsAll D W V) (m : Sim B V V') (hB : W.heap.size ≤ B) : KeepsAll D W V' :=
 ⟨Nat.le_trans h.size m.size, fun k o hk ho => m.same k o (h.same k o hk ho) (.inr (Nat.lt_of_lt_of_le (Array.getElem?_eq_some_iff.1 ho).1 hB))⟩
structure InI (H : Hal) (b s B C i j D : Nat) (W V : World) : Prop where
 box : V.cell? ⟨s, 0, none⟩ = some (.pointer (some ⟨b, 0, none⟩))
 res : ∃ r, V.cell? ⟨s + 1, 0, none⟩ = some (.bool r)
 fres : V.frozen? ⟨s + 1, 0, none⟩ = false
 ci : V.cell? ⟨B, 0, none⟩ = some (.int .i64 i)
 ed : EdgeIn V (B + 1) H i
 p0 : V.cell? ⟨C, 0, none⟩ = some (.int .i64 (corAt H.cors i).x)
 p1 : V.cell? ⟨C, 1, none⟩ = some (.int .i64 (corAt H.cors i).y)
 p2 : V.cell? ⟨C, 2, none⟩ = some (.int .i64 0)
 p3 : V.cell? ⟨C, 3, none⟩ = some (.int .i64 1)
 none : ∀ q, q < j → badB H i q = false
 keep : KeepsAll D W V
theorem InI.sim {H : Hal} {b s B C i j D Z : Nat} {W V V' : World} (m : Sim Z V V') (hZ : W.heap.size ≤ Z) (h : InI H b s B C i j D W V) : InI H b s B C i j D W V' :=
 ⟨m.cell h.box, let ⟨r, hr⟩ := h.res; ⟨r, m.cell hr⟩, let ⟨r, hr⟩ := h.res; m.frozen hr h.fres, m.cell h.ci, h.ed.sim m, m.cell h.p0, m.cell h.p1, m.cell h.p2, m.cell h.p3, h.none, h.keep.sim m hZ⟩
structure InX (H : Hal) (s D : Nat) (W : World) (C : Code) (V : World) : Prop where
 ret : C = .ret
 res : V.cell? ⟨s + 1, 0, none⟩ = some (.bool false)
 no : simpleB H = false
 keep : KeepsAll D W V
theorem InX.sim {H : Hal} {s D Z : Nat} {C : Code} {W V V' : World} (m : Sim Z V V') (hZ : W.heap.size ≤ Z) (h : InX H s D W C V) : InX H s D W C V' := ⟨h.ret, m.cell h.res, h.no, h.keep.sim m hZ⟩

def simA (H : Hal) (b s B i : Nat) : Act := { tmps := #[.pointer (some ⟨b, 0, none⟩), .pointer (some ⟨s, 0, none⟩), .pointer (some ⟨s + 1, 0, none⟩), .pointer (some ⟨B, 0, none⟩), .pointer (some ⟨B + 1, 0, none⟩), undef, undef, undef, undef, .pointer (some ⟨b, 0, none⟩), .func (.func 129) #[.pointer (some ⟨b, 0, none⟩)] #[], .int .i64 i, lineV H i, undef, undef, undef, undef, undef, undef, undef, undef, undef, undef, undef, undef, undef, undef, undef, undef, undef, undef, undef, undef, undef, undef, undef, undef, undef, undef, undef, undef, undef, undef, undef, undef, undef, undef], defers := [] }
def simA2 (H : Hal) (b s B i C B2 j : Nat) : Act := { tmps := #[.pointer (some ⟨b, 0, none⟩), .pointer (some ⟨s, 0, none⟩), .pointer (some ⟨s + 1, 0, none⟩), .pointer (some ⟨B, 0, none⟩), .pointer (some ⟨B + 1, 0, none⟩), .pointer (some ⟨C, 0, none⟩), .int .i64 j, .pointer (some ⟨B2, 0, none⟩), undef, .pointer (some ⟨b, 0, none⟩), .func (.func 129) #[.pointer (some ⟨b, 0, none⟩)] #[], .int .i64 i, lineV H i, .pointer (some ⟨B + 1, 0, none⟩), .agg #[.int .i64 ((corAt H.cors i).x), .int .i64 ((corAt H.cors i).y)], .agg #[.int .i64 ((corAt H.cors i).x), .int .i64 ((corAt H.cors i).y), .int .i64 0, .int .i64 1], .pointer (some ⟨b, 0, none⟩), .func (.func 129) #[.pointer (some ⟨b, 0, none⟩)] #[], .int .i64 j, lineV H j, undef, undef, undef, undef, undef, undef, undef, undef, undef, undef, undef, undef, undef, undef, undef, undef, undef, undef, undef, undef, undef, undef, undef, undef, undef, undef, undef], defers := [] }

theorem isSimple_room {w : World} {b : Nat} {H : Hal} {S : Stg} (hR : Room w b H S) (hC : CorsIn H) (hN : H.cors.length ≤ 20) :
 Calls Tryz.prog 131 #[.pointer (some ⟨b, 0, none⟩)] w (RetX w (.bool (simpleB H))) := by
 refine (callsIn_wide (n := 10)).1 ?_
 refine callsIn_of_wp_marks Tryz.func131 rfl trivial ?_ rfl
 simp only [Tryz.ntmps131, nt, Nat.reduceAdd, Nat.reduceSub]
 gi_wp2
 refine range_outer rfl (by omega) (gf := 129) (pre := #[.pointer (some ⟨b, 0, none⟩)]) rfl trivial (enters_of Tryz.func129 (by kernel_rfl) rfl) (n₀ := w.heap.size) (by simp; omega)
  (walls_iter hR (by (repeat' first | with_reducible (first | apply bz0 | assumption | apply bz1 | apply bz2 | apply bz3 | apply bz4 | apply bz5) | (simp <;> omega))) _ (by omega)) (fun k => rfl)
  (fun i W => SimI H b w.heap.size i W) (fun C W => SimX H w.heap.size C W) (fun k W W' s h => h.sim s) (fun c W W' s h => h.sim s) ?start
  (fun i a' W => ∃ B, w.heap.size + 2 ≤ B ∧ a' = simA H b w.heap.size B i ∧ W.cell? ⟨B, 0, none⟩ = some (.int .i64 i) ∧ EdgeIn W (B + 1) H i) (fun i a' W W' s ⟨B, h1, h2, h3, h4⟩ => ⟨B, h1, h2, s.cell h3, h4.sim s⟩) ?assign ?body ?done ?stop
 case start => exact ⟨by simp [go_sem], ⟨false, by simp [go_sem]⟩, by simp [go_sem], fun j hj => absurd hj (Nat.not_lt_zero j)⟩
 case assign =>
  intro l i W K hi hI hb hK
  have hsz : w.heap.size + 2 ≤ W.heap.size := by have := hb.size; simp at this; omega
  simp only [wallEnc, lineV]
  gi_wp2
  refine hK _ _ ((KeepsAll.alloc _ _ _).trans (KeepsAll.alloc _ _ _)) ((hb.alloc (by omega) _).alloc (by simp; omega) _) (hI.sim ((Sim.alloc 0 _ _).trans (Sim.alloc 0 _ _))) ⟨W.heap.size, by omega, ?_, ?_, ?_⟩
  · unfold simA lineV; simp
  · simp [go_sem]
  · have := EdgeIn.new (W.alloc (.cells #[.int .i64 i] 3)) H i 183
    simpa using this
 case body =>
  rintro l i a' W hi hl hr ⟨box, ⟨r, r1⟩, r2, hno⟩ ⟨B, hB, rfl, ci, hE⟩ hb
  have hsz : w.heap.size + 2 ≤ W.heap.size := by have := hb.size; simp at this; omega
  obtain ⟨e0, e1, e2, e3⟩ := hE
  have g0 := has_of_cell box
  have g1 := has_of_cell r1
  have g2 := has_of_cell ci
  have g3 := has_of_cell e0
  obtain ⟨m1, m2⟩ := hC i (by omega)
  obtain ⟨m3, m4⟩ := hC _ (nxt_lt (n := H.cors.length) (i := i) (by omega))
  unfold simA lineV
  gi_wp2
  refine ⟨trivial, ?_⟩
  refine (callsIn_wide.2 (cornerPoint_any _ _ _)).mono ?_
  rintro e w1 ⟨rfl, x, rfl⟩
  gi_wp2
  have hbw : ∀ o : Obj, Below W.heap.size W ((W.ext x).alloc o) := fun o => ((Below.refl _ _).extStep (Nat.le_refl _) x).alloc (by simp) o
  have hlt : l < W.heap.size := by obtain ⟨r0, hr0⟩ := hr; exact (Array.getElem?_eq_some_iff.1 hr0).1
  refine range_inner rfl (by obtain ⟨r0, hr0⟩ := hr; exact ⟨r0, ((hbw _).block l hlt).trans hr0⟩) (by omega) (gf := 129) (pre := #[.pointer (some ⟨b, 0, none⟩)]) rfl trivial (enters_of Tryz.func129 (by kernel_rfl) rfl) (n₀ := w.heap.size) (by simp; omega)
   ((walls_iter hR ((((show Below w.heap.size w _ by (repeat' first | with_reducible (first | apply bz0 | assumption | apply bz1 | apply bz2 | apply bz3 | apply bz4 | apply bz5) | (simp <;> omega))).trans hb)).trans ((hbw _).lower (by omega))) _ (by omega)).inRound l) (fun k => rfl)
   (fun j V => InI H b w.heap.size B (W.heap.size + x.heap.size) i j (w.heap.size + 2) W V) (fun C V => InX H w.heap.size (w.heap.size + 2) W C V) (fun k V V' s h => h.sim s (by simp; omega)) (fun c V V' s h => h.sim s (by simp; omega)) ?istart
   (fun j a' V => ∃ B2, W.heap.size + x.heap.size < B2 ∧ a' = simA2 H b w.heap.size B i (W.heap.size + x.heap.size) B2 j ∧ EdgeIn V B2 H j) (fun j a' V V' s ⟨B2, h1, h2, h3⟩ => ⟨B2, h1, h2, h3.sim s⟩) ?iassign ?ibody ?idone ?istop
  case istart =>
   have hs : Sim 0 W ((W.ext x).alloc (.cells #[.int .i64 (corAt H.cors i).x, .int .i64 (corAt H.cors i).y, .int .i64 0, .int .i64 1] 95)) := (Sim.ext _ _ _).trans (Sim.alloc _ _ _)
   refine ⟨hs.cell box, ⟨r, hs.cell r1⟩, hs.frozen r1 r2, hs.cell ci, EdgeIn.sim hs ⟨e0, e1, e2, e3⟩, ?_, ?_, ?_, ?_, fun j hj => absurd hj (Nat.not_lt_zero j), (KeepsAll.of_below (hbw _))⟩ <;> simp [go_sem]
  case iassign =>
   intro l2 j V K hj hI2 hb2 hK
   have hsz2 : W.heap.size + x.heap.size + 1 ≤ V.heap.size := by have := hb2.size; simp at this; omega
   simp only [wallEnc, lineV]
   gi_wp2
   refine hK _ _ (KeepsAll.alloc _ _ _) (hb2.alloc (by omega) _) (hI2.sim (Sim.alloc W.heap.size _ _) (Nat.le_refl _)) ⟨V.heap.size, by omega, ?_, EdgeIn.new _ _ _ _⟩
   unfold simA2 lineV; simp
  case idone =>
   intro V hV hbV
   exact ⟨by simpa using hV.keep, (hb.trans ((hbw _).lower (by omega))).trans hbV, hV.box, hV.res, hV.fres, fun p hp j hj => by
    rcases Nat.lt_or_ge p i with h | h
    · exact hno p h j hj
    · obtain rfl : p = i := by omega
      exact hV.none j hj⟩
  case istop =>
   rintro C V ⟨rfl, c1, hno2, hkp⟩ hbV
   gi_wp2
   exact ⟨by simpa using hkp, (hb.trans ((hbw _).lower (by omega))).trans hbV, rfl, c1, hno2⟩
  case ibody =>
   rintro l2 j a' V hj hl2 hr2 ⟨box, ⟨r, r1⟩, r2, ci, ⟨e0, e1, e2, e3⟩, p0, p1, p2, p3, hno2, hkp⟩ ⟨B2, hB2, rfl, ⟨d0, d1, d2, d3⟩⟩ hb2
   have hsz2 : W.heap.size + x.heap.size + 1 ≤ V.heap.size := by have := hb2.size; simp at this; omega
   have hRV : Room V b H S := hR.below (((show Below w.heap.size w _ by (repeat' first | with_reducible (first | apply bz0 | assumption | apply bz1 | apply bz2 | apply bz3 | apply bz4 | apply bz5) | (simp <;> omega))).trans hb).trans (((hbw _).lower (by omega)).trans hb2))
   obtain ⟨v4, v5, v6, v7, v8, v9, v10, hRV⟩ := hRV
   obtain ⟨A, c, rfl, hS⟩ := slc_form hRV.hal.cors
   have h5 := hRV.c5
   have hbb := hRV.has
   clear hS hRV hr hr2 hl2 hR
   have hB' : Hid (badB H i j = (!decide (i = j) && (wayB H j i || (!decide (nxt H.cors.length j = i) && beginB H j i)))) := rfl
   have hW' : Hid (wayB H j i = blocksB (corAt H.cors j).x (corAt H.cors j).y (corAt H.cors (nxt H.cors.length j)).x (corAt H.cors (nxt H.cors.length j)).y (corAt H.cors i).x (corAt H.cors i).y 1 (corAt H.cors (nxt H.cors.length i)).x (corAt H.cors (nxt H.cors.length i)).y 1) := rfl
   have hG' : Hid (beginB H j i = holdsB (corAt H.cors j).x (corAt H.cors j).y (corAt H.cors (nxt H.cors.length j)).x (corAt H.cors (nxt H.cors.length j)).y (corAt H.cors i).x (corAt H.cors i).y 1) := rfl
   have hSt : Hid (badB H i j = true → simpleB H = false) := simpleB_stop hi hj
   obtain ⟨n1, n2⟩ := hC j (by omega)
   obtain ⟨n3, n4⟩ := hC _ (nxt_lt (n := H.cors.length) (i := j) (by omega))
   have hnl := nxt_lt (n := H.cors.length) (i := j) hj
   have e6 := nxt_mod (n := H.cors.length) (i := j) hj
   have e5 : IntKind.i64.wrap ((j : Int) + 1) = (j : Int) + 1 := IntWalk.i64_in _ (by omega)
   have e7 : ((j : Int) + 1).tmod (H.cors.length : Int) = (nxt H.cors.length j : Int) := by rw [Int.tmod_eq_emod_of_nonneg (by omega)]; exact e6
   unfold simA2 lineV
   generalize ha1 : (corAt H.cors i).x = a1 at *
   generalize ha2 : (corAt H.cors i).y = a2 at *
   generalize ha3 : (corAt H.cors (nxt H.cors.length i)).x = a3 at *
   generalize ha4 : (corAt H.cors (nxt H.cors.length i)).y = a4 at *
   generalize (corAt H.cors j).x = b1 at *
   generalize (corAt H.cors j).y = b2 at *
   generalize (corAt H.cors (nxt H.cors.length j)).x = b3 at *
   generalize (corAt H.cors (nxt H.cors.length j)).y = b4 at *
   generalize nxt H.cors.length j = nj at *
   have k0 := has_of_cell box
   have k1 := has_of_cell r1
   have k2 := has_of_cell ci
   have k3 := has_of_cell e0
   have k4 := has_of_cell p0
   have k5 := has_of_cell d0
   have hno3 : badB H i j = false → ∀ q, q < j + 1 → badB H i q = false := fun h q hq => by
    rcases Nat.lt_or_ge q j with h' | h'
    · exact hno2 q h'
    · obtain rfl : q = j := by omega
      exact h
   have hno3 := hidden hno3
   by_cases hij : i = j
   · subst hij
     have hbf : badB H i i = false := by rw [hB'.out]; simp
     clear hB' hW' hG' hSt
     gi_wp2
     subst ha1 ha2 ha3 ha4
     refine bodyQ_next (by (repeat' first | with_reducible (first | apply bz0 | assumption | apply bz1 | apply bz2 | apply bz3 | apply bz4 | apply bz5) | (simp <;> omega))) (by first | omega | (simp; omega)) hb2 (fun m => ⟨m.cell box, ⟨r, m.cell r1⟩, m.frozen r1 r2, m.cell ci, EdgeIn.sim m ⟨e0, e1, e2, e3⟩, m.cell p0, m.cell p1, m.cell p2, m.cell p3, hno3.out hbf, hkp.sim m (by first | omega | (simp; omega))⟩)
   · have hij1 : ((i : Int) == (j : Int)) = false := by simp; omega
     have HB := hidden (fun X => blocks_any b1 b2 b3 b4 n1 n2 n3 n4 a1 a2 0 1 a3 a4 0 1 X (by omega) (by omega) (by omega) (by omega) (by omega) (by omega) (by omega) (by omega))
     have HO := hidden (fun X => holds_any b1 b2 b3 b4 a1 a2 0 1 X n1 n2 n3 n4 (by omega) (by omega) (by omega) (by omega))
     have hB2 := hB'.out
     simp only [hij, decide_false, Bool.not_false, Bool.true_and] at hB2
     clear hB'
     cases q1 : blocksB b1 b2 b3 b4 a1 a2 1 a3 a4 1 with
     | true =>
      have hbad := hidden (hSt.out (by rw [hB2, hW'.out, q1]; rfl))
      rw [q1] at HB
      clear hSt hB2 hW' hG' hno3 HO
      cases q2 : ((nj : Int) == (i : Int))
      all_goals
       gi_wp2
       (refine wpIn_region_tameX (by kernel_rfl) (by kernel_rfl) ?_); (repeat (first | (refine tmS rfl ?_; simp only [Act.put, List.setIfInBounds_toArray, List.set_cons_succ, List.set_cons_zero]) | (refine tmP rfl rfl rfl (fun K hK => ?_); go_big_quiet_op; refine hK _ ?_; clear hK K) | (refine tmE rfl rfl (fun K hK => ?_); go_big_op; (first | fail | skip); (refine hK _ _ rfl (ext_of_below (by (repeat' first | with_reducible (first | apply bz0 | assumption | apply bz1 | apply bz2 | apply bz3 | apply bz4 | apply bz5) | (simp <;> omega)))) ?_; clear hK K)))); (refine tmN ?_)
       gi_wp2
       (refine wpIn_region_tameX (by kernel_rfl) (by kernel_rfl) ?_); (repeat (first | (refine tmS rfl ?_; simp only [Act.put, List.setIfInBounds_toArray, List.set_cons_succ, List.set_cons_zero]) | (refine tmP rfl rfl rfl (fun K hK => ?_); go_big_quiet_op; refine hK _ ?_; clear hK K) | (refine tmE rfl rfl (fun K hK => ?_); go_big_op; (first | (go_at_call 171; refine (way_any _ _ _ _ _).mono ?_; rintro e w' ⟨rfl, y1, rfl⟩) | (go_at_call 155; refine (HB.out _).mono ?_; rintro e w' ⟨rfl, y2, rfl⟩) | skip); (refine hK _ _ rfl (ext_of_below (by (repeat' first | with_reducible (first | apply bz0 | assumption | apply bz1 | apply bz2 | apply bz3 | apply bz4 | apply bz5) | (simp <;> omega)))) ?_; clear hK K)))); (refine tmN ?_)
       gi_wp2
       refine bodyQ_leaveSet (by (repeat' first | with_reducible (first | apply bz0 | assumption | apply bz1 | apply bz2 | apply bz3 | apply bz4 | apply bz5) | (simp <;> omega))) (by first | omega | (simp; omega)) (by first | omega | (simp; done) | (simp; omega)) (by first | omega | (simp; done) | (simp; omega)) hb2 (fun m => ⟨rfl, cell_set (m.cell r1), hbad.out, (hkp.sim m (by first | omega | (simp; omega))).trans (KeepsAll.setCell _ _ _ (by first | omega | (simp; done) | (simp; omega)))⟩)
     | false =>
      rw [q1] at HB
      have hW2 := hW'.out
      rw [q1] at hW2
      rw [hW2, Bool.false_or] at hB2
      clear hW' hW2
      cases q2 : ((nj : Int) == (i : Int)) with
      | true =>
       have hbf : Hid (badB H i j = false) := by
        unfold Hid
        have : nj = i := by simp at q2; omega
        rw [hB2]; simp [this]
       clear hSt hB2 hG' HO
       gi_wp2
       (refine wpIn_region_tameX (by kernel_rfl) (by kernel_rfl) ?_); (repeat (first | (refine tmS rfl ?_; simp only [Act.put, List.setIfInBounds_toArray, List.set_cons_succ, List.set_cons_zero]) | (refine tmP rfl rfl rfl (fun K hK => ?_); go_big_quiet_op; refine hK _ ?_; clear hK K) | (refine tmE rfl rfl (fun K hK => ?_); go_big_op; (first | fail | skip); (refine hK _ _ rfl (ext_of_below (by (repeat' first | with_reducible (first | apply bz0 | assumption | apply bz1 | apply bz2 | apply bz3 | apply bz4 | apply bz5) | (simp <;> omega)))) ?_; clear hK K)))); (refine tmN ?_)
       gi_wp2
       (refine wpIn_region_tameX (by kernel_rfl) (by kernel_rfl) ?_); (repeat (first | (refine tmS rfl ?_; simp only [Act.put, List.setIfInBounds_toArray, List.set_cons_succ, List.set_cons_zero]) | (refine tmP rfl rfl rfl (fun K hK => ?_); go_big_quiet_op; refine hK _ ?_; clear hK K) | (refine tmE rfl rfl (fun K hK => ?_); go_big_op; (first | (go_at_call 171; refine (way_any _ _ _ _ _).mono ?_; rintro e w' ⟨rfl, y1, rfl⟩) | (go_at_call 155; refine (HB.out _).mono ?_; rintro e w' ⟨rfl, y2, rfl⟩) | (go_at_call 172; refine (HO.out _).mono ?_; rintro e w' ⟨rfl, y3, rfl⟩) | skip); (refine hK _ _ rfl (ext_of_below (by (repeat' first | with_reducible (first | apply bz0 | assumption | apply bz1 | apply bz2 | apply bz3 | apply bz4 | apply bz5) | (simp <;> omega)))) ?_; clear hK K)))); (refine tmN ?_)
       gi_wp2
       subst ha1 ha2 ha3 ha4
       refine bodyQ_next (by (repeat' first | with_reducible (first | apply bz0 | assumption | apply bz1 | apply bz2 | apply bz3 | apply bz4 | apply bz5) | (simp <;> omega))) (by first | omega | (simp; omega)) hb2 (fun m => ⟨m.cell box, ⟨r, m.cell r1⟩, m.frozen r1 r2, m.cell ci, EdgeIn.sim m ⟨e0, e1, e2, e3⟩, m.cell p0, m.cell p1, m.cell p2, m.cell p3, hno3.out hbf.out, hkp.sim m (by first | omega | (simp; omega))⟩)
      | false =>
       have hnij : decide (nj = i) = false := by simp at q2 ⊢; omega
       rw [hnij, Bool.not_false, Bool.true_and, hG'.out] at hB2
       cases q3 : holdsB b1 b2 b3 b4 a1 a2 1 with
       | true =>
        have hbad := hidden (hSt.out (by rw [hB2, q3]))
        rw [q3] at HO
        clear hSt hB2 hG' hno3
        gi_wp2
        (refine wpIn_region_tameX (by kernel_rfl) (by kernel_rfl) ?_); (repeat (first | (refine tmS rfl ?_; simp only [Act.put, List.setIfInBounds_toArray, List.set_cons_succ, List.set_cons_zero]) | (refine tmP rfl rfl rfl (fun K hK => ?_); go_big_quiet_op; refine hK _ ?_; clear hK K) | (refine tmE rfl rfl (fun K hK => ?_); go_big_op; (first | fail | skip); (refine hK _ _ rfl (ext_of_below (by (repeat' first | with_reducible (first | apply bz0 | assumption | apply bz1 | apply bz2 | apply bz3 | apply bz4 | apply bz5) | (simp <;> omega)))) ?_; clear hK K)))); (refine tmN ?_)
        gi_wp2
        (refine wpIn_region_tameX (by kernel_rfl) (by kernel_rfl) ?_); (repeat (first | (refine tmS rfl ?_; simp only [Act.put, List.setIfInBounds_toArray, List.set_cons_succ, List.set_cons_zero]) | (refine tmP rfl rfl rfl (fun K hK => ?_); go_big_quiet_op; refine hK _ ?_; clear hK K) | (refine tmE rfl rfl (fun K hK => ?_); go_big_op; (first | (go_at_call 171; refine (way_any _ _ _ _ _).mono ?_; rintro e w' ⟨rfl, y1, rfl⟩) | (go_at_call 155; refine (HB.out _).mono ?_; rintro e w' ⟨rfl, y2, rfl⟩) | (go_at_call 172; refine (HO.out _).mono ?_; rintro e w' ⟨rfl, y3, rfl⟩) | skip); (refine hK _ _ rfl (ext_of_below (by (repeat' first | with_reducible (first | apply bz0 | assumption | apply bz1 | apply bz2 | apply bz3 | apply bz4 | apply bz5) | (simp <;> omega)))) ?_; clear hK K)))); (refine tmN ?_)
        gi_wp2
        refine bodyQ_leaveSet (by (repeat' first | with_reducible (first | apply bz0 | assumption | apply bz1 | apply bz2 | apply bz3 | apply bz4 | apply bz5) | (simp <;> omega))) (by first | omega | (simp; omega)) (by first | omega | (simp; done) | (simp; omega)) (by first | omega | (simp; done) | (simp; omega)) hb2 (fun m => ⟨rfl, cell_set (m.cell r1), hbad.out, (hkp.sim m (by first | omega | (simp; omega))).trans (KeepsAll.setCell _ _ _ (by first | omega | (simp; done) | (simp; omega)))⟩)
       | false =>
        have hbf : Hid (badB H i j = false) := by unfold Hid; rw [hB2, q3]
        rw [q3] at HO
        clear hSt hB2 hG'
        gi_wp2
        (refine wpIn_region_tameX (by kernel_rfl) (by kernel_rfl) ?_); (repeat (first | (refine tmS rfl ?_; simp only [Act.put, List.setIfInBounds_toArray, List.set_cons_succ, List.set_cons_zero]) | (refine tmP rfl rfl rfl (fun K hK => ?_); go_big_quiet_op; refine hK _ ?_; clear hK K) | (refine tmE rfl rfl (fun K hK => ?_); go_big_op; (first | fail | skip); (refine hK _ _ rfl (ext_of_below (by (repeat' first | with_reducible (first | apply bz0 | assumption | apply bz1 | apply bz2 | apply bz3 | apply bz4 | apply bz5) | (simp <;> omega)))) ?_; clear hK K)))); (refine tmN ?_)
        gi_wp2
        (refine wpIn_region_tameX (by kernel_rfl) (by kernel_rfl) ?_); (repeat (first | (refine tmS rfl ?_; simp only [Act.put, List.setIfInBounds_toArray, List.set_cons_succ, List.set_cons_zero]) | (refine tmP rfl rfl rfl (fun K hK => ?_); go_big_quiet_op; refine hK _ ?_; clear hK K) | (refine tmE rfl rfl (fun K hK => ?_); go_big_op; (first | (go_at_call 171; refine (way_any _ _ _ _ _).mono ?_; rintro e w' ⟨rfl, y1, rfl⟩) | (go_at_call 155; refine (HB.out _).mono ?_; rintro e w' ⟨rfl, y2, rfl⟩) | (go_at_call 172; refine (HO.out _).mono ?_; rintro e w' ⟨rfl, y3, rfl⟩) | skip); (refine hK _ _ rfl (ext_of_below (by (repeat' first | with_reducible (first | apply bz0 | assumption | apply bz1 | apply bz2 | apply bz3 | apply bz4 | apply bz5) | (simp <;> omega)))) ?_; clear hK K)))); (refine tmN ?_)
        gi_wp2
        subst ha1 ha2 ha3 ha4
        refine bodyQ_next (by (repeat' first | with_reducible (first | apply bz0 | assumption | apply bz1 | apply bz2 | apply bz3 | apply bz4 | apply bz5) | (simp <;> omega))) (by first | omega | (simp; omega)) hb2 (fun m => ⟨m.cell box, ⟨r, m.cell r1⟩, m.frozen r1 r2, m.cell ci, EdgeIn.sim m ⟨e0, e1, e2, e3⟩, m.cell p0, m.cell p1, m.cell p2, m.cell p3, hno3.out hbf.out, hkp.sim m (by first | omega | (simp; omega))⟩)
 case done =>
  rintro W ⟨box, ⟨r, r1⟩, r2, hno⟩ hb hD
  have hz := hidden (simpleB_end hno)
  have g1 := has_of_cell r1
  clear hno hR
  gi_wp2
  have hDlt := (Array.getElem?_eq_some_iff.1 hD).1
  refine bodyPostM_cell (s := w.heap.size + 1) ((Below.heap_setCell _ _ _ _ (by simp <;> omega)).trans hD) (by simp <;> omega) (cell_set r1) (fun X hX => by simp [results, Tryz.results131, go_sem, hX]) (fun o => retX (by rw [hz.out]) ?_)
  refine Below.putObjStep (Below.setCell ((show Below w.heap.size w _ by (repeat' first | with_reducible (first | apply bz0 | assumption | apply bz1 | apply bz2 | apply bz3 | apply bz4 | apply bz5) | (simp <;> omega))).trans hb) (by simp <;> omega) _) (by simp <;> omega) _
 case stop =>
  rintro c' W ⟨rfl, r1, hy⟩ hb hD
  have hz := hidden hy
  have g1 := has_of_cell r1
  gi_wp2
  refine bodyPostM_cell (s := w.heap.size + 1) hD (by simp <;> omega) r1 (fun X hX => by simp [results, Tryz.results131, go_sem, hX]) (fun o => retX (by rw [hz.out]) ?_)
  refine Below.putObjStep ((show Below w.heap.size w _ by (repeat' first | with_reducible (first | apply bz0 | assumption | apply bz1 | apply bz2 | apply bz3 | apply bz4 | apply bz5) | (simp <;> omega))).trans hb) (by simp <;> omega) _
end Go.Proofs.YtekieoamelahkaaGreat

/- Whether a sheet lies inside of the plan. -/
namespace Go.Proofs.YtekieoamelahkaaGreat
open Go.RowKit Go.Shelf
attribute [local go_sem] Oper.semAt_some

def rimWallB (H : Hal) (a b c d : Int) (k j : Nat) : Bool := blocksB (corAt H.cors j).x (corAt H.cors j).y (corAt H.cors (nxt H.cors.length j)).x (corAt H.cors (nxt H.cors.length j)).y (rimX1 a b c d k) (rimY1 a b c d k) 1 (rimX2 a b c d k) (rimY2 a b c d k) 1
def framesB (H : Hal) (a b c d : Int) : Bool := (List.range 4).all fun k => coversB H (rimX1 a b c d k) (rimY1 a b c d k) 1 && (List.range H.cors.length).all fun j => !rimWallB H a b c d k j
theorem framesB_stop1 {H : Hal} {a b c d : Int} {k : Nat} (hk : k < 4) (h : coversB H (rimX1 a b c d k) (rimY1 a b c d k) 1 = false) : framesB H a b c d = false := by
 unfold framesB
 rw [List.all_eq_false]
 exact ⟨k, by simpa using hk, by simp [h]⟩
theorem framesB_stop2 {H : Hal} {a b c d : Int} {k j : Nat} (hk : k < 4) (hj : j < H.cors.length) (h : rimWallB H a b c d k j = true) : framesB H a b c d = false := by
 unfold framesB
 rw [List.all_eq_false]
 refine ⟨k, by simpa using hk, ?_⟩
 have : (List.range H.cors.length).all (fun j => !rimWallB H a b c d k j) = false := by
  rw [List.all_eq_false]; exact ⟨j, by simpa using hj, by simp [h]⟩
 simp [this]
theorem framesB_end {H : Hal} {a b c d : Int} (h : ∀ k, k < 4 → coversB H (rimX1 a b c d k) (rimY1 a b c d k) 1 = true ∧ ∀ j, j < H.cors.length → rimWallB H a b c d k j = false) : framesB H a b c d = true := by
 unfold framesB
 rw [List.all_eq_true]
 intro k hk
 have hk' := h k (by simpa using hk)
 rw [hk'.1, Bool.true_and, List.all_eq_true]
 intro j hj
 simp [hk'.2 j (by simpa using hj)]

structure FrI (H : Hal) (a b c d : Int) (bp s k : Nat) (W : World) : Prop where
 box : W.cell? ⟨s, 0, none⟩ = some (.pointer (some ⟨bp, 0, none⟩))
 res : ∃ r, W.cell? ⟨s + 2, 0, none⟩ = some (.bool r)
 fres : W.frozen? ⟨s + 2, 0, none⟩ = false
 none : ∀ p, p < k → coversB H (rimX1 a b c d p) (rimY1 a b c d p) 1 = true ∧ ∀ j, j < H.cors.length → rimWallB H a b c d p j = false
theorem FrI.sim {H : Hal} {a b c d : Int} {bp s k D : Nat} {W W' : World} (m : Sim D W W') (h : FrI H a b c d bp s k W) : FrI H a b c d bp s k W' :=
 ⟨m.cell h.box, let ⟨r, hr⟩ := h.res; ⟨r, m.cell hr⟩, let ⟨r, hr⟩ := h.res; m.frozen hr h.fres, h.none⟩
structure FrX (H : Hal) (a b c d : Int) (s : Nat) (C : Code) (W : World) : Prop where
 ret : C = .ret
 res : W.cell? ⟨s + 2, 0, none⟩ = some (.bool false)
 no : framesB H a b c d = false
theorem FrX.sim {H : Hal} {a b c d : Int} {s D : Nat} {C : Code} {W W' : World} (m : Sim D W W') (h : FrX H a b c d s C W) : FrX H a b c d s C W' := ⟨h.ret, m.cell h.res, h.no⟩
structure FiI (H : Hal) (a b c d : Int) (bp s B k j D : Nat) (W V : World) : Prop where
 box : V.cell? ⟨s, 0, none⟩ = some (.pointer (some ⟨bp, 0, none⟩))
 res : ∃ r, V.cell? ⟨s + 2, 0, none⟩ = some (.bool r)
 fres : V.frozen? ⟨s + 2, 0, none⟩ = false
 ed : Four (rimX1 a b c d k) (rimY1 a b c d k) (rimX2 a b c d k) (rimY2 a b c d k) B V
 none : ∀ q, q < j → rimWallB H a b c d k q = false
 keep : KeepsAll D W V
theorem FiI.sim {H : Hal} {a b c d : Int} {bp s B k j D Z : Nat} {W V V' : World} (m : Sim Z V V') (hZ : W.heap.size ≤ Z) (h : FiI H a b c d bp s B k j D W V) : FiI H a b c d bp s B k j D W V' :=
 ⟨m.cell h.box, let ⟨r, hr⟩ := h.res; ⟨r, m.cell hr⟩, let ⟨r, hr⟩ := h.res; m.frozen hr h.fres, h.ed.sim m, h.none, h.keep.sim m hZ⟩
structure FiX (H : Hal) (a b c d : Int) (s D : Nat) (W : World) (C : Code) (V : World) : Prop where
 ret : C = .ret
 res : V.cell? ⟨s + 2, 0, none⟩ = some (.bool false)
 no : framesB H a b c d = false
 keep : KeepsAll D W V
theorem FiX.sim {H : Hal} {a b c d : Int} {s D Z : Nat} {C : Code} {W V V' : World} (m : Sim Z V V') (hZ : W.heap.size ≤ Z) (h : FiX H a b c d s D W C V) : FiX H a b c d s D W C V' := ⟨h.ret, m.cell h.res, h.no, h.keep.sim m hZ⟩

def frA (a b c d : Int) (bp s B k : Nat) : Act := { tmps := #[.pointer (some ⟨bp, 0, none⟩), .agg #[.int .i64 a, .int .i64 b, .int .i64 c, .int .i64 d], .pointer (some ⟨s, 0, none⟩), .pointer (some ⟨s + 1, 0, none⟩), .pointer (some ⟨s + 1 + 1, 0, none⟩), .pointer (some ⟨B, 0, none⟩), undef, undef, .agg #[.int .i64 a, .int .i64 b, .int .i64 c, .int .i64 d], .func (.func 185) #[.agg #[.int .i64 a, .int .i64 b, .int .i64 c, .int .i64 d]] #[], rimV a b c d k, undef, undef, undef, undef, undef, undef, undef, undef, undef, undef, undef, undef, undef, undef], defers := [] }
def frA2 (H : Hal) (a b c d : Int) (bp s B k B2 j : Nat) : Act := { tmps := #[.pointer (some ⟨bp, 0, none⟩), .agg #[.int .i64 a, .int .i64 b, .int .i64 c, .int .i64 d], .pointer (some ⟨s, 0, none⟩), .pointer (some ⟨s + 1, 0, none⟩), .pointer (some ⟨s + 1 + 1, 0, none⟩), .pointer (some ⟨B, 0, none⟩), undef, .pointer (some ⟨B2, 0, none⟩), .agg #[.int .i64 a, .int .i64 b, .int .i64 c, .int .i64 d], .func (.func 185) #[.agg #[.int .i64 a, .int .i64 b, .int .i64 c, .int .i64 d]] #[], rimV a b c d k, .pointer (some ⟨bp, 0, none⟩), .pointer (some ⟨B, 0, none⟩), .agg #[.int .i64 (rimX1 a b c d k), .int .i64 (rimY1 a b c d k)], .agg #[.int .i64 (rimX1 a b c d k), .int .i64 (rimY1 a b c d k), .int .i64 0, .int .i64 1], .bool true, .bool false, .pointer (some ⟨bp, 0, none⟩), .func (.func 129) #[.pointer (some ⟨bp, 0, none⟩)] #[], .int .i64 j, lineV H j, undef, undef, undef, undef], defers := [] }

theorem frames_room {w : World} {bp : Nat} {H : Hal} {S : Stg} (hR : Room w bp H S) (hC : CorsIn H) (hN : H.cors.length ≤ 20) (a b c d : Int) (h1 : -5000 ≤ a ∧ a ≤ 5000) (h2 : -5000 ≤ b ∧ b ≤ 5000) (h3 : -5000 ≤ c ∧ c ≤ 5000) (h4 : -5000 ≤ d ∧ d ≤ 5000) :
 Calls Tryz.prog 173 #[.pointer (some ⟨bp, 0, none⟩), .agg #[.int .i64 a, .int .i64 b, .int .i64 c, .int .i64 d]] w (RetX w (.bool (framesB H a b c d))) := by
 refine (callsIn_wide (n := 10)).1 ?_
 refine callsIn_of_wp_marks Tryz.func173 rfl trivial ?_ rfl
 simp only [Tryz.ntmps173, nt, Nat.reduceAdd, Nat.reduceSub]
 gi_wp2
 refine range_outer rfl (by omega) (gf := 185) (pre := #[.agg #[.int .i64 a, .int .i64 b, .int .i64 c, .int .i64 d]]) rfl trivial (enters_of Tryz.func185 (by kernel_rfl) rfl) (n₀ := w.heap.size) (by simp; omega)
  (rims_iter a b c d (w := w) (by (repeat' first | with_reducible (first | apply bz0 | assumption | apply bz1 | apply bz2 | apply bz3 | apply bz4 | apply bz5) | (simp <;> omega))) _ (by omega)) (fun k => rfl)
  (fun i W => FrI H a b c d bp w.heap.size i W) (fun C W => FrX H a b c d w.heap.size C W) (fun k W W' s h => h.sim s) (fun c W W' s h => h.sim s) ?start
  (fun i a' W => ∃ B, w.heap.size + 3 ≤ B ∧ a' = frA a b c d bp w.heap.size B i ∧ Four (rimX1 a b c d i) (rimY1 a b c d i) (rimX2 a b c d i) (rimY2 a b c d i) B W) (fun i a' W W' s ⟨B, h1, h2, h3⟩ => ⟨B, h1, h2, h3.sim s⟩) ?assign ?body ?done ?stop
 case start => exact ⟨by simp [go_sem], ⟨false, by simp [go_sem]⟩, by simp [go_sem], fun j hj => absurd hj (Nat.not_lt_zero j)⟩
 case assign =>
  intro l i W K hi hI hb hK
  have hsz : w.heap.size + 3 ≤ W.heap.size := by have := hb.size; simp at this; omega
  simp only [rimEnc, rimV]
  gi_wp2
  exact hK _ _ (KeepsAll.alloc _ _ _) (hb.alloc (by omega) _) (hI.sim (Sim.alloc 0 _ _)) ⟨W.heap.size, by omega, rfl, Four.new _ _ _ _ _ _⟩
 case body =>
  rintro l i a' W hi hl hr ⟨box, ⟨r, r1⟩, r2, hno⟩ ⟨B, hB, rfl, hE⟩ hb
  have hsz : w.heap.size + 3 ≤ W.heap.size := by have := hb.size; simp at this; omega
  obtain ⟨e0, e1, e2, e3⟩ := hE
  have g0 := has_of_cell box
  have g1 := has_of_cell r1
  have g3 := has_of_cell e0
  obtain ⟨m1, m2, m3, m4⟩ := rim_in h1 h2 h3 h4 i
  have HC := hidden (fun (X : World) (hX : Below w.heap.size w X) => covers_room (hR.below hX) hC hN (rimX1 a b c d i) (rimY1 a b c d i) 0 1 (by omega) (by omega) (by omega) (by omega))
  have hwW : Below w.heap.size w W := (show Below w.heap.size w _ by (repeat' first | with_reducible (first | apply bz0 | assumption | apply bz1 | apply bz2 | apply bz3 | apply bz4 | apply bz5) | (simp <;> omega))).trans hb
  unfold frA rimV
  cases hq : coversB H (rimX1 a b c d i) (rimY1 a b c d i) 1 with
  | false =>
   have hz := hidden (framesB_stop1 hi hq)
   rw [hq] at HC
   clear hr hno
   gi_wp2
   (refine wpIn_region_tameX (by kernel_rfl) (by kernel_rfl) ?_); (repeat (first | (refine tmS rfl ?_; simp only [Act.put, List.setIfInBounds_toArray, List.set_cons_succ, List.set_cons_zero]) | (refine tmP rfl rfl rfl (fun K hK => ?_); go_big_quiet_op; refine hK _ ?_; clear hK K) | (refine tmE rfl rfl (fun K hK => ?_); go_big_op; (first | (go_at_call 170; refine (cornerPoint_any _ _ _).mono ?_; rintro e w' ⟨rfl, y1, rfl⟩) | (go_at_call 151; refine (HC.out _ (hwW.trans (Below.lower (D := W.heap.size) (by (repeat' first | with_reducible (first | apply bz0 | assumption | apply bz1 | apply bz2 | apply bz3 | apply bz4 | apply bz5) | (simp <;> omega))) (by omega)))).mono ?_; rintro e w' ⟨rfl, y2, rfl⟩) | skip); (refine hK _ _ rfl (ext_of_below (by (repeat' first | with_reducible (first | apply bz0 | assumption | apply bz1 | apply bz2 | apply bz3 | apply bz4 | apply bz5) | (simp <;> omega)))) ?_; clear hK K)))); (refine tmN ?_)
   gi_wp2
   refine bodyQ_leaveSet (by (repeat' first | with_reducible (first | apply bz0 | assumption | apply bz1 | apply bz2 | apply bz3 | apply bz4 | apply bz5) | (simp <;> omega))) (by omega) (by first | omega | (simp; done) | (simp; omega)) (by first | omega | (simp; done) | (simp; omega)) hb (fun m => ⟨rfl, cell_set (m.cell r1), hz.out⟩)
  | true =>
   rw [hq] at HC
   gi_wp2
   (refine wpIn_region_tameX (by kernel_rfl) (by kernel_rfl) ?_); (repeat (first | (refine tmS rfl ?_; simp only [Act.put, List.setIfInBounds_toArray, List.set_cons_succ, List.set_cons_zero]) | (refine tmP rfl rfl rfl (fun K hK => ?_); go_big_quiet_op; refine hK _ ?_; clear hK K) | (refine tmE rfl rfl (fun K hK => ?_); go_big_op; (first | (go_at_call 170; refine (cornerPoint_any _ _ _).mono ?_; rintro e w' ⟨rfl, y1, rfl⟩) | (go_at_call 151; refine (HC.out _ (hwW.trans (Below.lower (D := W.heap.size) (by (repeat' first | with_reducible (first | apply bz0 | assumption | apply bz1 | apply bz2 | apply bz3 | apply bz4 | apply bz5) | (simp <;> omega))) (by omega)))).mono ?_; rintro e w' ⟨rfl, y2, rfl⟩) | skip); (refine hK _ _ rfl (ext_of_below (by (repeat' first | with_reducible (first | apply bz0 | assumption | apply bz1 | apply bz2 | apply bz3 | apply bz4 | apply bz5) | (simp <;> omega)))) ?_; clear hK K)))); (refine tmN ?_)
   gi_wp2
   clear HC
   have hbw : Below W.heap.size W ((W.ext y1).ext y2) := by (repeat' first | with_reducible (first | apply bz0 | assumption | apply bz1 | apply bz2 | apply bz3 | apply bz4 | apply bz5) | (simp <;> omega))
   have hlt : l < W.heap.size := by obtain ⟨r0, hr0⟩ := hr; exact (Array.getElem?_eq_some_iff.1 hr0).1
   refine range_inner rfl (by obtain ⟨r0, hr0⟩ := hr; exact ⟨r0, (hbw.block l hlt).trans hr0⟩) (by omega) (gf := 129) (pre := #[.pointer (some ⟨bp, 0, none⟩)]) rfl trivial (enters_of Tryz.func129 (by kernel_rfl) rfl) (n₀ := w.heap.size) (by simp; omega)
    ((walls_iter hR (hwW.trans (hbw.lower (by omega))) _ (by omega)).inRound l) (fun k => rfl)
    (fun j V => FiI H a b c d bp w.heap.size B i j (w.heap.size + 3) W V) (fun C V => FiX H a b c d w.heap.size (w.heap.size + 3) W C V) (fun k V V' s h => h.sim s (by simp; omega)) (fun c V V' s h => h.sim s (by simp; omega)) ?istart
    (fun j a' V => ∃ B2, W.heap.size ≤ B2 ∧ a' = frA2 H a b c d bp w.heap.size B i B2 j ∧ EdgeIn V B2 H j) (fun j a' V V' s ⟨B2, h1, h2, h3⟩ => ⟨B2, h1, h2, h3.sim s⟩) ?iassign ?ibody ?idone ?istop
   case istart =>
    have hs : Sim 0 W ((W.ext y1).ext y2) := Sim.of_below hbw
    exact ⟨hs.cell box, ⟨r, hs.cell r1⟩, hs.frozen r1 r2, Four.sim hs ⟨e0, e1, e2, e3⟩, fun j hj => absurd hj (Nat.not_lt_zero j), (KeepsAll.of_below hbw)⟩
   case iassign =>
    intro l2 j V K hj hI2 hb2 hK
    have hsz2 : W.heap.size ≤ V.heap.size := by have := hb2.size; simp at this; omega
    simp only [wallEnc, lineV]
    gi_wp2
    refine hK _ _ (KeepsAll.alloc _ _ _) (hb2.alloc (by omega) _) (hI2.sim (Sim.alloc W.heap.size _ _) (Nat.le_refl _)) ⟨V.heap.size, by omega, ?_, EdgeIn.new _ _ _ _⟩
    unfold frA2 lineV rimV; simp
   case idone =>
    intro V hV hbV
    exact ⟨by simpa using hV.keep, (hb.trans (hbw.lower (by omega))).trans hbV, hV.box, hV.res, hV.fres, fun p hp => by
     rcases Nat.lt_or_ge p i with h | h
     · exact hno p h
     · obtain rfl : p = i := by omega
       exact ⟨hq, fun j hj => hV.none j hj⟩⟩
   case istop =>
    rintro C V ⟨rfl, c1, hno2, hkp⟩ hbV
    gi_wp2
    exact ⟨by simpa using hkp, (hb.trans (hbw.lower (by omega))).trans hbV, rfl, c1, hno2⟩
   case ibody =>
    rintro l2 j a' V hj hl2 hr2 ⟨box, ⟨r, r1⟩, r2, ⟨e0, e1, e2, e3⟩, hno2, hkp⟩ ⟨B2, hB2, rfl, ⟨d0, d1, d2, d3⟩⟩ hb2
    have hsz2 : W.heap.size ≤ V.heap.size := by have := hb2.size; simp at this; omega
    have hW' : Hid (rimWallB H a b c d i j = blocksB (corAt H.cors j).x (corAt H.cors j).y (corAt H.cors (nxt H.cors.length j)).x (corAt H.cors (nxt H.cors.length j)).y (rimX1 a b c d i) (rimY1 a b c d i) 1 (rimX2 a b c d i) (rimY2 a b c d i) 1) := rfl
    have hSt : Hid (rimWallB H a b c d i j = true → framesB H a b c d = false) := framesB_stop2 hi hj
    obtain ⟨n1, n2⟩ := hC j (by omega)
    obtain ⟨n3, n4⟩ := hC _ (nxt_lt (n := H.cors.length) (i := j) (by omega))
    unfold frA2 lineV rimV
    clear hr hr2 hl2 hR
    have k0 := has_of_cell box
    have k1 := has_of_cell r1
    have k3 := has_of_cell e0
    have k5 := has_of_cell d0
    have hno3 : Hid (rimWallB H a b c d i j = false → ∀ q, q < j + 1 → rimWallB H a b c d i q = false) := fun h q hq => by
     rcases Nat.lt_or_ge q j with h' | h'
     · exact hno2 q h'
     · obtain rfl : q = j := by omega
       exact h
    generalize (corAt H.cors j).x = b1 at *
    generalize (corAt H.cors j).y = b2 at *
    generalize (corAt H.cors (nxt H.cors.length j)).x = b3 at *
    generalize (corAt H.cors (nxt H.cors.length j)).y = b4 at *
    generalize ha1 : rimX1 a b c d i = a1 at *
    generalize ha2 : rimY1 a b c d i = a2 at *
    generalize ha3 : rimX2 a b c d i = a3 at *
    generalize ha4 : rimY2 a b c d i = a4 at *
    have HB := hidden (fun X => blocks_any b1 b2 b3 b4 n1 n2 n3 n4 a1 a2 0 1 a3 a4 0 1 X (by omega) (by omega) (by omega) (by omega) (by omega) (by omega) (by omega) (by omega))
    cases q1 : blocksB b1 b2 b3 b4 a1 a2 1 a3 a4 1 with
    | true =>
     have hbad := hidden (hSt.out (by rw [hW'.out, q1]))
     rw [q1] at HB
     clear hSt hW' hno3
     gi_wp2
     (refine wpIn_region_tameX (by kernel_rfl) (by kernel_rfl) ?_); (repeat (first | (refine tmS rfl ?_; simp only [Act.put, List.setIfInBounds_toArray, List.set_cons_succ, List.set_cons_zero]) | (refine tmP rfl rfl rfl (fun K hK => ?_); go_big_quiet_op; refine hK _ ?_; clear hK K) | (refine tmE rfl rfl (fun K hK => ?_); go_big_op; (first | (go_at_call 171; refine (way_any _ _ _ _ _).mono ?_; rintro e w' ⟨rfl, y1, rfl⟩) | (go_at_call 155; refine (HB.out _).mono ?_; rintro e w' ⟨rfl, y2, rfl⟩) | skip); (refine hK _ _ rfl (ext_of_below (by (repeat' first | with_reducible (first | apply bz0 | assumption | apply bz1 | apply bz2 | apply bz3 | apply bz4 | apply bz5) | (simp <;> omega)))) ?_; clear hK K)))); (refine tmN ?_)
     gi_wp2
     refine bodyQ_leaveSet (by (repeat' first | with_reducible (first | apply bz0 | assumption | apply bz1 | apply bz2 | apply bz3 | apply bz4 | apply bz5) | (simp <;> omega))) (by first | omega | (simp; omega)) (by first | omega | (simp; done) | (simp; omega)) (by first | omega | (simp; done) | (simp; omega)) hb2 (fun m => ⟨rfl, cell_set (m.cell r1), hbad.out, (hkp.sim m (by first | omega | (simp; done) | (simp; omega))).trans (KeepsAll.setCell _ _ _ (by first | omega | (simp; done) | (simp; omega)))⟩)
    | false =>
     have hbf : Hid (rimWallB H a b c d i j = false) := by unfold Hid; rw [hW'.out, q1]
     rw [q1] at HB
     clear hSt hW'
     gi_wp2
     (refine wpIn_region_tameX (by kernel_rfl) (by kernel_rfl) ?_); (repeat (first | (refine tmS rfl ?_; simp only [Act.put, List.setIfInBounds_toArray, List.set_cons_succ, List.set_cons_zero]) | (refine tmP rfl rfl rfl (fun K hK => ?_); go_big_quiet_op; refine hK _ ?_; clear hK K) | (refine tmE rfl rfl (fun K hK => ?_); go_big_op; (first | (go_at_call 171; refine (way_any _ _ _ _ _).mono ?_; rintro e w' ⟨rfl, y1, rfl⟩) | (go_at_call 155; refine (HB.out _).mono ?_; rintro e w' ⟨rfl, y2, rfl⟩) | skip); (refine hK _ _ rfl (ext_of_below (by (repeat' first | with_reducible (first | apply bz0 | assumption | apply bz1 | apply bz2 | apply bz3 | apply bz4 | apply bz5) | (simp <;> omega)))) ?_; clear hK K)))); (refine tmN ?_)
     gi_wp2
     subst ha1 ha2 ha3 ha4
     refine bodyQ_next (by (repeat' first | with_reducible (first | apply bz0 | assumption | apply bz1 | apply bz2 | apply bz3 | apply bz4 | apply bz5) | (simp <;> omega))) (by first | omega | (simp; omega)) hb2 (fun m => ⟨m.cell box, ⟨r, m.cell r1⟩, m.frozen r1 r2, Four.sim m ⟨e0, e1, e2, e3⟩, hno3.out hbf.out, hkp.sim m (by first | omega | (simp; done) | (simp; omega))⟩)
 case done =>
  rintro W ⟨box, ⟨r, r1⟩, r2, hno⟩ hb hD
  have hz := hidden (framesB_end hno)
  have g1 := has_of_cell r1
  clear hno hR
  gi_wp2
  have hDlt := (Array.getElem?_eq_some_iff.1 hD).1
  refine bodyPostM_cell (s := w.heap.size + 2) ((Below.heap_setCell _ _ _ _ (by simp <;> omega)).trans hD) (by simp <;> omega) (cell_set r1) (fun X hX => by simp [results, Tryz.results173, go_sem, hX]) (fun o => retX (by rw [hz.out]) ?_)
  refine Below.putObjStep (Below.setCell ((show Below w.heap.size w _ by (repeat' first | with_reducible (first | apply bz0 | assumption | apply bz1 | apply bz2 | apply bz3 | apply bz4 | apply bz5) | (simp <;> omega))).trans hb) (by simp <;> omega) _) (by simp <;> omega) _
 case stop =>
  rintro c' W ⟨rfl, r1, hy⟩ hb hD
  have hz := hidden hy
  have g1 := has_of_cell r1
  gi_wp2
  refine bodyPostM_cell (s := w.heap.size + 2) hD (by simp <;> omega) r1 (fun X hX => by simp [results, Tryz.results173, go_sem, hX]) (fun o => retX (by rw [hz.out]) ?_)
  refine Below.putObjStep ((show Below w.heap.size w _ by (repeat' first | with_reducible (first | apply bz0 | assumption | apply bz1 | apply bz2 | apply bz3 | apply bz4 | apply bz5) | (simp <;> omega))).trans hb) (by simp <;> omega) _
end Go.Proofs.YtekieoamelahkaaGreat

/- Whether a way is free: a way within the hall. -/
namespace Go.Proofs.YtekieoamelahkaaGreat
open Go.RowKit Go.Shelf
attribute [local go_sem] Oper.semAt_some

theorem wallsB_stop {H : Hal} {x1 y1 d1 x2 y2 d2 : Int} {j : Nat} (hj : j < H.cors.length) (h : wallB H x1 y1 d1 x2 y2 d2 j = true) : wallsB H x1 y1 d1 x2 y2 d2 = true := by
 unfold wallsB; rw [List.any_eq_true]; exact ⟨j, by simpa using hj, h⟩
theorem wallsB_end {H : Hal} {x1 y1 d1 x2 y2 d2 : Int} (h : ∀ j, j < H.cors.length → wallB H x1 y1 d1 x2 y2 d2 j = false) : wallsB H x1 y1 d1 x2 y2 d2 = false := by
 unfold wallsB; rw [List.any_eq_false]; intro j hj; simp [h j (by simpa using hj)]
theorem cansB_stop {H : Hal} {S : Stg} {x1 y1 z1 d1 x2 y2 z2 d2 : Int} {j : Nat} (hj : j < H.cans.length) (h : canB H S x1 y1 z1 d1 x2 y2 z2 d2 j = true) : cansB H S x1 y1 z1 d1 x2 y2 z2 d2 = true := by
 unfold cansB; rw [List.any_eq_true]; exact ⟨j, by simpa using hj, h⟩
theorem cansB_end {H : Hal} {S : Stg} {x1 y1 z1 d1 x2 y2 z2 d2 : Int} (h : ∀ j, j < H.cans.length → canB H S x1 y1 z1 d1 x2 y2 z2 d2 j = false) : cansB H S x1 y1 z1 d1 x2 y2 z2 d2 = false := by
 unfold cansB; rw [List.any_eq_false]; intro j hj; simp [h j (by simpa using hj)]

structure FreeI (H : Hal) (x1 y1 z1 d1 x2 y2 z2 d2 : Int) (s k : Nat) (W : World) : Prop where
 res : ∃ r, W.cell? ⟨s + 1, 0, none⟩ = some (.bool r)
 fres : W.frozen? ⟨s + 1, 0, none⟩ = false
 way : Eight x1 y1 z1 d1 x2 y2 z2 d2 s W
 none : ∀ j, j < k → wallB H x1 y1 d1 x2 y2 d2 j = false
theorem FreeI.sim {H : Hal} {x1 y1 z1 d1 x2 y2 z2 d2 : Int} {s k D : Nat} {W W' : World} (m : Sim D W W') (h : FreeI H x1 y1 z1 d1 x2 y2 z2 d2 s k W) : FreeI H x1 y1 z1 d1 x2 y2 z2 d2 s k W' :=
 ⟨let ⟨r, hr⟩ := h.res; ⟨r, m.cell hr⟩, let ⟨r, hr⟩ := h.res; m.frozen hr h.fres, h.way.sim m, h.none⟩
structure FreeX (H : Hal) (x1 y1 d1 x2 y2 d2 : Int) (s : Nat) (C : Code) (W : World) : Prop where
 ret : C = .ret
 res : W.cell? ⟨s + 1, 0, none⟩ = some (.bool false)
 yes : wallsB H x1 y1 d1 x2 y2 d2 = true
theorem FreeX.sim {H : Hal} {x1 y1 d1 x2 y2 d2 : Int} {s D : Nat} {C : Code} {W W' : World} (m : Sim D W W') (h : FreeX H x1 y1 d1 x2 y2 d2 s C W) : FreeX H x1 y1 d1 x2 y2 d2 s C W' := ⟨h.ret, m.cell h.res, h.yes⟩


def freeA (H : Hal) (b : Nat) (x1 y1 z1 d1 x2 y2 z2 d2 : Int) (s B i : Nat) : Act := { tmps := #[.pointer (some ⟨b, 0, none⟩), .agg #[.int .i64 x1, .int .i64 y1, .int .i64 z1, .int .i64 d1, .int .i64 x2, .int .i64 y2, .int .i64 z2, .int .i64 d2], undef, .pointer (some ⟨s, 0, none⟩), .pointer (some ⟨s + 1, 0, none⟩), undef, .pointer (some ⟨B, 0, none⟩), undef, undef, .pointer (some ⟨b, 0, none⟩), .agg #[.int .i64 x1, .int .i64 y1, .int .i64 z1, .int .i64 d1, .int .i64 x2, .int .i64 y2, .int .i64 z2, .int .i64 d2], .agg #[.int .i64 (x1 * d2 + x2 * d1), .int .i64 (y1 * d2 + y2 * d1), .int .i64 (z1 * d2 + z2 * d1), .int .i64 (2 * d1 * d2)], .bool true, .bool false, .bool false, .pointer (some ⟨b, 0, none⟩), .pointer (some ⟨s, 0, none⟩), .agg #[.int .i64 x1, .int .i64 y1, .int .i64 z1, .int .i64 d1], .bool true, .bool false, .bool false, .bool false, .pointer (some ⟨b, 0, none⟩), .pointer (some ⟨s, 4, none⟩), .agg #[.int .i64 x2, .int .i64 y2, .int .i64 z2, .int .i64 d2], .bool true, .bool false, .bool false, .pointer (some ⟨b, 0, none⟩), .func (.func 129) #[.pointer (some ⟨b, 0, none⟩)] #[], .int .i64 i, lineV H i, undef, undef, undef, undef, undef, undef, undef, undef, undef, undef, undef, undef, undef, undef, undef, undef, undef, undef, undef, undef, undef, undef], defers := [] }

theorem isFree_in {w : World} {b : Nat} {H : Hal} {S : Stg} (hR : Room w b H S) (hC : CorsIn H) (hN : H.cors.length ≤ 20) (hh : -5000 ≤ H.height ∧ H.height ≤ 5000) (x1 y1 z1 d1 x2 y2 z2 d2 : Int) (hd1 : 0 ≤ d1 ∧ d1 ≤ 100000) (hd2 : 0 ≤ d2 ∧ d2 ≤ 100000) (hx1 : -500000000 ≤ x1 ∧ x1 ≤ 500000000) (hy1 : -500000000 ≤ y1 ∧ y1 ≤ 500000000) (hz1 : -500000000 ≤ z1 ∧ z1 ≤ 500000000) (hx2 : -500000000 ≤ x2 ∧ x2 ≤ 500000000) (hy2 : -500000000 ≤ y2 ∧ y2 ≤ 500000000) (hz2 : -500000000 ≤ z2 ∧ z2 ≤ 500000000) (hin : insideB H x1 y1 z1 d1 x2 y2 z2 d2 = true)
 (hcn : H.cans.length ≤ 1000) (hSt : ∀ i, i < H.cans.length → i < S.hs.length ∧ 0 ≤ intAt S.hs i ∧ intAt S.hs i < (canAt H.cans i).hs.length ∧ -10000 ≤ canZ H S i ∧ canZ H S i ≤ 10000)
 (hCan : ∀ i, i < H.cans.length → (-5000 ≤ (canAt H.cans i).f.x ∧ (canAt H.cans i).f.x ≤ 5000) ∧ (-5000 ≤ (canAt H.cans i).f.y ∧ (canAt H.cans i).f.y ≤ 5000) ∧ (-5000 ≤ (canAt H.cans i).t.x ∧ (canAt H.cans i).t.x ≤ 5000) ∧ (-5000 ≤ (canAt H.cans i).t.y ∧ (canAt H.cans i).t.y ≤ 5000)) :
 Calls Tryz.prog 115 #[.pointer (some ⟨b, 0, none⟩), .agg #[.int .i64 x1, .int .i64 y1, .int .i64 z1, .int .i64 d1, .int .i64 x2, .int .i64 y2, .int .i64 z2, .int .i64 d2]] w (RetX w (.bool (!wallsB H x1 y1 d1 x2 y2 d2 && !cansB H S x1 y1 z1 d1 x2 y2 z2 d2))) := by
 have HM := hidden (fun W => middle_any x1 y1 z1 d1 x2 y2 z2 d2 W hd1 hd2 hx1 hy1 hz1 hx2 hy2 hz2)
 have hn := midn_bd hd1 hd2
 have HW := hidden (fun (W : World) (hb : Below w.heap.size w W) => isWithin_room (hR.below hb) hC hN hh _ _ _ _ hn (mid_bd hd1 hd2 hx1 hx2) (mid_bd hd1 hd2 hy1 hy2) (mid_bd hd1 hd2 hz1 hz2))
 have HL1 := hidden (fun (W : World) (hb : Below w.heap.size w W) => isLevel_any (hR.below hb) hh x1 y1 z1 d1 ⟨hd1.1, by omega⟩)
 have HL2 := hidden (fun (W : World) (hb : Below w.heap.size w W) => isLevel_any (hR.below hb) hh x2 y2 z2 d2 ⟨hd2.1, by omega⟩)
 unfold insideB at hin
 simp only [Bool.and_eq_true] at hin
 obtain ⟨q0, q1, q2⟩ := hin
 rw [q0] at HW
 rw [q1] at HL1
 rw [q2] at HL2
 refine (callsIn_wide (n := 10)).1 ?_
 refine callsIn_of_wp_marks Tryz.func115 rfl trivial ?_ rfl
 simp only [Tryz.ntmps115, nt, Nat.reduceAdd, Nat.reduceSub]
 gi_wp2
 repeat ((refine ⟨trivial, ?_⟩; first | ((with_reducible refine (callsIn_wide.2 (HM.out _)).mono ?_); rintro e w' ⟨rfl, x, rfl⟩) | ((with_reducible refine (callsIn_wide.2 (HW.out _ ?hbel)).mono ?_); (case hbel => (repeat' first | with_reducible (first | apply bz0 | assumption | apply bz1 | apply bz2 | apply bz3 | apply bz4 | apply bz5) | (simp <;> omega))); rintro e w' ⟨rfl, x, rfl⟩) | ((with_reducible refine (callsIn_wide.2 (HL1.out _ ?hbel)).mono ?_); (case hbel => (repeat' first | with_reducible (first | apply bz0 | assumption | apply bz1 | apply bz2 | apply bz3 | apply bz4 | apply bz5) | (simp <;> omega))); rintro e w' ⟨rfl, x, rfl⟩) | ((with_reducible refine (callsIn_wide.2 (HL2.out _ ?hbel)).mono ?_); (case hbel => (repeat' first | with_reducible (first | apply bz0 | assumption | apply bz1 | apply bz2 | apply bz3 | apply bz4 | apply bz5) | (simp <;> omega))); rintro e w' ⟨rfl, x, rfl⟩) | skip); gi_wp2)
 clear HM HW HL1 HL2 q0 q1 q2 hn
 refine range_outer rfl (by omega) (gf := 129) (pre := #[.pointer (some ⟨b, 0, none⟩)]) rfl trivial (enters_of Tryz.func129 (by kernel_rfl) rfl) (n₀ := w.heap.size) (by simp; omega)
  (walls_iter hR (by (repeat' first | with_reducible (first | apply bz0 | assumption | apply bz1 | apply bz2 | apply bz3 | apply bz4 | apply bz5) | (simp <;> omega))) _ (by omega)) (fun k => rfl)
  (fun i W => FreeI H x1 y1 z1 d1 x2 y2 z2 d2 w.heap.size i W) (fun C W => FreeX H x1 y1 d1 x2 y2 d2 w.heap.size C W) (fun k W W' s h => h.sim s) (fun c W W' s h => h.sim s) ?start
  (fun i a' W => ∃ B, w.heap.size + 2 ≤ B ∧ a' = freeA H b x1 y1 z1 d1 x2 y2 z2 d2 w.heap.size B i ∧ EdgeIn W B H i) (fun i a' W W' s ⟨B, h1, h2, h3⟩ => ⟨B, h1, h2, h3.sim s⟩) ?assign ?body ?done ?stop
 case start =>
  refine ⟨⟨false, by simp [go_sem]⟩, by simp [go_sem], ?_, fun j hj => absurd hj (Nat.not_lt_zero j)⟩ <;> constructor <;> simp [go_sem]
 case assign =>
  intro l i W K hi hI hb hK
  have hsz : w.heap.size + 2 ≤ W.heap.size := by have := hb.size; simp at this; omega
  simp only [wallEnc, lineV]
  gi_wp2
  exact hK _ _ (KeepsAll.alloc _ _ _) (hb.alloc (by omega) _) (hI.sim (Sim.alloc 0 _ _)) ⟨W.heap.size, by omega, rfl, EdgeIn.new _ _ _ _⟩
 case body =>
  rintro l i a' W hi hl hr ⟨⟨r, r1⟩, r2, ⟨c0, c1, c2, c3, c4, c5, c6, c7⟩, hno⟩ ⟨B, hB, rfl, ⟨b0, b1, b2, b3⟩⟩ hb
  have hsz : w.heap.size + 2 ≤ W.heap.size := by have := hb.size; simp at this; omega
  obtain ⟨m1, m2⟩ := hC i (by omega)
  obtain ⟨m3, m4⟩ := hC _ (nxt_lt (n := H.cors.length) (i := i) (by omega))
  have hW : Hid (wallB H x1 y1 d1 x2 y2 d2 i = blocksB (corAt H.cors i).x (corAt H.cors i).y (corAt H.cors (nxt H.cors.length i)).x (corAt H.cors (nxt H.cors.length i)).y x1 y1 d1 x2 y2 d2) := rfl
  clear hl hr hR
  have g1 := has_of_cell r1
  have g2 := has_of_cell c0
  have gB := has_of_cell b0
  unfold freeA lineV
  generalize (corAt H.cors i).x = p1 at *
  generalize (corAt H.cors i).y = p2 at *
  generalize (corAt H.cors (nxt H.cors.length i)).x = p3 at *
  generalize (corAt H.cors (nxt H.cors.length i)).y = p4 at *
  gi_wp2
  refine ⟨trivial, ?_⟩
  refine (callsIn_wide.2 (blocks_any p1 p2 p3 p4 m1 m2 m3 m4 x1 y1 z1 d1 x2 y2 z2 d2 _ hd1 hd2 hx1 hy1 hz1 hx2 hy2 hz2)).mono ?_
  rintro e w1 ⟨rfl, v1, rfl⟩
  cases hq : blocksB p1 p2 p3 p4 x1 y1 d1 x2 y2 d2 with
  | true =>
   rw [hq] at hW
   gi_wp2
   refine bodyQ_leaveSet (by (repeat' first | with_reducible (first | apply bz0 | assumption | apply bz1 | apply bz2 | apply bz3 | apply bz4 | apply bz5) | (simp <;> omega))) (by omega) (by simp <;> omega) (by simp <;> omega) hb (fun m => ⟨rfl, cell_set (m.cell r1), wallsB_stop hi hW.out⟩)
  | false =>
   rw [hq] at hW
   gi_wp2
   refine bodyQ_next (by (repeat' first | with_reducible (first | apply bz0 | assumption | apply bz1 | apply bz2 | apply bz3 | apply bz4 | apply bz5) | (simp <;> omega))) (by omega) hb (fun m => ⟨⟨r, m.cell r1⟩, m.frozen r1 r2, (Eight.mk c0 c1 c2 c3 c4 c5 c6 c7).sim m, fun j hj => ?_⟩)
   rcases Nat.lt_or_ge j i with h | h
   · exact hno j h
   · obtain rfl : j = i := by omega
     exact hW.out
 case stop =>
  rintro c' W ⟨rfl, r1, hy⟩ hb hD
  have hz := hidden hy
  have g1 := has_of_cell r1
  gi_wp2
  refine bodyPostM_cell (s := w.heap.size + 1) hD (by simp <;> omega) r1 (fun X hX => by simp [results, Tryz.results115, go_sem, hX]) (fun o => retX (by rw [hz.out]; simp) ?_)
  refine Below.putObjStep ((show Below w.heap.size w _ by (repeat' first | with_reducible (first | apply bz0 | assumption | apply bz1 | apply bz2 | apply bz3 | apply bz4 | apply bz5) | (simp <;> omega))).trans hb) (by simp <;> omega) _
 case done =>
  rintro W ⟨⟨r, r1⟩, r2, ⟨c0, c1, c2, c3, c4, c5, c6, c7⟩, hno⟩ hb hD
  have hz := hidden (wallsB_end hno)
  have hRW : Room W b H S := hR.below ((show Below w.heap.size w _ by (repeat' first | with_reducible (first | apply bz0 | assumption | apply bz1 | apply bz2 | apply bz3 | apply bz4 | apply bz5) | (simp <;> omega))).trans hb)
  have hRW' := hRW
  obtain ⟨v4, v5, v6, v7, v8, v9, v10, hRW'⟩ := hRW'
  obtain ⟨A, c, rfl, hS⟩ := slc_form hRW'.hal.cans
  have h7 := hRW'.c7
  have hBb := hRW'.has
  have hl := hS.1
  clear hRW' hno
  have g1 := has_of_cell r1
  have g2 := has_of_cell c0
  have hWw : Below w.heap.size w W := (show Below w.heap.size w _ by (repeat' first | with_reducible (first | apply bz0 | assumption | apply bz1 | apply bz2 | apply bz3 | apply bz4 | apply bz5) | (simp <;> omega))).trans hb
  gi_wp2
  gi_loopw [41] (fun i wr => ∃ k : Nat, i = .int .i64 k ∧ k ≤ H.cans.length ∧ Below W.heap.size W wr ∧ ∀ j, j < k → canB H S x1 y1 z1 d1 x2 y2 z2 d2 j = false) (fun i _ => H.cans.length - (intOf i).toNat)
  case atStart => exact ⟨0, rfl, Nat.zero_le _, Below.refl _ _, fun j hj => absurd hj (Nat.not_lt_zero j)⟩
  case round =>
   obtain ⟨k, rfl, hk, hbr, hno⟩ := hrel
   rcases Nat.lt_or_ge k H.cans.length with hlt | hge
   · obtain ⟨g, o, rfl, hg, hcs⟩ := can_at hS hlt
     obtain ⟨k0, k1, k2, k3, k4, k5, A', c', k6, _⟩ := hcs k hlt
     obtain ⟨t1, t2, t3, t4, t5⟩ := hSt k hlt
     obtain ⟨n1, n2, n3, n4⟩ := hCan k hlt
     have m := Sim.of_below (D := 0) hbr
     replace k0 := m.cell k0
     replace k1 := m.cell k1
     replace k2 := m.cell k2
     replace k3 := m.cell k3
     replace k4 := m.cell k4
     replace k5 := m.cell k5
     replace k6 := m.cell k6
     replace c0 := m.cell c0
     replace c1 := m.cell c1
     replace c2 := m.cell c2
     replace c3 := m.cell c3
     replace c4 := m.cell c4
     replace c5 := m.cell c5
     replace c6 := m.cell c6
     replace c7 := m.cell c7
     replace r2 := m.frozen r1 r2
     replace r1 := m.cell r1
     have HP := hidden (fun (X : World) (hX : Below wr.heap.size wr X) => canopyPlane_any (hRW.below (hbr.trans (hX.lower hbr.size))) k hlt t1 t2 t3)
     have HS := hidden (fun (X : World) => sheetOf_any (canAt H.cans k).name (canAt H.cans k).mat (canAt H.cans k).f.x (canAt H.cans k).f.y (canAt H.cans k).t.x (canAt H.cans k).t.y (.slice A' (canAt H.cans k).hs.length c') ⟨_, _, _, rfl⟩ X)
     have HB := hidden (fun (X : World) => sheetBlocks_any (min (canAt H.cans k).f.x (canAt H.cans k).t.x) (min (canAt H.cans k).f.y (canAt H.cans k).t.y) (max (canAt H.cans k).f.x (canAt H.cans k).t.x) (max (canAt H.cans k).f.y (canAt H.cans k).t.y) (by omega) (by omega) (by omega) (by omega) 2 (canZ H S k) x1 y1 z1 d1 x2 y2 z2 d2 X ⟨t4, t5⟩ hd1 hd2 hx1 hy1 hz1 hx2 hy2 hz2)
     have hCB : Hid (canB H S x1 y1 z1 d1 x2 y2 z2 d2 k = sheetBlocksB (min (canAt H.cans k).f.x (canAt H.cans k).t.x) (min (canAt H.cans k).f.y (canAt H.cans k).t.y) (max (canAt H.cans k).f.x (canAt H.cans k).t.x) (max (canAt H.cans k).f.y (canAt H.cans k).t.y) 2 (canZ H S k) x1 y1 z1 d1 x2 y2 z2 d2) := rfl
     unfold canV at HS
     have hg' : wr.Has g := Nat.lt_of_lt_of_le hg hbr.size
     have hg1 : wr.Has (w.heap.size + 1) := has_of_cell r1
     have hg2 : wr.Has w.heap.size := has_of_cell c0
     have ng : g ≠ wr.heap.size := Nat.ne_of_lt hg'
     have n1 : w.heap.size + 1 ≠ wr.heap.size := Nat.ne_of_lt hg1
     have n2 : w.heap.size ≠ wr.heap.size := Nat.ne_of_lt hg2
     have hDb := (Array.getElem?_eq_some_iff.1 hD).1
     have hD2 := (hbr.block _ hDb).trans hD
     have hWs : w.heap.size ≤ wr.heap.size := Nat.le_of_lt hg2
     have hST : Hid (canB H S x1 y1 z1 d1 x2 y2 z2 d2 k = true → cansB H S x1 y1 z1 d1 x2 y2 z2 d2 = true) := fun h => cansB_stop hlt h
     clear hcs hSt hCan hS hR hRW hC
     generalize (canAt H.cans k).name = na at *
     generalize (canAt H.cans k).mat = ma at *
     generalize (canAt H.cans k).hs.length = hl' at *
     generalize (canAt H.cans k).f.x = p1 at *
     generalize (canAt H.cans k).f.y = p2 at *
     generalize (canAt H.cans k).t.x = p3 at *
     generalize (canAt H.cans k).t.y = p4 at *
     generalize canZ H S k = zz at *
     generalize H.cans.length = nn at *
     have hk5 : (k : Int) < nn := by omega
     cases hq : sheetBlocksB (min p1 p3) (min p2 p4) (max p1 p3) (max p2 p4) 2 zz x1 y1 z1 d1 x2 y2 z2 d2 with
     | true =>
      rw [hq] at hCB HB
      gi_wp2
      refine wpIn_wide.2 ?_
      (refine tmX (by kernel_rfl) (by kernel_rfl) ?_); (repeat (first | (refine tmS rfl ?_; simp only [Act.put, List.setIfInBounds_toArray, List.set_cons_succ, List.set_cons_zero]) | (refine tmP rfl rfl rfl (fun K hK => ?_); go_big_quiet_op; refine hK _ ?_; clear hK K) | (refine tmE rfl rfl (fun K hK => ?_); go_big_op; (first | (go_at_call 156; refine (HS.out _).mono ?_; rintro e w' ⟨rfl, v1, rfl⟩) | (go_at_call 158; refine (HP.out _ (by (repeat' first | with_reducible (first | apply bz0 | assumption | apply bz1 | apply bz2 | apply bz3 | apply bz4 | apply bz5) | (simp <;> omega)))).mono ?_; rintro e w' ⟨rfl, v2, rfl⟩) | (go_at_call 157; refine (HB.out _).mono ?_; rintro e w' ⟨rfl, v3, rfl⟩) | skip); (refine hK _ _ rfl (ext_of_below (by (repeat' first | with_reducible (first | apply bz0 | assumption | apply bz1 | apply bz2 | apply bz3 | apply bz4 | apply bz5) | (simp <;> omega)))) ?_; clear hK K)))); (refine tmN ?_)
      gi_wp2
      have hz2 := hidden (hST.out hCB.out)
      have hDlt := (Array.getElem?_eq_some_iff.1 hD2).1
      refine bodyPostM_cell (s := w.heap.size + 1) ((Below.heap_setCell _ _ _ _ (by simp <;> omega)).trans (((show Below wr.heap.size wr _ by (repeat' first | with_reducible (first | apply bz0 | assumption | apply bz1 | apply bz2 | apply bz3 | apply bz4 | apply bz5) | (simp <;> omega))).block _ hDlt).trans hD2)) (by simp <;> omega) (cell_set ((Sim.of_below (D := 0) (by (repeat' first | with_reducible (first | apply bz0 | assumption | apply bz1 | apply bz2 | apply bz3 | apply bz4 | apply bz5) | (simp <;> omega)))).cell r1)) (fun X hX => by simp [results, Tryz.results115, go_sem, hX]) (fun o => retX (by rw [hz2.out]; simp) ?_)
      refine Below.putObjStep (Below.setCell ((hWw.trans (hbr.lower hWw.size)).trans (Below.lower (D := wr.heap.size) (by (repeat' first | with_reducible (first | apply bz0 | assumption | apply bz1 | apply bz2 | apply bz3 | apply bz4 | apply bz5) | (simp <;> omega))) hWs)) (by simp <;> omega) _) (by simp <;> omega) _
     | false =>
      rw [hq] at hCB HB
      gi_wp2
      refine wpIn_wide.2 ?_
      (refine tmX (by kernel_rfl) (by kernel_rfl) ?_); (repeat (first | (refine tmS rfl ?_; simp only [Act.put, List.setIfInBounds_toArray, List.set_cons_succ, List.set_cons_zero]) | (refine tmP rfl rfl rfl (fun K hK => ?_); go_big_quiet_op; refine hK _ ?_; clear hK K) | (refine tmE rfl rfl (fun K hK => ?_); go_big_op; (first | (go_at_call 156; refine (HS.out _).mono ?_; rintro e w' ⟨rfl, v1, rfl⟩) | (go_at_call 158; refine (HP.out _ (by (repeat' first | with_reducible (first | apply bz0 | assumption | apply bz1 | apply bz2 | apply bz3 | apply bz4 | apply bz5) | (simp <;> omega)))).mono ?_; rintro e w' ⟨rfl, v2, rfl⟩) | (go_at_call 157; refine (HB.out _).mono ?_; rintro e w' ⟨rfl, v3, rfl⟩) | skip); (refine hK _ _ rfl (ext_of_below (by (repeat' first | with_reducible (first | apply bz0 | assumption | apply bz1 | apply bz2 | apply bz3 | apply bz4 | apply bz5) | (simp <;> omega)))) ?_; clear hK K)))); (refine tmN ?_)
      gi_wp2
      go_roundw
      case rel => 
       refine ⟨k + 1, by go_num, by omega, hbr.trans (Below.lower (D := wr.heap.size) (by (repeat' first | with_reducible (first | apply bz0 | assumption | apply bz1 | apply bz2 | apply bz3 | apply bz4 | apply bz5) | (simp <;> omega))) hbr.size), fun j hj => ?_⟩
       rcases Nat.lt_or_ge j k with h | h
       · exact hno j h
       · obtain rfl : j = k := by omega
         exact hCB.out
      case measure => simp [intOf]; omega
   · obtain rfl : k = H.cans.length := by omega
     have hz2 := hidden (cansB_end hno)
     have m := Sim.of_below (D := 0) hbr
     replace r2 := m.frozen r1 r2
     replace r1 := m.cell r1
     replace g1 := has_of_cell r1
     gi_wp2
     have hDlt := (Array.getElem?_eq_some_iff.1 hD).1
     refine bodyPostM_cell (s := w.heap.size + 1) ((Below.heap_setCell _ _ _ _ (by simp <;> omega)).trans ((hbr.block _ hDlt).trans hD)) (by simp <;> omega) (cell_set r1) (fun X hX => by simp [results, Tryz.results115, go_sem, hX]) (fun o => retX (by rw [hz.out, hz2.out]; simp) ?_)
     refine Below.putObjStep (Below.setCell (hWw.trans (hbr.lower hWw.size)) (by simp <;> omega) _) (by simp <;> omega) _

theorem isFree_room {w : World} {b : Nat} {H : Hal} {S : Stg} (hR : Room w b H S) (hC : CorsIn H) (hN : H.cors.length ≤ 20) (hh : -5000 ≤ H.height ∧ H.height ≤ 5000) (x1 y1 z1 d1 x2 y2 z2 d2 : Int) (hd1 : 0 ≤ d1 ∧ d1 ≤ 100000) (hd2 : 0 ≤ d2 ∧ d2 ≤ 100000) (hx1 : -500000000 ≤ x1 ∧ x1 ≤ 500000000) (hy1 : -500000000 ≤ y1 ∧ y1 ≤ 500000000) (hz1 : -500000000 ≤ z1 ∧ z1 ≤ 500000000) (hx2 : -500000000 ≤ x2 ∧ x2 ≤ 500000000) (hy2 : -500000000 ≤ y2 ∧ y2 ≤ 500000000) (hz2 : -500000000 ≤ z2 ∧ z2 ≤ 500000000)
 (hcn : H.cans.length ≤ 1000) (hSt : ∀ i, i < H.cans.length → i < S.hs.length ∧ 0 ≤ intAt S.hs i ∧ intAt S.hs i < (canAt H.cans i).hs.length ∧ -10000 ≤ canZ H S i ∧ canZ H S i ≤ 10000)
 (hCan : ∀ i, i < H.cans.length → (-5000 ≤ (canAt H.cans i).f.x ∧ (canAt H.cans i).f.x ≤ 5000) ∧ (-5000 ≤ (canAt H.cans i).f.y ∧ (canAt H.cans i).f.y ≤ 5000) ∧ (-5000 ≤ (canAt H.cans i).t.x ∧ (canAt H.cans i).t.x ≤ 5000) ∧ (-5000 ≤ (canAt H.cans i).t.y ∧ (canAt H.cans i).t.y ≤ 5000)) :
 Calls Tryz.prog 115 #[.pointer (some ⟨b, 0, none⟩), .agg #[.int .i64 x1, .int .i64 y1, .int .i64 z1, .int .i64 d1, .int .i64 x2, .int .i64 y2, .int .i64 z2, .int .i64 d2]] w (RetX w (.bool (freeB H S x1 y1 z1 d1 x2 y2 z2 d2))) := by
 unfold freeB
 cases h : insideB H x1 y1 z1 d1 x2 y2 z2 d2 with
 | false => exact isFree_out hR hC hN hh x1 y1 z1 d1 x2 y2 z2 d2 hd1 hd2 hx1 hy1 hz1 hx2 hy2 hz2 h
 | true => exact isFree_in hR hC hN hh x1 y1 z1 d1 x2 y2 z2 d2 hd1 hd2 hx1 hy1 hz1 hx2 hy2 hz2 h hcn hSt hCan
end Go.Proofs.YtekieoamelahkaaGreat
