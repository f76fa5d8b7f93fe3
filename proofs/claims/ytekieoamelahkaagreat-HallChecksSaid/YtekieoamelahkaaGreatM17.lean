/- checkInside. -/
import Derived.Test.YtekieoamelahkaaGreatM15
import Derived.Test.YtekieoamelahkaaGreatM14
import Derived.Test.YtekieoamelahkaaGreatM06
import Derived.RegionIn
import Derived.Test.YtekieoamelahkaaGreatM12
import Derived.Test.YtekieoamelahkaaGreatM16
set_option maxRecDepth 100000
set_option maxHeartbeats 1000000
set_option linter.unusedVariables false
set_option linter.unusedSimpArgs false
namespace Go.Proofs.YtekieoamelahkaaGreat
open Go.RowKit

theorem slc3 {W : World} {B : Nat} {x y z : Int} (h0 : W.cell? ⟨B, 0, none⟩ = some (.int .i64 x)) (h1 : W.cell? ⟨B, 1, none⟩ = some (.int .i64 y)) (h2 : W.cell? ⟨B, 2, none⟩ = some (.int .i64 z)) : SlcAt encInt W (.slice (some ⟨B, 0, none⟩) 3 3) [x, y, z] := by
 refine ⟨by simp, _, _, rfl, fun _ => ⟨B, 0, rfl, has_of_cell h0, fun i v hi j hj => ?_⟩⟩
 have hj0 : j = 0 := by have : j < 1 := hj; omega
 subst hj0
 rcases i with _ | _ | _ | i
 · simp at hi; subst hi; exact ⟨_, h0, rfl⟩
 · simp at hi; subst hi; exact ⟨_, h1, rfl⟩
 · simp at hi; subst hi; exact ⟨_, h2, rfl⟩
 · simp at hi

def insideE (H : Hal) (x y z : Int) : Int := if beyondB 5000 [x, y, z] then 2 else if withinB H x y z 1 then 0 else 24

theorem beyond3 {x y z : Int} (h : beyondB 5000 [x, y, z] = false) : (-5000 ≤ x ∧ x ≤ 5000) ∧ (-5000 ≤ y ∧ y ≤ 5000) ∧ (-5000 ≤ z ∧ z ≤ 5000) := by
 simp [beyondB, outB] at h
 omega

theorem checkInside_room {w : World} {b : Nat} {H : Hal} {S : Stg} (hR : Room w b H S) (hC : CorsIn H) (hN : H.cors.length ≤ 20) (hh : -5000 ≤ H.height ∧ H.height ≤ 5000) (x y z : Int) :
 Calls Tryz.prog 136 #[.pointer (some ⟨b, 0, none⟩), .agg #[.int .i64 x, .int .i64 y, .int .i64 z]] w (RetX w (.int .i64 (insideE H x y z))) := by
 have HE : Hid (insideE H x y z = if beyondB 5000 [x, y, z] then 2 else if withinB H x y z 1 then 0 else 24) := rfl
 have HY := hidden (fun (W : World) (B : Nat) (h0 : W.cell? ⟨B, 0, none⟩ = some (.int .i64 x)) (h1 : W.cell? ⟨B, 1, none⟩ = some (.int .i64 y)) (h2 : W.cell? ⟨B, 2, none⟩ = some (.int .i64 z)) => beyond_any 5000 (by omega) [x, y, z] (some ⟨B, 0, none⟩) 3 W (slc3 h0 h1 h2))
 cases hb : beyondB 5000 [x, y, z] with
 | true =>
  rw [hb] at HE HY
  go_enter Tryz.func136, Tryz.ntmps136
  go_wp2_with (first | (go_at_call 105; refine (HY.out _ _ (by simp [go_sem]) (by simp [go_sem]) (by simp [go_sem])).mono ?_; rintro e w' ⟨rfl, x1, rfl⟩))
  go_ret
  refine retX_int (by rw [HE.out]; simp) ?_
  (repeat' first | with_reducible (first | apply bz0 | assumption | apply bz1 | apply bz2 | apply bz3 | apply bz4 | apply bz5) | (simp <;> omega))
 | false =>
  obtain ⟨b1, b2, b3⟩ := beyond3 hb
  have HI := hidden (fun (W : World) (hb : Below w.heap.size w W) => isWithin_room (hR.below hb) hC hN hh x y z 1 (by omega) (by omega) (by omega) (by omega))
  rw [hb] at HE HY
  cases hi : withinB H x y z 1
  all_goals
   rw [hi] at HE HI
   go_enter Tryz.func136, Tryz.ntmps136
   go_wp2_with (first | (go_at_call 105; refine (HY.out _ _ (by simp [go_sem]) (by simp [go_sem]) (by simp [go_sem])).mono ?_; rintro e w' ⟨rfl, x1, rfl⟩) | (go_at_call 119; refine (pointOf_any _ _ _ _).mono ?_; rintro e w' ⟨rfl, x2, rfl⟩) | (go_at_call 112; refine (HI.out _ (by (repeat' first | with_reducible (first | apply bz0 | assumption | apply bz1 | apply bz2 | apply bz3 | apply bz4 | apply bz5) | (simp <;> omega)))).mono ?_; rintro e w' ⟨rfl, x3, rfl⟩))
   go_ret
   refine retX_int (by rw [HE.out]; simp) ?_
   (repeat' first | with_reducible (first | apply bz0 | assumption | apply bz1 | apply bz2 | apply bz3 | apply bz4 | apply bz5) | (simp <;> omega))
end Go.Proofs.YtekieoamelahkaaGreat

/- The iterator over the rims of a sheet. -/
namespace Go.Proofs.YtekieoamelahkaaGreat
open Go.RowKit Go.Shelf
attribute [local go_sem] Oper.semAt_some

def rimX1 (a b c d : Int) (k : Nat) : Int := if k = 0 ∨ k = 3 then a else c
def rimY1 (a b c d : Int) (k : Nat) : Int := if k = 0 ∨ k = 1 then b else d
def rimX2 (a b c d : Int) (k : Nat) : Int := if k = 2 ∨ k = 3 then a else c
def rimY2 (a b c d : Int) (k : Nat) : Int := if k = 0 ∨ k = 3 then b else d
def rimV (a b c d : Int) (k : Nat) : Value := .agg #[.int .i64 (rimX1 a b c d k), .int .i64 (rimY1 a b c d k), .int .i64 (rimX2 a b c d k), .int .i64 (rimY2 a b c d k)]
def rimEnc (a b c d : Int) (k : Nat) : Array Value := #[rimV a b c d k]

structure RimCells (a b c d : Int) (B : Nat) (W : World) : Prop where
 c0 : W.cell? ⟨B, 0, none⟩ = some (.int .i64 a)
 c1 : W.cell? ⟨B, 1, none⟩ = some (.int .i64 b)
 c2 : W.cell? ⟨B, 2, none⟩ = some (.int .i64 c)
 c3 : W.cell? ⟨B, 3, none⟩ = some (.int .i64 b)
 c4 : W.cell? ⟨B, 4, none⟩ = some (.int .i64 c)
 c5 : W.cell? ⟨B, 5, none⟩ = some (.int .i64 d)
 c6 : W.cell? ⟨B, 6, none⟩ = some (.int .i64 a)
 c7 : W.cell? ⟨B, 7, none⟩ = some (.int .i64 d)
theorem RimCells.keep {a b c d : Int} {B D : Nat} {W1 W2 W3 : World} (h : RimCells a b c d B W1) (hb : Below W1.heap.size W1 W2) (hk : KeepsAll D W2 W3) (hD : D ≤ B) : RimCells a b c d B W3 := by
 constructor
 · exact hk.cell hD ((Sim.of_below (D := 0) hb).cell h.c0)
 · exact hk.cell hD ((Sim.of_below (D := 0) hb).cell h.c1)
 · exact hk.cell hD ((Sim.of_below (D := 0) hb).cell h.c2)
 · exact hk.cell hD ((Sim.of_below (D := 0) hb).cell h.c3)
 · exact hk.cell hD ((Sim.of_below (D := 0) hb).cell h.c4)
 · exact hk.cell hD ((Sim.of_below (D := 0) hb).cell h.c5)
 · exact hk.cell hD ((Sim.of_below (D := 0) hb).cell h.c6)
 · exact hk.cell hD ((Sim.of_below (D := 0) hb).cell h.c7)

theorem rims_iter (a b c d : Int) {w w' : World} (hw : Below w.heap.size w w') (n : Nat) (hn : 1 ≤ n) :
 IterP Fence.wide n Tryz.prog 185 #[.agg #[.int .i64 a, .int .i64 b, .int .i64 c, .int .i64 d]] (rimEnc a b c d) 4 w.heap.size w' := by
 intro l J Jx W hJ hJx hb hY h0
 refine callsIn_of_wp Tryz.func185 rfl trivial ?_ rfl
 simp only [Tryz.ntmps185, nt, Nat.reduceAdd, Nat.reduceSub]
 gi_wp2
 have i0 : ∀ w : World, (Instr.index 218 (.agg #[.int .i64 a, .int .i64 b, .int .i64 c, .int .i64 b, .int .i64 c, .int .i64 d, .int .i64 a, .int .i64 d]) (.int .i64 0)).run Tryz.prog w = .ok (.agg #[.int .i64 a, .int .i64 b]) w := fun _ => by kernel_rfl
 have i1 : ∀ w : World, (Instr.index 218 (.agg #[.int .i64 a, .int .i64 b, .int .i64 c, .int .i64 b, .int .i64 c, .int .i64 d, .int .i64 a, .int .i64 d]) (.int .i64 1)).run Tryz.prog w = .ok (.agg #[.int .i64 c, .int .i64 b]) w := fun _ => by kernel_rfl
 have i2 : ∀ w : World, (Instr.index 218 (.agg #[.int .i64 a, .int .i64 b, .int .i64 c, .int .i64 b, .int .i64 c, .int .i64 d, .int .i64 a, .int .i64 d]) (.int .i64 2)).run Tryz.prog w = .ok (.agg #[.int .i64 c, .int .i64 d]) w := fun _ => by kernel_rfl
 have i3 : ∀ w : World, (Instr.index 218 (.agg #[.int .i64 a, .int .i64 b, .int .i64 c, .int .i64 b, .int .i64 c, .int .i64 d, .int .i64 a, .int .i64 d]) (.int .i64 3)).run Tryz.prog w = .ok (.agg #[.int .i64 a, .int .i64 d]) w := fun _ => by kernel_rfl
 have q1 : (IntKind.i64.wrap 1).tmod 4 = 1 := by decide
 have q2 : (IntKind.i64.wrap 2).tmod 4 = 2 := by decide
 have q3 : (IntKind.i64.wrap 3).tmod 4 = 3 := by decide
 have q4 : (IntKind.i64.wrap 4).tmod 4 = 0 := by decide
 have r1 : IntKind.i64.wrap 1 = 1 := by decide
 have r2 : IntKind.i64.wrap 2 = 2 := by decide
 have r3 : IntKind.i64.wrap 3 = 3 := by decide
 have r4 : IntKind.i64.wrap 4 = 4 := by decide
 gi_loopw [27] (fun i wr => ∃ k : Nat, i = .int .i64 k ∧ k ≤ 4 ∧ RimCells a b c d (W.heap.size + 1) wr ∧ J k wr ∧ Below w.heap.size w' wr) (fun i _ => 4 - (intOf i).toNat)
 case atStart => 
  refine ⟨0, rfl, Nat.zero_le _, by constructor <;> simp [go_sem], ?_, (hb.alloc (Nat.le_trans hw.size hb.size) _).alloc (by have := Nat.le_trans hw.size hb.size; simp; omega) _⟩
  obtain ⟨x, hx⟩ := ext_of_below (((Below.refl W.heap.size W).alloc (Nat.le_refl _) (.cells #[.int .i64 a, .int .i64 b, .int .i64 c, .int .i64 d] 199)).alloc (by simp) (.cells #[.int .i64 a, .int .i64 b, .int .i64 c, .int .i64 b, .int .i64 c, .int .i64 d, .int .i64 a, .int .i64 d] 218))
  rw [hx]
  exact hJ _ _ _ h0
 case round =>
  obtain ⟨k, rfl, hk, hrc, hj, hbr⟩ := hrel
  have hrc' := hrc
  obtain ⟨c0, c1, c2, c3, c4, c5, c6, c7⟩ := hrc'
  have hB : W.heap.size + 1 < wr.heap.size := has_of_cell c0
  have hH : wr.Has (W.heap.size + 1) := hB
  rcases Nat.lt_or_ge k 4 with hlt | hge
  · have hk4 : k = 0 ∨ k = 1 ∨ k = 2 ∨ k = 3 := by omega
    rcases hk4 with rfl | rfl | rfl | rfl
    · gi_wp2
      have hYk : ∀ W1, Below wr.heap.size wr W1 → YieldAt Fence.wide (n - 1) Tryz.prog l #[.agg #[.int .i64 a, .int .i64 b, .int .i64 c, .int .i64 b]] W1 fun e W' => Below w.heap.size w' W' ∧ RimCells a b c d (W.heap.size + 1) W' ∧ ((e = .returned (.bool true) ∧ J 1 W') ∨ (e = .returned (.bool false) ∧ Jx W')) := fun W1 h1 => by
       have h1' := h1
       obtain ⟨x, rfl⟩ := ext_of_below h1
       obtain ⟨fn, tmps, assign, body, hy, hRd⟩ := hY 0 _ hlt (hJ _ _ x hj) (hbr.extStep (Nat.le_trans hw.size hbr.size) x)
       exact ⟨fn, tmps, assign, body, hy, hRd.mono (fun e W' h => ⟨h.1.1, hrc.keep h1' h.1.2 (by omega), h.2⟩)⟩
      refine wpIn_region_any (by kernel_rfl) ?_
      change wpAnyIn _ _ _ _ _ _ _ _ _ (World.drew _)
      (refine wpAnyIn_take (i := 0) (v := ?_) rfl rfl (by kernel_rfl) (by kernel_rfl) (by kernel_rfl) (fun _ _ _ h => h) ⟨Or.inl ⟨by rfl, ?hy⟩, fun _ => rfl⟩ ?_); (case hy => (intro w; go_simp; try (with_reducible rfl)))
      (refine wpAnyIn_take (i := 2) (v := ?_) rfl rfl (by kernel_rfl) (by kernel_rfl) (by kernel_rfl) (fun _ _ _ h => h) ⟨Or.inl ⟨by rfl, ?hy⟩, fun _ => rfl⟩ ?_); (case hy => (intro w; go_simp; try (with_reducible rfl)))
      (refine wpAnyIn_take (i := 3) (v := ?_) rfl rfl (by kernel_rfl) (by kernel_rfl) (by kernel_rfl) (fun _ _ _ h => h) ⟨Or.inl ⟨by rfl, ?hy⟩, fun _ => rfl⟩ ?_); (case hy => (intro w; go_simp; try (with_reducible rfl)))
      (refine wpAnyIn_take (i := 4) (v := ?_) rfl rfl (by kernel_rfl) (by kernel_rfl) (by kernel_rfl) (fun _ _ _ h => h) ⟨Or.inl ⟨by rfl, ?hy⟩, fun _ => rfl⟩ ?_); (case hy => (intro w; go_simp; try (with_reducible rfl)))
      (refine wpAnyIn_take (i := 5) (v := ?_) rfl rfl (by kernel_rfl) (by kernel_rfl) (by kernel_rfl) (fun _ _ _ h => h) ⟨Or.inl ⟨by rfl, ?hy⟩, fun _ => rfl⟩ ?_); (case hy => (intro w; go_simp; try (with_reducible rfl)))
      refine wpAnyIn_ready (rs := [1, 6]) (by kernel_rfl) (by simp) ?_
      refine AllReadyIn.cons rfl (fun K hK => ?_) (AllReadyIn.cons rfl (fun K hK => ?_) AllReadyIn.nil)
      · go_simp
        refine hK _ _ ?_
        clear hK K
        refine wpAnyIn_ready (rs := [6]) (by kernel_rfl) (by simp) ?_
        refine AllReadyIn.cons rfl (fun K hK => ?_) AllReadyIn.nil
        go_simp
        refine hK _ _ ?_
        clear hK K
        (refine wpAnyIn_take (i := 7) (v := ?_) rfl rfl (by kernel_rfl) (by kernel_rfl) (by kernel_rfl) (fun _ _ _ h => h) ⟨Or.inl ⟨by rfl, ?hy⟩, fun _ => rfl⟩ ?_); (case hy => (intro w; go_simp; try (with_reducible rfl)))
        refine wpAnyIn_ready (rs := [8]) (by kernel_rfl) (by simp) ?_
        refine AllReadyIn.cons rfl (fun K hK => ?_) AllReadyIn.nil
        go_simp
        refine uponIn_yieldAt (hYk _ ?_) (fun h => (by have h0 : Fence.wide.depth.isSome = true := h; exact absurd h0 (by decide))) ?_
        · (repeat' first | with_reducible (first | apply bz0 | assumption | apply bz1 | apply bz2 | apply bz3 | apply bz4 | apply bz5) | (simp <;> omega))
        rintro e W3 ⟨hb3, hc3, (⟨rfl, hJ'⟩ | ⟨rfl, hJx'⟩)⟩
        · refine ⟨_, rfl, hK _ _ ?_⟩
          clear hK K
          (refine wpAnyIn_take (i := 9) (v := ?_) rfl rfl (by kernel_rfl) (by kernel_rfl) (by kernel_rfl) (fun _ _ _ h => h) ⟨Or.inl ⟨by rfl, ?hy⟩, fun _ => rfl⟩ ?_); (case hy => (intro w; go_simp; try (with_reducible rfl)))
          refine wpAnyIn_done (by kernel_rfl) ?_ _
          gi_wp2
          go_roundw
          case rel => exact ⟨1, by go_num, by omega, hc3, hJ', hb3⟩
          case measure => simp [intOf]
        · refine ⟨_, rfl, hK _ _ ?_⟩
          clear hK K
          (refine wpAnyIn_take (i := 9) (v := ?_) rfl rfl (by kernel_rfl) (by kernel_rfl) (by kernel_rfl) (fun _ _ _ h => h) ⟨Or.inl ⟨by rfl, ?hy⟩, fun _ => rfl⟩ ?_); (case hy => (intro w; go_simp; try (with_reducible rfl)))
          refine wpAnyIn_done (by kernel_rfl) ?_ _
          gi_wp2
          refine bodyPost_ret (results_none rfl _ _ _) rfl ?_
          exact ⟨⟨_, rfl⟩, hb3, .inr hJx'⟩
      · go_simp
        refine hK _ _ ?_
        clear hK K
        refine wpAnyIn_ready (rs := [1]) (by kernel_rfl) (by simp) ?_
        refine AllReadyIn.cons rfl (fun K hK => ?_) AllReadyIn.nil
        go_simp
        refine hK _ _ ?_
        clear hK K
        (refine wpAnyIn_take (i := 7) (v := ?_) rfl rfl (by kernel_rfl) (by kernel_rfl) (by kernel_rfl) (fun _ _ _ h => h) ⟨Or.inl ⟨by rfl, ?hy⟩, fun _ => rfl⟩ ?_); (case hy => (intro w; go_simp; try (with_reducible rfl)))
        refine wpAnyIn_ready (rs := [8]) (by kernel_rfl) (by simp) ?_
        refine AllReadyIn.cons rfl (fun K hK => ?_) AllReadyIn.nil
        go_simp
        refine uponIn_yieldAt (hYk _ ?_) (fun h => (by have h0 : Fence.wide.depth.isSome = true := h; exact absurd h0 (by decide))) ?_
        · (repeat' first | with_reducible (first | apply bz0 | assumption | apply bz1 | apply bz2 | apply bz3 | apply bz4 | apply bz5) | (simp <;> omega))
        rintro e W3 ⟨hb3, hc3, (⟨rfl, hJ'⟩ | ⟨rfl, hJx'⟩)⟩
        · refine ⟨_, rfl, hK _ _ ?_⟩
          clear hK K
          (refine wpAnyIn_take (i := 9) (v := ?_) rfl rfl (by kernel_rfl) (by kernel_rfl) (by kernel_rfl) (fun _ _ _ h => h) ⟨Or.inl ⟨by rfl, ?hy⟩, fun _ => rfl⟩ ?_); (case hy => (intro w; go_simp; try (with_reducible rfl)))
          refine wpAnyIn_done (by kernel_rfl) ?_ _
          gi_wp2
          go_roundw
          case rel => exact ⟨1, by go_num, by omega, hc3, hJ', hb3⟩
          case measure => simp [intOf]
        · refine ⟨_, rfl, hK _ _ ?_⟩
          clear hK K
          (refine wpAnyIn_take (i := 9) (v := ?_) rfl rfl (by kernel_rfl) (by kernel_rfl) (by kernel_rfl) (fun _ _ _ h => h) ⟨Or.inl ⟨by rfl, ?hy⟩, fun _ => rfl⟩ ?_); (case hy => (intro w; go_simp; try (with_reducible rfl)))
          refine wpAnyIn_done (by kernel_rfl) ?_ _
          gi_wp2
          refine bodyPost_ret (results_none rfl _ _ _) rfl ?_
          exact ⟨⟨_, rfl⟩, hb3, .inr hJx'⟩
    · gi_wp2
      have hYk : ∀ W1, Below wr.heap.size wr W1 → YieldAt Fence.wide (n - 1) Tryz.prog l #[.agg #[.int .i64 c, .int .i64 b, .int .i64 c, .int .i64 d]] W1 fun e W' => Below w.heap.size w' W' ∧ RimCells a b c d (W.heap.size + 1) W' ∧ ((e = .returned (.bool true) ∧ J 2 W') ∨ (e = .returned (.bool false) ∧ Jx W')) := fun W1 h1 => by
       have h1' := h1
       obtain ⟨x, rfl⟩ := ext_of_below h1
       obtain ⟨fn, tmps, assign, body, hy, hRd⟩ := hY 1 _ hlt (hJ _ _ x hj) (hbr.extStep (Nat.le_trans hw.size hbr.size) x)
       exact ⟨fn, tmps, assign, body, hy, hRd.mono (fun e W' h => ⟨h.1.1, hrc.keep h1' h.1.2 (by omega), h.2⟩)⟩
      refine wpIn_region_any (by kernel_rfl) ?_
      change wpAnyIn _ _ _ _ _ _ _ _ _ (World.drew _)
      (refine wpAnyIn_take (i := 0) (v := ?_) rfl rfl (by kernel_rfl) (by kernel_rfl) (by kernel_rfl) (fun _ _ _ h => h) ⟨Or.inl ⟨by rfl, ?hy⟩, fun _ => rfl⟩ ?_); (case hy => (intro w; go_simp; try (with_reducible rfl)))
      (refine wpAnyIn_take (i := 2) (v := ?_) rfl rfl (by kernel_rfl) (by kernel_rfl) (by kernel_rfl) (fun _ _ _ h => h) ⟨Or.inl ⟨by rfl, ?hy⟩, fun _ => rfl⟩ ?_); (case hy => (intro w; go_simp; try (with_reducible rfl)))
      (refine wpAnyIn_take (i := 3) (v := ?_) rfl rfl (by kernel_rfl) (by kernel_rfl) (by kernel_rfl) (fun _ _ _ h => h) ⟨Or.inl ⟨by rfl, ?hy⟩, fun _ => rfl⟩ ?_); (case hy => (intro w; go_simp; try (with_reducible rfl)))
      (refine wpAnyIn_take (i := 4) (v := ?_) rfl rfl (by kernel_rfl) (by kernel_rfl) (by kernel_rfl) (fun _ _ _ h => h) ⟨Or.inl ⟨by rfl, ?hy⟩, fun _ => rfl⟩ ?_); (case hy => (intro w; go_simp; try (with_reducible rfl)))
      (refine wpAnyIn_take (i := 5) (v := ?_) rfl rfl (by kernel_rfl) (by kernel_rfl) (by kernel_rfl) (fun _ _ _ h => h) ⟨Or.inl ⟨by rfl, ?hy⟩, fun _ => rfl⟩ ?_); (case hy => (intro w; go_simp; try (with_reducible rfl)))
      refine wpAnyIn_ready (rs := [1, 6]) (by kernel_rfl) (by simp) ?_
      refine AllReadyIn.cons rfl (fun K hK => ?_) (AllReadyIn.cons rfl (fun K hK => ?_) AllReadyIn.nil)
      · go_simp
        refine hK _ _ ?_
        clear hK K
        refine wpAnyIn_ready (rs := [6]) (by kernel_rfl) (by simp) ?_
        refine AllReadyIn.cons rfl (fun K hK => ?_) AllReadyIn.nil
        go_simp
        refine hK _ _ ?_
        clear hK K
        (refine wpAnyIn_take (i := 7) (v := ?_) rfl rfl (by kernel_rfl) (by kernel_rfl) (by kernel_rfl) (fun _ _ _ h => h) ⟨Or.inl ⟨by rfl, ?hy⟩, fun _ => rfl⟩ ?_); (case hy => (intro w; go_simp; try (with_reducible rfl)))
        refine wpAnyIn_ready (rs := [8]) (by kernel_rfl) (by simp) ?_
        refine AllReadyIn.cons rfl (fun K hK => ?_) AllReadyIn.nil
        go_simp
        refine uponIn_yieldAt (hYk _ ?_) (fun h => (by have h0 : Fence.wide.depth.isSome = true := h; exact absurd h0 (by decide))) ?_
        · (repeat' first | with_reducible (first | apply bz0 | assumption | apply bz1 | apply bz2 | apply bz3 | apply bz4 | apply bz5) | (simp <;> omega))
        rintro e W3 ⟨hb3, hc3, (⟨rfl, hJ'⟩ | ⟨rfl, hJx'⟩)⟩
        · refine ⟨_, rfl, hK _ _ ?_⟩
          clear hK K
          (refine wpAnyIn_take (i := 9) (v := ?_) rfl rfl (by kernel_rfl) (by kernel_rfl) (by kernel_rfl) (fun _ _ _ h => h) ⟨Or.inl ⟨by rfl, ?hy⟩, fun _ => rfl⟩ ?_); (case hy => (intro w; go_simp; try (with_reducible rfl)))
          refine wpAnyIn_done (by kernel_rfl) ?_ _
          gi_wp2
          go_roundw
          case rel => exact ⟨2, by go_num, by omega, hc3, hJ', hb3⟩
          case measure => simp [intOf]
        · refine ⟨_, rfl, hK _ _ ?_⟩
          clear hK K
          (refine wpAnyIn_take (i := 9) (v := ?_) rfl rfl (by kernel_rfl) (by kernel_rfl) (by kernel_rfl) (fun _ _ _ h => h) ⟨Or.inl ⟨by rfl, ?hy⟩, fun _ => rfl⟩ ?_); (case hy => (intro w; go_simp; try (with_reducible rfl)))
          refine wpAnyIn_done (by kernel_rfl) ?_ _
          gi_wp2
          refine bodyPost_ret (results_none rfl _ _ _) rfl ?_
          exact ⟨⟨_, rfl⟩, hb3, .inr hJx'⟩
      · go_simp
        refine hK _ _ ?_
        clear hK K
        refine wpAnyIn_ready (rs := [1]) (by kernel_rfl) (by simp) ?_
        refine AllReadyIn.cons rfl (fun K hK => ?_) AllReadyIn.nil
        go_simp
        refine hK _ _ ?_
        clear hK K
        (refine wpAnyIn_take (i := 7) (v := ?_) rfl rfl (by kernel_rfl) (by kernel_rfl) (by kernel_rfl) (fun _ _ _ h => h) ⟨Or.inl ⟨by rfl, ?hy⟩, fun _ => rfl⟩ ?_); (case hy => (intro w; go_simp; try (with_reducible rfl)))
        refine wpAnyIn_ready (rs := [8]) (by kernel_rfl) (by simp) ?_
        refine AllReadyIn.cons rfl (fun K hK => ?_) AllReadyIn.nil
        go_simp
        refine uponIn_yieldAt (hYk _ ?_) (fun h => (by have h0 : Fence.wide.depth.isSome = true := h; exact absurd h0 (by decide))) ?_
        · (repeat' first | with_reducible (first | apply bz0 | assumption | apply bz1 | apply bz2 | apply bz3 | apply bz4 | apply bz5) | (simp <;> omega))
        rintro e W3 ⟨hb3, hc3, (⟨rfl, hJ'⟩ | ⟨rfl, hJx'⟩)⟩
        · refine ⟨_, rfl, hK _ _ ?_⟩
          clear hK K
          (refine wpAnyIn_take (i := 9) (v := ?_) rfl rfl (by kernel_rfl) (by kernel_rfl) (by kernel_rfl) (fun _ _ _ h => h) ⟨Or.inl ⟨by rfl, ?hy⟩, fun _ => rfl⟩ ?_); (case hy => (intro w; go_simp; try (with_reducible rfl)))
          refine wpAnyIn_done (by kernel_rfl) ?_ _
          gi_wp2
          go_roundw
          case rel => exact ⟨2, by go_num, by omega, hc3, hJ', hb3⟩
          case measure => simp [intOf]
        · refine ⟨_, rfl, hK _ _ ?_⟩
          clear hK K
          (refine wpAnyIn_take (i := 9) (v := ?_) rfl rfl (by kernel_rfl) (by kernel_rfl) (by kernel_rfl) (fun _ _ _ h => h) ⟨Or.inl ⟨by rfl, ?hy⟩, fun _ => rfl⟩ ?_); (case hy => (intro w; go_simp; try (with_reducible rfl)))
          refine wpAnyIn_done (by kernel_rfl) ?_ _
          gi_wp2
          refine bodyPost_ret (results_none rfl _ _ _) rfl ?_
          exact ⟨⟨_, rfl⟩, hb3, .inr hJx'⟩
    · gi_wp2
      have hYk : ∀ W1, Below wr.heap.size wr W1 → YieldAt Fence.wide (n - 1) Tryz.prog l #[.agg #[.int .i64 c, .int .i64 d, .int .i64 a, .int .i64 d]] W1 fun e W' => Below w.heap.size w' W' ∧ RimCells a b c d (W.heap.size + 1) W' ∧ ((e = .returned (.bool true) ∧ J 3 W') ∨ (e = .returned (.bool false) ∧ Jx W')) := fun W1 h1 => by
       have h1' := h1
       obtain ⟨x, rfl⟩ := ext_of_below h1
       obtain ⟨fn, tmps, assign, body, hy, hRd⟩ := hY 2 _ hlt (hJ _ _ x hj) (hbr.extStep (Nat.le_trans hw.size hbr.size) x)
       exact ⟨fn, tmps, assign, body, hy, hRd.mono (fun e W' h => ⟨h.1.1, hrc.keep h1' h.1.2 (by omega), h.2⟩)⟩
      refine wpIn_region_any (by kernel_rfl) ?_
      change wpAnyIn _ _ _ _ _ _ _ _ _ (World.drew _)
      (refine wpAnyIn_take (i := 0) (v := ?_) rfl rfl (by kernel_rfl) (by kernel_rfl) (by kernel_rfl) (fun _ _ _ h => h) ⟨Or.inl ⟨by rfl, ?hy⟩, fun _ => rfl⟩ ?_); (case hy => (intro w; go_simp; try (with_reducible rfl)))
      (refine wpAnyIn_take (i := 2) (v := ?_) rfl rfl (by kernel_rfl) (by kernel_rfl) (by kernel_rfl) (fun _ _ _ h => h) ⟨Or.inl ⟨by rfl, ?hy⟩, fun _ => rfl⟩ ?_); (case hy => (intro w; go_simp; try (with_reducible rfl)))
      (refine wpAnyIn_take (i := 3) (v := ?_) rfl rfl (by kernel_rfl) (by kernel_rfl) (by kernel_rfl) (fun _ _ _ h => h) ⟨Or.inl ⟨by rfl, ?hy⟩, fun _ => rfl⟩ ?_); (case hy => (intro w; go_simp; try (with_reducible rfl)))
      (refine wpAnyIn_take (i := 4) (v := ?_) rfl rfl (by kernel_rfl) (by kernel_rfl) (by kernel_rfl) (fun _ _ _ h => h) ⟨Or.inl ⟨by rfl, ?hy⟩, fun _ => rfl⟩ ?_); (case hy => (intro w; go_simp; try (with_reducible rfl)))
      (refine wpAnyIn_take (i := 5) (v := ?_) rfl rfl (by kernel_rfl) (by kernel_rfl) (by kernel_rfl) (fun _ _ _ h => h) ⟨Or.inl ⟨by rfl, ?hy⟩, fun _ => rfl⟩ ?_); (case hy => (intro w; go_simp; try (with_reducible rfl)))
      refine wpAnyIn_ready (rs := [1, 6]) (by kernel_rfl) (by simp) ?_
      refine AllReadyIn.cons rfl (fun K hK => ?_) (AllReadyIn.cons rfl (fun K hK => ?_) AllReadyIn.nil)
      · go_simp
        refine hK _ _ ?_
        clear hK K
        refine wpAnyIn_ready (rs := [6]) (by kernel_rfl) (by simp) ?_
        refine AllReadyIn.cons rfl (fun K hK => ?_) AllReadyIn.nil
        go_simp
        refine hK _ _ ?_
        clear hK K
        (refine wpAnyIn_take (i := 7) (v := ?_) rfl rfl (by kernel_rfl) (by kernel_rfl) (by kernel_rfl) (fun _ _ _ h => h) ⟨Or.inl ⟨by rfl, ?hy⟩, fun _ => rfl⟩ ?_); (case hy => (intro w; go_simp; try (with_reducible rfl)))
        refine wpAnyIn_ready (rs := [8]) (by kernel_rfl) (by simp) ?_
        refine AllReadyIn.cons rfl (fun K hK => ?_) AllReadyIn.nil
        go_simp
        refine uponIn_yieldAt (hYk _ ?_) (fun h => (by have h0 : Fence.wide.depth.isSome = true := h; exact absurd h0 (by decide))) ?_
        · (repeat' first | with_reducible (first | apply bz0 | assumption | apply bz1 | apply bz2 | apply bz3 | apply bz4 | apply bz5) | (simp <;> omega))
        rintro e W3 ⟨hb3, hc3, (⟨rfl, hJ'⟩ | ⟨rfl, hJx'⟩)⟩
        · refine ⟨_, rfl, hK _ _ ?_⟩
          clear hK K
          (refine wpAnyIn_take (i := 9) (v := ?_) rfl rfl (by kernel_rfl) (by kernel_rfl) (by kernel_rfl) (fun _ _ _ h => h) ⟨Or.inl ⟨by rfl, ?hy⟩, fun _ => rfl⟩ ?_); (case hy => (intro w; go_simp; try (with_reducible rfl)))
          refine wpAnyIn_done (by kernel_rfl) ?_ _
          gi_wp2
          go_roundw
          case rel => exact ⟨3, by go_num, by omega, hc3, hJ', hb3⟩
          case measure => simp [intOf]
        · refine ⟨_, rfl, hK _ _ ?_⟩
          clear hK K
          (refine wpAnyIn_take (i := 9) (v := ?_) rfl rfl (by kernel_rfl) (by kernel_rfl) (by kernel_rfl) (fun _ _ _ h => h) ⟨Or.inl ⟨by rfl, ?hy⟩, fun _ => rfl⟩ ?_); (case hy => (intro w; go_simp; try (with_reducible rfl)))
          refine wpAnyIn_done (by kernel_rfl) ?_ _
          gi_wp2
          refine bodyPost_ret (results_none rfl _ _ _) rfl ?_
          exact ⟨⟨_, rfl⟩, hb3, .inr hJx'⟩
      · go_simp
        refine hK _ _ ?_
        clear hK K
        refine wpAnyIn_ready (rs := [1]) (by kernel_rfl) (by simp) ?_
        refine AllReadyIn.cons rfl (fun K hK => ?_) AllReadyIn.nil
        go_simp
        refine hK _ _ ?_
        clear hK K
        (refine wpAnyIn_take (i := 7) (v := ?_) rfl rfl (by kernel_rfl) (by kernel_rfl) (by kernel_rfl) (fun _ _ _ h => h) ⟨Or.inl ⟨by rfl, ?hy⟩, fun _ => rfl⟩ ?_); (case hy => (intro w; go_simp; try (with_reducible rfl)))
        refine wpAnyIn_ready (rs := [8]) (by kernel_rfl) (by simp) ?_
        refine AllReadyIn.cons rfl (fun K hK => ?_) AllReadyIn.nil
        go_simp
        refine uponIn_yieldAt (hYk _ ?_) (fun h => (by have h0 : Fence.wide.depth.isSome = true := h; exact absurd h0 (by decide))) ?_
        · (repeat' first | with_reducible (first | apply bz0 | assumption | apply bz1 | apply bz2 | apply bz3 | apply bz4 | apply bz5) | (simp <;> omega))
        rintro e W3 ⟨hb3, hc3, (⟨rfl, hJ'⟩ | ⟨rfl, hJx'⟩)⟩
        · refine ⟨_, rfl, hK _ _ ?_⟩
          clear hK K
          (refine wpAnyIn_take (i := 9) (v := ?_) rfl rfl (by kernel_rfl) (by kernel_rfl) (by kernel_rfl) (fun _ _ _ h => h) ⟨Or.inl ⟨by rfl, ?hy⟩, fun _ => rfl⟩ ?_); (case hy => (intro w; go_simp; try (with_reducible rfl)))
          refine wpAnyIn_done (by kernel_rfl) ?_ _
          gi_wp2
          go_roundw
          case rel => exact ⟨3, by go_num, by omega, hc3, hJ', hb3⟩
          case measure => simp [intOf]
        · refine ⟨_, rfl, hK _ _ ?_⟩
          clear hK K
          (refine wpAnyIn_take (i := 9) (v := ?_) rfl rfl (by kernel_rfl) (by kernel_rfl) (by kernel_rfl) (fun _ _ _ h => h) ⟨Or.inl ⟨by rfl, ?hy⟩, fun _ => rfl⟩ ?_); (case hy => (intro w; go_simp; try (with_reducible rfl)))
          refine wpAnyIn_done (by kernel_rfl) ?_ _
          gi_wp2
          refine bodyPost_ret (results_none rfl _ _ _) rfl ?_
          exact ⟨⟨_, rfl⟩, hb3, .inr hJx'⟩
    · gi_wp2
      have hYk : ∀ W1, Below wr.heap.size wr W1 → YieldAt Fence.wide (n - 1) Tryz.prog l #[.agg #[.int .i64 a, .int .i64 d, .int .i64 a, .int .i64 b]] W1 fun e W' => Below w.heap.size w' W' ∧ RimCells a b c d (W.heap.size + 1) W' ∧ ((e = .returned (.bool true) ∧ J 4 W') ∨ (e = .returned (.bool false) ∧ Jx W')) := fun W1 h1 => by
       have h1' := h1
       obtain ⟨x, rfl⟩ := ext_of_below h1
       obtain ⟨fn, tmps, assign, body, hy, hRd⟩ := hY 3 _ hlt (hJ _ _ x hj) (hbr.extStep (Nat.le_trans hw.size hbr.size) x)
       exact ⟨fn, tmps, assign, body, hy, hRd.mono (fun e W' h => ⟨h.1.1, hrc.keep h1' h.1.2 (by omega), h.2⟩)⟩
      refine wpIn_region_any (by kernel_rfl) ?_
      change wpAnyIn _ _ _ _ _ _ _ _ _ (World.drew _)
      (refine wpAnyIn_take (i := 0) (v := ?_) rfl rfl (by kernel_rfl) (by kernel_rfl) (by kernel_rfl) (fun _ _ _ h => h) ⟨Or.inl ⟨by rfl, ?hy⟩, fun _ => rfl⟩ ?_); (case hy => (intro w; go_simp; try (with_reducible rfl)))
      (refine wpAnyIn_take (i := 2) (v := ?_) rfl rfl (by kernel_rfl) (by kernel_rfl) (by kernel_rfl) (fun _ _ _ h => h) ⟨Or.inl ⟨by rfl, ?hy⟩, fun _ => rfl⟩ ?_); (case hy => (intro w; go_simp; try (with_reducible rfl)))
      (refine wpAnyIn_take (i := 3) (v := ?_) rfl rfl (by kernel_rfl) (by kernel_rfl) (by kernel_rfl) (fun _ _ _ h => h) ⟨Or.inl ⟨by rfl, ?hy⟩, fun _ => rfl⟩ ?_); (case hy => (intro w; go_simp; try (with_reducible rfl)))
      (refine wpAnyIn_take (i := 4) (v := ?_) rfl rfl (by kernel_rfl) (by kernel_rfl) (by kernel_rfl) (fun _ _ _ h => h) ⟨Or.inl ⟨by rfl, ?hy⟩, fun _ => rfl⟩ ?_); (case hy => (intro w; go_simp; try (with_reducible rfl)))
      (refine wpAnyIn_take (i := 5) (v := ?_) rfl rfl (by kernel_rfl) (by kernel_rfl) (by kernel_rfl) (fun _ _ _ h => h) ⟨Or.inl ⟨by rfl, ?hy⟩, fun _ => rfl⟩ ?_); (case hy => (intro w; go_simp; try (with_reducible rfl)))
      refine wpAnyIn_ready (rs := [1, 6]) (by kernel_rfl) (by simp) ?_
      refine AllReadyIn.cons rfl (fun K hK => ?_) (AllReadyIn.cons rfl (fun K hK => ?_) AllReadyIn.nil)
      · go_simp
        refine hK _ _ ?_
        clear hK K
        refine wpAnyIn_ready (rs := [6]) (by kernel_rfl) (by simp) ?_
        refine AllReadyIn.cons rfl (fun K hK => ?_) AllReadyIn.nil
        go_simp
        refine hK _ _ ?_
        clear hK K
        (refine wpAnyIn_take (i := 7) (v := ?_) rfl rfl (by kernel_rfl) (by kernel_rfl) (by kernel_rfl) (fun _ _ _ h => h) ⟨Or.inl ⟨by rfl, ?hy⟩, fun _ => rfl⟩ ?_); (case hy => (intro w; go_simp; try (with_reducible rfl)))
        refine wpAnyIn_ready (rs := [8]) (by kernel_rfl) (by simp) ?_
        refine AllReadyIn.cons rfl (fun K hK => ?_) AllReadyIn.nil
        go_simp
        refine uponIn_yieldAt (hYk _ ?_) (fun h => (by have h0 : Fence.wide.depth.isSome = true := h; exact absurd h0 (by decide))) ?_
        · (repeat' first | with_reducible (first | apply bz0 | assumption | apply bz1 | apply bz2 | apply bz3 | apply bz4 | apply bz5) | (simp <;> omega))
        rintro e W3 ⟨hb3, hc3, (⟨rfl, hJ'⟩ | ⟨rfl, hJx'⟩)⟩
        · refine ⟨_, rfl, hK _ _ ?_⟩
          clear hK K
          (refine wpAnyIn_take (i := 9) (v := ?_) rfl rfl (by kernel_rfl) (by kernel_rfl) (by kernel_rfl) (fun _ _ _ h => h) ⟨Or.inl ⟨by rfl, ?hy⟩, fun _ => rfl⟩ ?_); (case hy => (intro w; go_simp; try (with_reducible rfl)))
          refine wpAnyIn_done (by kernel_rfl) ?_ _
          gi_wp2
          go_roundw
          case rel => exact ⟨4, by go_num, by omega, hc3, hJ', hb3⟩
          case measure => simp [intOf]
        · refine ⟨_, rfl, hK _ _ ?_⟩
          clear hK K
          (refine wpAnyIn_take (i := 9) (v := ?_) rfl rfl (by kernel_rfl) (by kernel_rfl) (by kernel_rfl) (fun _ _ _ h => h) ⟨Or.inl ⟨by rfl, ?hy⟩, fun _ => rfl⟩ ?_); (case hy => (intro w; go_simp; try (with_reducible rfl)))
          refine wpAnyIn_done (by kernel_rfl) ?_ _
          gi_wp2
          refine bodyPost_ret (results_none rfl _ _ _) rfl ?_
          exact ⟨⟨_, rfl⟩, hb3, .inr hJx'⟩
      · go_simp
        refine hK _ _ ?_
        clear hK K
        refine wpAnyIn_ready (rs := [1]) (by kernel_rfl) (by simp) ?_
        refine AllReadyIn.cons rfl (fun K hK => ?_) AllReadyIn.nil
        go_simp
        refine hK _ _ ?_
        clear hK K
        (refine wpAnyIn_take (i := 7) (v := ?_) rfl rfl (by kernel_rfl) (by kernel_rfl) (by kernel_rfl) (fun _ _ _ h => h) ⟨Or.inl ⟨by rfl, ?hy⟩, fun _ => rfl⟩ ?_); (case hy => (intro w; go_simp; try (with_reducible rfl)))
        refine wpAnyIn_ready (rs := [8]) (by kernel_rfl) (by simp) ?_
        refine AllReadyIn.cons rfl (fun K hK => ?_) AllReadyIn.nil
        go_simp
        refine uponIn_yieldAt (hYk _ ?_) (fun h => (by have h0 : Fence.wide.depth.isSome = true := h; exact absurd h0 (by decide))) ?_
        · (repeat' first | with_reducible (first | apply bz0 | assumption | apply bz1 | apply bz2 | apply bz3 | apply bz4 | apply bz5) | (simp <;> omega))
        rintro e W3 ⟨hb3, hc3, (⟨rfl, hJ'⟩ | ⟨rfl, hJx'⟩)⟩
        · refine ⟨_, rfl, hK _ _ ?_⟩
          clear hK K
          (refine wpAnyIn_take (i := 9) (v := ?_) rfl rfl (by kernel_rfl) (by kernel_rfl) (by kernel_rfl) (fun _ _ _ h => h) ⟨Or.inl ⟨by rfl, ?hy⟩, fun _ => rfl⟩ ?_); (case hy => (intro w; go_simp; try (with_reducible rfl)))
          refine wpAnyIn_done (by kernel_rfl) ?_ _
          gi_wp2
          go_roundw
          case rel => exact ⟨4, by go_num, by omega, hc3, hJ', hb3⟩
          case measure => simp [intOf]
        · refine ⟨_, rfl, hK _ _ ?_⟩
          clear hK K
          (refine wpAnyIn_take (i := 9) (v := ?_) rfl rfl (by kernel_rfl) (by kernel_rfl) (by kernel_rfl) (fun _ _ _ h => h) ⟨Or.inl ⟨by rfl, ?hy⟩, fun _ => rfl⟩ ?_); (case hy => (intro w; go_simp; try (with_reducible rfl)))
          refine wpAnyIn_done (by kernel_rfl) ?_ _
          gi_wp2
          refine bodyPost_ret (results_none rfl _ _ _) rfl ?_
          exact ⟨⟨_, rfl⟩, hb3, .inr hJx'⟩
  · obtain rfl : k = 4 := by omega
    gi_wp2
    go_end0
    exact ⟨⟨_, rfl⟩, hbr, .inl hj⟩
end Go.Proofs.YtekieoamelahkaaGreat

/- Whether a way is blocked by a sheet in a plane. -/
namespace Go.Proofs.YtekieoamelahkaaGreat
open Go.RowKit Go.Shelf
attribute [local go_sem] Oper.semAt_some

theorem bodyPostM_ret {F : Fence} {n : Nat} {P : Program} {fn : Func} {R : Ending → World → Prop} {a : Act} {w : World} {v : Value} (hr : (results fn a.tmps).run P w = .ok v w) (hd : a.defers = []) (hR : R (.returned v) w) : bodyPostM F n P fn R .ret a w := by
 cases a
 subst hd
 exact ⟨v, hr, hR⟩

def rimB (a b c d x1 y1 d1 x2 y2 d2 : Int) (k : Nat) : Bool := blocksB (rimX1 a b c d k) (rimY1 a b c d k) (rimX2 a b c d k) (rimY2 a b c d k) x1 y1 d1 x2 y2 d2
def rimsB (a b c d x1 y1 d1 x2 y2 d2 : Int) : Bool := (List.range 4).any (rimB a b c d x1 y1 d1 x2 y2 d2)
def sheetMeetB (a b c d f g x1 y1 d1 x2 y2 d2 : Int) : Bool :=
 if f < 0 ∧ 0 < g then sheetB a b c d (x2 * (-f) - x1 * (-g)) (y2 * (-f) - y1 * (-g)) (d2 * (-f) - d1 * (-g))
 else if 0 < f ∧ g < 0 then sheetB a b c d (x2 * f - x1 * g) (y2 * f - y1 * g) (d2 * f - d1 * g)
 else false
def sheetBlocksB (a b c d k A x1 y1 z1 d1 x2 y2 z2 d2 : Int) : Bool :=
 if offP k A x1 y1 z1 d1 = 0 ∧ offP k A x2 y2 z2 d2 = 0 then rimsB a b c d x1 y1 d1 x2 y2 d2 || sheetB a b c d (x1 * d2 + x2 * d1) (y1 * d2 + y2 * d1) (2 * d1 * d2)
 else sheetMeetB a b c d (offP k A x1 y1 z1 d1) (offP k A x2 y2 z2 d2) x1 y1 d1 x2 y2 d2


theorem sheetBlocks_meet (a b c d : Int) (h1 : -5000 ≤ a ∧ a ≤ 5000) (h2 : -5000 ≤ b ∧ b ≤ 5000) (h3 : -5000 ≤ c ∧ c ≤ 5000) (h4 : -5000 ≤ d ∧ d ≤ 5000) (k A x1 y1 z1 d1 x2 y2 z2 d2 : Int) (w : World) (hA : -10000 ≤ A ∧ A ≤ 10000) (hd1 : 0 ≤ d1 ∧ d1 ≤ 100000) (hd2 : 0 ≤ d2 ∧ d2 ≤ 100000) (hx1 : -500000000 ≤ x1 ∧ x1 ≤ 500000000) (hy1 : -500000000 ≤ y1 ∧ y1 ≤ 500000000) (hz1 : -500000000 ≤ z1 ∧ z1 ≤ 500000000) (hx2 : -500000000 ≤ x2 ∧ x2 ≤ 500000000) (hy2 : -500000000 ≤ y2 ∧ y2 ≤ 500000000) (hz2 : -500000000 ≤ z2 ∧ z2 ≤ 500000000) (f g : Int) (Hf : Hid (f = offP k A x1 y1 z1 d1)) (Hg : Hid (g = offP k A x2 y2 z2 d2)) (hne : ¬ (f = 0 ∧ g = 0)) :
 Calls Tryz.prog 157 #[.agg #[.int .i64 a, .int .i64 b, .int .i64 c, .int .i64 d], .agg #[.int .i64 k, .int .i64 A], .agg #[.int .i64 x1, .int .i64 y1, .int .i64 z1, .int .i64 d1, .int .i64 x2, .int .i64 y2, .int .i64 z2, .int .i64 d2]] w (RetX w (.bool (sheetMeetB a b c d f g x1 y1 d1 x2 y2 d2))) := by
 have e1 := mul_bd hA hd1 (by omega)
 have e2 := mul_bd hA hd2 (by omega)
 have O1 : ∀ W, Calls Tryz.prog 163 #[.agg #[.int .i64 k, .int .i64 A], .agg #[.int .i64 x1, .int .i64 y1, .int .i64 z1, .int .i64 d1]] W (RetX W (.int .i64 f)) := fun W => by rw [Hf.out]; exact offPlane_any k A x1 y1 z1 d1 W (by omega) (by omega) (by omega) (by omega)
 have O2 : ∀ W, Calls Tryz.prog 163 #[.agg #[.int .i64 k, .int .i64 A], .agg #[.int .i64 x2, .int .i64 y2, .int .i64 z2, .int .i64 d2]] W (RetX W (.int .i64 g)) := fun W => by rw [Hg.out]; exact offPlane_any k A x2 y2 z2 d2 W (by omega) (by omega) (by omega) (by omega)
 have HO1 := hidden O1
 have HO2 := hidden O2
 have B1 := offP_bd k A x1 y1 z1 d1 hA hd1 hx1 hy1 hz1
 have B2 := offP_bd k A x2 y2 z2 d2 hA hd2 hx2 hy2 hz2
 rw [← Hf.out] at B1; rw [← Hg.out] at B2
 clear O1 O2 e1 e2
 have cases6 : (f = 0 ∨ g = 0 ∨ (f < 0 ∧ g < 0) ∨ (0 < f ∧ 0 < g)) ∨ (f < 0 ∧ 0 < g) ∨ (0 < f ∧ g < 0) := by omega
 rcases cases6 with hn | ⟨s1, s2⟩ | ⟨s1, s2⟩
 · have M : ∀ W : World, Calls Tryz.prog 118 #[.agg #[.int .i64 k, .int .i64 A], .agg #[.int .i64 x1, .int .i64 y1, .int .i64 z1, .int .i64 d1, .int .i64 x2, .int .i64 y2, .int .i64 z2, .int .i64 d2]] W (RetX W (.tuple #[.agg #[.int .i64 0, .int .i64 0, .int .i64 0, .int .i64 0], .bool false])) := fun W =>
    meet_core _ _ _ _ _ _ _ _ _ _ W hA hd1 hd2 hx1 hy1 hz1 hx2 hy2 hz2 f g Hf Hg _ (fun _ _ _ h => h) (fun _ _ => by exfalso; omega) (fun _ _ => by exfalso; omega)
   have HM := hidden M
   have HR : Hid (sheetMeetB a b c d f g x1 y1 d1 x2 y2 d2 = false) := by unfold Hid sheetMeetB; rw [if_neg (by omega), if_neg (by omega)]
   have hD : 0 ≤ (0 : Int) ∧ (0 : Int) ≤ 1000000000000000 := by omega
   have cs : ((f != 0) = true) ∨ ((f != 0) = false ∧ (g != 0) = true) := by
    by_cases h : f = 0
    · exact .inr ⟨by simp [h], bne_iff_ne.2 (fun h' => hne ⟨h, h'⟩)⟩
    · exact .inl (bne_iff_ne.2 h)
   clear M Hf Hg hn hne hd1 hd2 hx1 hy1 hz1 hx2 hy2 hz2 hA B1 B2
   rcases cs with q1 | ⟨q1, q2⟩
   all_goals
    refine (callsIn_wide (n := 10)).1 ?_
    refine callsIn_of_wp_marks Tryz.func157 rfl trivial ?_ rfl
    simp only [Tryz.ntmps157, nt, Nat.reduceAdd, Nat.reduceSub]
    gi_wp2
    repeat ((refine ⟨trivial, ?_⟩; first | ((with_reducible refine (callsIn_wide.2 (HO1.out _)).mono ?_); rintro e w' ⟨rfl, x, rfl⟩) | ((with_reducible refine (callsIn_wide.2 (HO2.out _)).mono ?_); rintro e w' ⟨rfl, x, rfl⟩) | ((with_reducible refine (callsIn_wide.2 (HM.out _)).mono ?_); rintro e w' ⟨rfl, x, rfl⟩) | ((with_reducible refine (callsIn_wide.2 (sheet_holds_any _ _ _ _ _ _ _ _ _ h1 h2 h3 h4 hD)).mono ?_); rintro e w' ⟨rfl, x, rfl⟩) | skip); gi_wp2)
    refine bodyPostM_ret (v := .bool false) (by simp [results, Tryz.results157, go_sem]) rfl (retX (by rw [HR.out]) ?_)
    (repeat' first | with_reducible (first | apply bz0 | assumption | apply bz1 | apply bz2 | apply bz3 | apply bz4 | apply bz5) | (simp <;> omega))
 · have M : ∀ W : World, Calls Tryz.prog 118 #[.agg #[.int .i64 k, .int .i64 A], .agg #[.int .i64 x1, .int .i64 y1, .int .i64 z1, .int .i64 d1, .int .i64 x2, .int .i64 y2, .int .i64 z2, .int .i64 d2]] W (RetX W (.tuple #[.agg #[.int .i64 (x2 * (-f) - x1 * (-g)), .int .i64 (y2 * (-f) - y1 * (-g)), .int .i64 (z2 * (-f) - z1 * (-g)), .int .i64 (d2 * (-f) - d1 * (-g))], .bool true])) := fun W =>
    meet_core _ _ _ _ _ _ _ _ _ _ W hA hd1 hd2 hx1 hy1 hz1 hx2 hy2 hz2 f g Hf Hg _ (fun _ => by exfalso; omega) (fun _ _ _ _ h => h) (fun _ _ => by exfalso; omega)
   have HM := hidden M
   have HR : Hid (sheetMeetB a b c d f g x1 y1 d1 x2 y2 d2 = sheetB a b c d (x2 * (-f) - x1 * (-g)) (y2 * (-f) - y1 * (-g)) (d2 * (-f) - d1 * (-g))) := by unfold Hid sheetMeetB; rw [if_pos ⟨s1, s2⟩]
   have ha' : -2000000000 ≤ (-f) ∧ (-f) ≤ 2000000000 := by omega
   have hb' : -2000000000 ≤ (-g) ∧ (-g) ≤ 2000000000 := by omega
   have m4 := mul_sz (A := 100000) (p := d2) ⟨by omega, by omega⟩ ha' (by omega) (by omega)
   have n4 := mul_sz (A := 100000) (p := d1) ⟨by omega, by omega⟩ hb' (by omega) (by omega)
   have p4 : 0 ≤ d2 * (-f) := Int.mul_nonneg hd2.1 (by omega)
   have q4 : 0 ≤ d1 * (-(-g)) := Int.mul_nonneg hd1.1 (by omega)
   have hD : 0 ≤ d2 * (-f) - d1 * (-g) ∧ d2 * (-f) - d1 * (-g) ≤ 1000000000000000 := by rw [Int.mul_neg] at q4; omega
   have q1 : (f != 0) = true := bne_iff_ne.2 (by omega)
   generalize d2 * (-f) - d1 * (-g) = D at *
   generalize x2 * (-f) - x1 * (-g) = X at *
   generalize y2 * (-f) - y1 * (-g) = Y at *
   generalize z2 * (-f) - z1 * (-g) = Z at *
   clear M Hf Hg hne hd1 hd2 hx1 hy1 hz1 hx2 hy2 hz2 hA B1 B2 m4 n4 p4 q4 ha' hb'
   refine (callsIn_wide (n := 10)).1 ?_
   refine callsIn_of_wp_marks Tryz.func157 rfl trivial ?_ rfl
   simp only [Tryz.ntmps157, nt, Nat.reduceAdd, Nat.reduceSub]
   gi_wp2
   repeat ((refine ⟨trivial, ?_⟩; first | ((with_reducible refine (callsIn_wide.2 (HO1.out _)).mono ?_); rintro e w' ⟨rfl, x, rfl⟩) | ((with_reducible refine (callsIn_wide.2 (HO2.out _)).mono ?_); rintro e w' ⟨rfl, x, rfl⟩) | ((with_reducible refine (callsIn_wide.2 (HM.out _)).mono ?_); rintro e w' ⟨rfl, x, rfl⟩) | ((with_reducible refine (callsIn_wide.2 (sheet_holds_any _ _ _ _ _ _ _ _ _ h1 h2 h3 h4 hD)).mono ?_); rintro e w' ⟨rfl, x, rfl⟩) | skip); gi_wp2)
   refine bodyPostM_ret (v := .bool (sheetB a b c d X Y D)) (by simp [results, Tryz.results157, go_sem]) rfl (retX (by rw [HR.out]) ?_)
   (repeat' first | with_reducible (first | apply bz0 | assumption | apply bz1 | apply bz2 | apply bz3 | apply bz4 | apply bz5) | (simp <;> omega))
 · have M : ∀ W : World, Calls Tryz.prog 118 #[.agg #[.int .i64 k, .int .i64 A], .agg #[.int .i64 x1, .int .i64 y1, .int .i64 z1, .int .i64 d1, .int .i64 x2, .int .i64 y2, .int .i64 z2, .int .i64 d2]] W (RetX W (.tuple #[.agg #[.int .i64 (x2 * f - x1 * g), .int .i64 (y2 * f - y1 * g), .int .i64 (z2 * f - z1 * g), .int .i64 (d2 * f - d1 * g)], .bool true])) := fun W =>
    meet_core _ _ _ _ _ _ _ _ _ _ W hA hd1 hd2 hx1 hy1 hz1 hx2 hy2 hz2 f g Hf Hg _ (fun _ => by exfalso; omega) (fun _ _ => by exfalso; omega) (fun _ _ _ _ h => h)
   have HM := hidden M
   have HR : Hid (sheetMeetB a b c d f g x1 y1 d1 x2 y2 d2 = sheetB a b c d (x2 * f - x1 * g) (y2 * f - y1 * g) (d2 * f - d1 * g)) := by unfold Hid sheetMeetB; rw [if_neg (by omega), if_pos ⟨s1, s2⟩]
   have ha' : -2000000000 ≤ f ∧ f ≤ 2000000000 := by omega
   have hb' : -2000000000 ≤ g ∧ g ≤ 2000000000 := by omega
   have m4 := mul_sz (A := 100000) (p := d2) ⟨by omega, by omega⟩ ha' (by omega) (by omega)
   have n4 := mul_sz (A := 100000) (p := d1) ⟨by omega, by omega⟩ hb' (by omega) (by omega)
   have p4 : 0 ≤ d2 * f := Int.mul_nonneg hd2.1 (by omega)
   have q4 : 0 ≤ d1 * (-g) := Int.mul_nonneg hd1.1 (by omega)
   have hD : 0 ≤ d2 * f - d1 * g ∧ d2 * f - d1 * g ≤ 1000000000000000 := by rw [Int.mul_neg] at q4; omega
   have q1 : (f != 0) = true := bne_iff_ne.2 (by omega)
   generalize d2 * f - d1 * g = D at *
   generalize x2 * f - x1 * g = X at *
   generalize y2 * f - y1 * g = Y at *
   generalize z2 * f - z1 * g = Z at *
   clear M Hf Hg hne hd1 hd2 hx1 hy1 hz1 hx2 hy2 hz2 hA B1 B2 m4 n4 p4 q4 ha' hb'
   refine (callsIn_wide (n := 10)).1 ?_
   refine callsIn_of_wp_marks Tryz.func157 rfl trivial ?_ rfl
   simp only [Tryz.ntmps157, nt, Nat.reduceAdd, Nat.reduceSub]
   gi_wp2
   repeat ((refine ⟨trivial, ?_⟩; first | ((with_reducible refine (callsIn_wide.2 (HO1.out _)).mono ?_); rintro e w' ⟨rfl, x, rfl⟩) | ((with_reducible refine (callsIn_wide.2 (HO2.out _)).mono ?_); rintro e w' ⟨rfl, x, rfl⟩) | ((with_reducible refine (callsIn_wide.2 (HM.out _)).mono ?_); rintro e w' ⟨rfl, x, rfl⟩) | ((with_reducible refine (callsIn_wide.2 (sheet_holds_any _ _ _ _ _ _ _ _ _ h1 h2 h3 h4 hD)).mono ?_); rintro e w' ⟨rfl, x, rfl⟩) | skip); gi_wp2)
   refine bodyPostM_ret (v := .bool (sheetB a b c d X Y D)) (by simp [results, Tryz.results157, go_sem]) rfl (retX (by rw [HR.out]) ?_)
   (repeat' first | with_reducible (first | apply bz0 | assumption | apply bz1 | apply bz2 | apply bz3 | apply bz4 | apply bz5) | (simp <;> omega))
end Go.Proofs.YtekieoamelahkaaGreat

/- Whether a way in the plane of a sheet is blocked by it. -/
namespace Go.Proofs.YtekieoamelahkaaGreat
open Go.RowKit Go.Shelf
attribute [local go_sem] Oper.semAt_some

theorem bodyPostM_cell {F : Fence} {n : Nat} {P : Program} {fn : Func} {R : Ending → World → Prop} {tmps : Array Value} {D : Nat} {W : World} {s i : Nat} {u : Value} (hD : W.heap[D]? = some (.deferred (some []))) (hs : s ≠ D) (hc : W.cell? ⟨s, i, none⟩ = some u)
 (hr : ∀ X : World, X.cell? ⟨s, i, none⟩ = some u → (results fn tmps).run P X = .ok u X) (hR : ∀ o, R (.returned u) (W.putObj D o)) : bodyPostM F n P fn R .ret { tmps := tmps, defers := [{ target := .collected D, args := #[] }] } W :=
 ⟨by simp, .inl ⟨_, _, rfl, run_takeDeferred hD, ⟨u, hr _ (cell_put hs hc), hR _⟩⟩⟩

theorem rim_in {a b c d : Int} (h1 : -5000 ≤ a ∧ a ≤ 5000) (h2 : -5000 ≤ b ∧ b ≤ 5000) (h3 : -5000 ≤ c ∧ c ≤ 5000) (h4 : -5000 ≤ d ∧ d ≤ 5000) (k : Nat) :
 (-5000 ≤ rimX1 a b c d k ∧ rimX1 a b c d k ≤ 5000) ∧ (-5000 ≤ rimY1 a b c d k ∧ rimY1 a b c d k ≤ 5000) ∧ (-5000 ≤ rimX2 a b c d k ∧ rimX2 a b c d k ≤ 5000) ∧ (-5000 ≤ rimY2 a b c d k ∧ rimY2 a b c d k ≤ 5000) := by
 unfold rimX1 rimY1 rimX2 rimY2
 refine ⟨?_, ?_, ?_, ?_⟩ <;> split <;> assumption
theorem rimsB_stop {a b c d x1 y1 d1 x2 y2 d2 : Int} {j : Nat} (hj : j < 4) (h : rimB a b c d x1 y1 d1 x2 y2 d2 j = true) : rimsB a b c d x1 y1 d1 x2 y2 d2 = true := by
 unfold rimsB; rw [List.any_eq_true]; exact ⟨j, by simpa using hj, h⟩
theorem rimsB_end {a b c d x1 y1 d1 x2 y2 d2 : Int} (h : ∀ j, j < 4 → rimB a b c d x1 y1 d1 x2 y2 d2 j = false) : rimsB a b c d x1 y1 d1 x2 y2 d2 = false := by
 unfold rimsB; rw [List.any_eq_false]; intro j hj; simp [h j (by simpa using hj)]

structure Four (a b c d : Int) (B : Nat) (W : World) : Prop where
 c0 : W.cell? ⟨B, 0, none⟩ = some (.int .i64 a)
 c1 : W.cell? ⟨B, 1, none⟩ = some (.int .i64 b)
 c2 : W.cell? ⟨B, 2, none⟩ = some (.int .i64 c)
 c3 : W.cell? ⟨B, 3, none⟩ = some (.int .i64 d)
theorem Four.sim {a b c d : Int} {B D : Nat} {W W' : World} (s : Sim D W W') (h : Four a b c d B W) : Four a b c d B W' := ⟨s.cell h.c0, s.cell h.c1, s.cell h.c2, s.cell h.c3⟩
structure Eight (a b c d e f g h : Int) (B : Nat) (W : World) : Prop where
 c0 : W.cell? ⟨B, 0, none⟩ = some (.int .i64 a)
 c1 : W.cell? ⟨B, 1, none⟩ = some (.int .i64 b)
 c2 : W.cell? ⟨B, 2, none⟩ = some (.int .i64 c)
 c3 : W.cell? ⟨B, 3, none⟩ = some (.int .i64 d)
 c4 : W.cell? ⟨B, 4, none⟩ = some (.int .i64 e)
 c5 : W.cell? ⟨B, 5, none⟩ = some (.int .i64 f)
 c6 : W.cell? ⟨B, 6, none⟩ = some (.int .i64 g)
 c7 : W.cell? ⟨B, 7, none⟩ = some (.int .i64 h)
theorem Eight.sim {a b c d e f g h : Int} {B D : Nat} {W W' : World} (s : Sim D W W') (k : Eight a b c d e f g h B W) : Eight a b c d e f g h B W' := ⟨s.cell k.c0, s.cell k.c1, s.cell k.c2, s.cell k.c3, s.cell k.c4, s.cell k.c5, s.cell k.c6, s.cell k.c7⟩
structure FlatI (a b c d x1 y1 z1 d1 x2 y2 z2 d2 : Int) (s k : Nat) (W : World) : Prop where
 res : ∃ r, W.cell? ⟨s + 1 + 1 + 1, 0, none⟩ = some (.bool r)
 fres : W.frozen? ⟨s + 1 + 1 + 1, 0, none⟩ = false
 sheet : Four a b c d s W
 way : Eight x1 y1 z1 d1 x2 y2 z2 d2 (s + 1 + 1) W
 none : ∀ j, j < k → rimB a b c d x1 y1 d1 x2 y2 d2 j = false
theorem FlatI.sim {a b c d x1 y1 z1 d1 x2 y2 z2 d2 : Int} {s k D : Nat} {W W' : World} (m : Sim D W W') (h : FlatI a b c d x1 y1 z1 d1 x2 y2 z2 d2 s k W) : FlatI a b c d x1 y1 z1 d1 x2 y2 z2 d2 s k W' :=
 ⟨let ⟨r, hr⟩ := h.res; ⟨r, m.cell hr⟩, let ⟨r, hr⟩ := h.res; m.frozen hr h.fres, h.sheet.sim m, h.way.sim m, h.none⟩
structure FlatX (a b c d x1 y1 d1 x2 y2 d2 : Int) (s : Nat) (C : Code) (W : World) : Prop where
 ret : C = .ret
 res : W.cell? ⟨s + 1 + 1 + 1, 0, none⟩ = some (.bool true)
 yes : rimsB a b c d x1 y1 d1 x2 y2 d2 = true
theorem FlatX.sim {a b c d x1 y1 d1 x2 y2 d2 : Int} {s D : Nat} {C : Code} {W W' : World} (m : Sim D W W') (h : FlatX a b c d x1 y1 d1 x2 y2 d2 s C W) : FlatX a b c d x1 y1 d1 x2 y2 d2 s C W' := ⟨h.ret, m.cell h.res, h.yes⟩
theorem Four.new (W : World) (a b c d : Int) (t : Nat) : Four a b c d W.heap.size (W.alloc (.cells #[.int .i64 a, .int .i64 b, .int .i64 c, .int .i64 d] t)) := by
 constructor <;> simp [go_sem]

def flatA (a b c d k A x1 y1 z1 d1 x2 y2 z2 d2 : Int) (s B i : Nat) : Act := { tmps := #[.agg #[.int .i64 a, .int .i64 b, .int .i64 c, .int .i64 d], .agg #[.int .i64 k, .int .i64 A], .agg #[.int .i64 x1, .int .i64 y1, .int .i64 z1, .int .i64 d1, .int .i64 x2, .int .i64 y2, .int .i64 z2, .int .i64 d2], .pointer (some ⟨s, 0, none⟩), .pointer (some ⟨s + 1, 0, none⟩), .pointer (some ⟨s + 1 + 1, 0, none⟩), .pointer (some ⟨s + 1 + 1 + 1, 0, none⟩), undef, undef, .pointer (some ⟨B, 0, none⟩), .agg #[.int .i64 k, .int .i64 A], .pointer (some ⟨s + 1 + 1, 0, none⟩), .agg #[.int .i64 x1, .int .i64 y1, .int .i64 z1, .int .i64 d1], .int .i64 0, .bool false, .bool false, .agg #[.int .i64 k, .int .i64 A], .pointer (some ⟨s + 1 + 1, 4, none⟩), .agg #[.int .i64 x2, .int .i64 y2, .int .i64 z2, .int .i64 d2], .int .i64 0, .bool false, .bool false, undef, undef, undef, undef, undef, undef, undef, undef, undef, undef, undef, undef, .agg #[.int .i64 a, .int .i64 b, .int .i64 c, .int .i64 d], .func (.func 185) #[.agg #[.int .i64 a, .int .i64 b, .int .i64 c, .int .i64 d]] #[], rimV a b c d i, undef, undef, undef, undef, undef, undef, undef], defers := [] }

theorem sheetBlocks_flat (a b c d : Int) (h1 : -5000 ≤ a ∧ a ≤ 5000) (h2 : -5000 ≤ b ∧ b ≤ 5000) (h3 : -5000 ≤ c ∧ c ≤ 5000) (h4 : -5000 ≤ d ∧ d ≤ 5000) (k A x1 y1 z1 d1 x2 y2 z2 d2 : Int) (w : World) (hA : -10000 ≤ A ∧ A ≤ 10000) (hd1 : 0 ≤ d1 ∧ d1 ≤ 100000) (hd2 : 0 ≤ d2 ∧ d2 ≤ 100000) (hx1 : -500000000 ≤ x1 ∧ x1 ≤ 500000000) (hy1 : -500000000 ≤ y1 ∧ y1 ≤ 500000000) (hz1 : -500000000 ≤ z1 ∧ z1 ≤ 500000000) (hx2 : -500000000 ≤ x2 ∧ x2 ≤ 500000000) (hy2 : -500000000 ≤ y2 ∧ y2 ≤ 500000000) (hz2 : -500000000 ≤ z2 ∧ z2 ≤ 500000000) (Hf : Hid (0 = offP k A x1 y1 z1 d1)) (Hg : Hid (0 = offP k A x2 y2 z2 d2)) :
 Calls Tryz.prog 157 #[.agg #[.int .i64 a, .int .i64 b, .int .i64 c, .int .i64 d], .agg #[.int .i64 k, .int .i64 A], .agg #[.int .i64 x1, .int .i64 y1, .int .i64 z1, .int .i64 d1, .int .i64 x2, .int .i64 y2, .int .i64 z2, .int .i64 d2]] w (RetX w (.bool (rimsB a b c d x1 y1 d1 x2 y2 d2 || sheetB a b c d (x1 * d2 + x2 * d1) (y1 * d2 + y2 * d1) (2 * d1 * d2)))) := by
 have e1 := mul_bd hA hd1 (by omega)
 have e2 := mul_bd hA hd2 (by omega)
 have O1 : ∀ W, Calls Tryz.prog 163 #[.agg #[.int .i64 k, .int .i64 A], .agg #[.int .i64 x1, .int .i64 y1, .int .i64 z1, .int .i64 d1]] W (RetX W (.int .i64 0)) := fun W => by rw [Hf.out]; exact offPlane_any k A x1 y1 z1 d1 W (by omega) (by omega) (by omega) (by omega)
 have O2 : ∀ W, Calls Tryz.prog 163 #[.agg #[.int .i64 k, .int .i64 A], .agg #[.int .i64 x2, .int .i64 y2, .int .i64 z2, .int .i64 d2]] W (RetX W (.int .i64 0)) := fun W => by rw [Hg.out]; exact offPlane_any k A x2 y2 z2 d2 W (by omega) (by omega) (by omega) (by omega)
 have HO1 := hidden O1
 have HO2 := hidden O2
 clear O1 O2 e1 e2 Hf Hg
 refine (callsIn_wide (n := 10)).1 ?_
 refine callsIn_of_wp_marks Tryz.func157 rfl trivial ?_ rfl
 simp only [Tryz.ntmps157, nt, Nat.reduceAdd, Nat.reduceSub]
 gi_wp2
 repeat ((refine ⟨trivial, ?_⟩; first | ((with_reducible refine (callsIn_wide.2 (HO1.out _)).mono ?_); rintro e w' ⟨rfl, x, rfl⟩) | ((with_reducible refine (callsIn_wide.2 (HO2.out _)).mono ?_); rintro e w' ⟨rfl, x, rfl⟩)); gi_wp2)
 refine range_outer rfl (by omega) (gf := 185) (pre := #[.agg #[.int .i64 a, .int .i64 b, .int .i64 c, .int .i64 d]]) rfl trivial (enters_of Tryz.func185 (by kernel_rfl) rfl) (n₀ := w.heap.size) (by simp; omega)
  (rims_iter a b c d (w := w) (by (repeat' first | with_reducible (first | apply bz0 | assumption | apply bz1 | apply bz2 | apply bz3 | apply bz4 | apply bz5) | (simp <;> omega))) _ (by omega)) (fun k => rfl)
  (fun i W => FlatI a b c d x1 y1 z1 d1 x2 y2 z2 d2 w.heap.size i W) (fun C W => FlatX a b c d x1 y1 d1 x2 y2 d2 w.heap.size C W) (fun k W W' s h => h.sim s) (fun c W W' s h => h.sim s) ?start
  (fun i a' W => ∃ B, w.heap.size + 4 ≤ B ∧ a' = flatA a b c d k A x1 y1 z1 d1 x2 y2 z2 d2 w.heap.size B i ∧ Four (rimX1 a b c d i) (rimY1 a b c d i) (rimX2 a b c d i) (rimY2 a b c d i) B W) (fun i a' W W' s ⟨B, h1, h2, h3⟩ => ⟨B, h1, h2, h3.sim s⟩) ?assign ?body ?done ?stop
 case start =>
  refine ⟨⟨false, by simp [go_sem]⟩, by simp [go_sem], ?_, ?_, fun j hj => absurd hj (Nat.not_lt_zero j)⟩ <;> constructor <;> simp [go_sem]
 case assign =>
  intro l i W K hi hI hb hK
  have hsz : w.heap.size + 4 ≤ W.heap.size := by have := hb.size; simp at this; omega
  simp only [rimEnc, rimV]
  gi_wp2
  exact hK _ _ (KeepsAll.alloc _ _ _) (hb.alloc (by omega) _) (hI.sim (Sim.alloc 0 _ _)) ⟨W.heap.size, by omega, rfl, Four.new _ _ _ _ _ _⟩
 case body =>
  rintro l i a' W hi hl hr ⟨⟨r, r1⟩, r2, hsh, ⟨c0, c1, c2, c3, c4, c5, c6, c7⟩, hno⟩ ⟨B, hB, rfl, ⟨b0, b1, b2, b3⟩⟩ hb
  have hsz : w.heap.size + 4 ≤ W.heap.size := by have := hb.size; simp at this; omega
  obtain ⟨m1, m2, m3, m4⟩ := rim_in h1 h2 h3 h4 i
  have hW : Hid (rimB a b c d x1 y1 d1 x2 y2 d2 i = blocksB (rimX1 a b c d i) (rimY1 a b c d i) (rimX2 a b c d i) (rimY2 a b c d i) x1 y1 d1 x2 y2 d2) := rfl
  clear hl hr HO1 HO2
  have g1 := has_of_cell r1
  have g2 := has_of_cell c0
  have gB := has_of_cell b0
  unfold flatA rimV
  generalize rimX1 a b c d i = p1 at *
  generalize rimY1 a b c d i = p2 at *
  generalize rimX2 a b c d i = p3 at *
  generalize rimY2 a b c d i = p4 at *
  gi_wp2
  refine ⟨trivial, ?_⟩
  refine (callsIn_wide.2 (blocks_any p1 p2 p3 p4 m1 m2 m3 m4 x1 y1 z1 d1 x2 y2 z2 d2 _ hd1 hd2 hx1 hy1 hz1 hx2 hy2 hz2)).mono ?_
  rintro e w1 ⟨rfl, v1, rfl⟩
  cases hh : blocksB p1 p2 p3 p4 x1 y1 d1 x2 y2 d2 with
  | true =>
   rw [hh] at hW
   gi_wp2
   refine bodyQ_leaveSet (by (repeat' first | with_reducible (first | apply bz0 | assumption | apply bz1 | apply bz2 | apply bz3 | apply bz4 | apply bz5) | (simp <;> omega))) (by omega) (by simp <;> omega) (by simp <;> omega) hb (fun m => ⟨rfl, cell_set (m.cell r1), rimsB_stop hi hW.out⟩)
  | false =>
   rw [hh] at hW
   gi_wp2
   refine bodyQ_next (by (repeat' first | with_reducible (first | apply bz0 | assumption | apply bz1 | apply bz2 | apply bz3 | apply bz4 | apply bz5) | (simp <;> omega))) (by omega) hb (fun m => ⟨⟨r, m.cell r1⟩, m.frozen r1 r2, hsh.sim m, (Eight.mk c0 c1 c2 c3 c4 c5 c6 c7).sim m, fun j hj => ?_⟩)
   rcases Nat.lt_or_ge j i with h | h
   · exact hno j h
   · obtain rfl : j = i := by omega
     exact hW.out
 case done =>
  rintro W ⟨⟨r, r1⟩, r2, ⟨s0, s1, s2, s3⟩, ⟨c0, c1, c2, c3, c4, c5, c6, c7⟩, hno⟩ hb hD
  have g1 := has_of_cell r1
  have g2 := has_of_cell s0
  have g3 := has_of_cell c0
  have hz := hidden (rimsB_end hno)
  have hsz : w.heap.size + 4 ≤ W.heap.size := by have := hb.size; simp at this; omega
  clear hno HO1 HO2
  gi_wp2
  have ne1 : w.heap.size ≠ w.heap.size + 1 + 1 + 1 := by omega
  have ne2 : w.heap.size + 1 + 1 ≠ w.heap.size + 1 + 1 + 1 := by omega
  have mm := mul_bd (a := 2 * d1) (A := 200000) ⟨by omega, by omega⟩ hd2 (by omega)
  have mn : 0 ≤ 2 * d1 * d2 := Int.mul_nonneg (by omega) hd2.1
  refine wpIn_wide.2 ?_
  (refine wp_region_tameH (w.heap.size + 1 + 1 + 1) (by kernel_rfl) (by kernel_rfl) ?_); (repeat (first | (refine tmS rfl ?_; simp only [Act.put, List.setIfInBounds_toArray, List.set_cons_succ, List.set_cons_zero]) | (refine tmP rfl rfl rfl (fun K hK => ?_); go_big_quiet_op; refine hK _ ?_; clear hK K) | (refine tmE rfl rfl (fun K hK => ?_); go_big_op; (first | (go_at_call 153; refine (middle_any x1 y1 z1 d1 x2 y2 z2 d2 _ hd1 hd2 hx1 hy1 hz1 hx2 hy2 hz2).mono ?_; rintro e w' ⟨rfl, v1, rfl⟩) | (go_at_call 184; refine (sheet_holds_any _ _ _ _ _ _ _ _ _ h1 h2 h3 h4 ⟨by omega, by omega⟩).mono ?_; rintro e w' ⟨rfl, v2, rfl⟩) | skip); (refine hK _ _ rfl (hole_of (by (repeat' (first | (with_reducible exact HoleRel.refl _ _ _) | (with_reducible assumption) | (with_reducible refine HoleRel.swap ?_ _ _) | (with_reducible refine HoleRel.drew ?_) | (with_reducible refine HoleRel.drewN ?_ _) | (with_reducible refine HoleRel.setCell ?_ ?_ _) | (with_reducible refine HoleRel.putObj ?_ ?_ _) | (with_reducible refine HoleRel.alloc ?_ ?_ _) | (with_reducible refine HoleRel.ext ?_ ?_ _) | (exact Or.inl rfl) | (simp; done) | (simp; omega))))) ?_; clear hK K)))); (refine tmN ?_)
  gi_wp2
  have hDlt := (Array.getElem?_eq_some_iff.1 hD).1
  refine bodyPostM_cell (s := w.heap.size + 1 + 1 + 1) ((Below.heap_setCell _ _ _ _ (by simp <;> omega)).trans (((show Below W.heap.size W _ by (repeat' first | with_reducible (first | apply bz0 | assumption | apply bz1 | apply bz2 | apply bz3 | apply bz4 | apply bz5) | (simp <;> omega))).block _ hDlt).trans hD)) (by simp <;> omega) (cell_set ((Sim.of_below (D := 0) (by (repeat' first | with_reducible (first | apply bz0 | assumption | apply bz1 | apply bz2 | apply bz3 | apply bz4 | apply bz5) | (simp <;> omega)))).cell r1)) (fun X hX => by simp [results, Tryz.results157, go_sem, hX]) (fun o => retX (by rw [hz.out]; simp) ?_)
  refine Below.putObjStep (Below.setCell (((show Below w.heap.size w _ by (repeat' first | with_reducible (first | apply bz0 | assumption | apply bz1 | apply bz2 | apply bz3 | apply bz4 | apply bz5) | (simp <;> omega))).trans hb).trans (Below.lower (D := W.heap.size) (by (repeat' first | with_reducible (first | apply bz0 | assumption | apply bz1 | apply bz2 | apply bz3 | apply bz4 | apply bz5) | (simp <;> omega))) (by omega))) (by simp <;> omega) _) (by simp <;> omega) _
 case stop =>
  rintro c' W ⟨rfl, r1, hy⟩ hb hD
  rw [hy]
  have g1 := has_of_cell r1
  gi_wp2
  refine bodyPostM_cell (s := w.heap.size + 1 + 1 + 1) hD (by simp <;> omega) r1 (fun X hX => by simp [results, Tryz.results157, go_sem, hX]) (fun o => retX (by simp) ?_)
  refine Below.putObjStep ((show Below w.heap.size w _ by (repeat' first | with_reducible (first | apply bz0 | assumption | apply bz1 | apply bz2 | apply bz3 | apply bz4 | apply bz5) | (simp <;> omega))).trans hb) (by simp <;> omega) _

theorem sheetBlocks_any (a b c d : Int) (h1 : -5000 ≤ a ∧ a ≤ 5000) (h2 : -5000 ≤ b ∧ b ≤ 5000) (h3 : -5000 ≤ c ∧ c ≤ 5000) (h4 : -5000 ≤ d ∧ d ≤ 5000) (k A x1 y1 z1 d1 x2 y2 z2 d2 : Int) (w : World) (hA : -10000 ≤ A ∧ A ≤ 10000) (hd1 : 0 ≤ d1 ∧ d1 ≤ 100000) (hd2 : 0 ≤ d2 ∧ d2 ≤ 100000) (hx1 : -500000000 ≤ x1 ∧ x1 ≤ 500000000) (hy1 : -500000000 ≤ y1 ∧ y1 ≤ 500000000) (hz1 : -500000000 ≤ z1 ∧ z1 ≤ 500000000) (hx2 : -500000000 ≤ x2 ∧ x2 ≤ 500000000) (hy2 : -500000000 ≤ y2 ∧ y2 ≤ 500000000) (hz2 : -500000000 ≤ z2 ∧ z2 ≤ 500000000) :
 Calls Tryz.prog 157 #[.agg #[.int .i64 a, .int .i64 b, .int .i64 c, .int .i64 d], .agg #[.int .i64 k, .int .i64 A], .agg #[.int .i64 x1, .int .i64 y1, .int .i64 z1, .int .i64 d1, .int .i64 x2, .int .i64 y2, .int .i64 z2, .int .i64 d2]] w (RetX w (.bool (sheetBlocksB a b c d k A x1 y1 z1 d1 x2 y2 z2 d2))) := by
 unfold sheetBlocksB
 split
 · rename_i h
   exact sheetBlocks_flat a b c d h1 h2 h3 h4 k A x1 y1 z1 d1 x2 y2 z2 d2 w hA hd1 hd2 hx1 hy1 hz1 hx2 hy2 hz2 (hidden h.1.symm) (hidden h.2.symm)
 · rename_i h
   exact sheetBlocks_meet a b c d h1 h2 h3 h4 k A x1 y1 z1 d1 x2 y2 z2 d2 w hA hd1 hd2 hx1 hy1 hz1 hx2 hy2 hz2 _ _ (hidden rfl) (hidden rfl) h
end Go.Proofs.YtekieoamelahkaaGreat
