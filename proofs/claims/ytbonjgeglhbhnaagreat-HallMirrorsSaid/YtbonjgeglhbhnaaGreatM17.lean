/- The iterator over the rims of a sheet. -/
import Derived.Test.YtbonjgeglhbhnaaGreatM16
import Derived.Test.YtbonjgeglhbhnaaGreatM14
import Derived.Test.YtbonjgeglhbhnaaGreatM06
import Derived.RegionIn
set_option linter.unusedVariables false
set_option linter.unusedSimpArgs false
namespace Go.Proofs.YtbonjgeglhbhnaaGreat
open Go.RowKit Go.Shelf
attribute [local go_sem] Oper.semAt_some

/-- rim k of a sheet, as numbers -/
def rimX1 (a b c d : Int) (k : Nat) : Int := if k = 0 ∨ k = 3 then a else c
def rimY1 (a b c d : Int) (k : Nat) : Int := if k = 0 ∨ k = 1 then b else d
def rimX2 (a b c d : Int) (k : Nat) : Int := if k = 2 ∨ k = 3 then a else c
def rimY2 (a b c d : Int) (k : Nat) : Int := if k = 0 ∨ k = 3 then b else d
def rimV (a b c d : Int) (k : Nat) : Value := .agg #[.int .i64 (rimX1 a b c d k), .int .i64 (rimY1 a b c d k), .int .i64 (rimX2 a b c d k), .int .i64 (rimY2 a b c d k)]
def rimEnc (a b c d : Int) (k : Nat) : Array Value := #[rimV a b c d k]

/-- the corners of a sheet in a row -/
structure RimCells (a b c d : Int) (B : Nat) (W : World) : Prop where
  c0 : W.cell? ⟨B, 0, none⟩ = some (.int .i64 a)
  c1 : W.cell? ⟨B, 1, none⟩ = some (.int .i64 b)
  c2 : W.cell? ⟨B, 2, none⟩ = some (.int .i64 c)
  c3 : W.cell? ⟨B, 3, none⟩ = some (.int .i64 b)
  c4 : W.cell? ⟨B, 4, none⟩ = some (.int .i64 c)
  c5 : W.cell? ⟨B, 5, none⟩ = some (.int .i64 d)
  c6 : W.cell? ⟨B, 6, none⟩ = some (.int .i64 a)
  c7 : W.cell? ⟨B, 7, none⟩ = some (.int .i64 d)
theorem RimCells.keep {a b c d : Int} {B D : Nat} {W1 W2 W3 : World} (h : RimCells a b c d B W1) (hb : Below W1.heap.size W1 W2) (hk : KeepsAll D W2 W3) (hD : D ≤ B) : RimCells a b c d B W3 := by
  constructor
  · exact hk.cell hD ((Sim.of_below (D := 0) hb).cell h.c0)
  · exact hk.cell hD ((Sim.of_below (D := 0) hb).cell h.c1)
  · exact hk.cell hD ((Sim.of_below (D := 0) hb).cell h.c2)
  · exact hk.cell hD ((Sim.of_below (D := 0) hb).cell h.c3)
  · exact hk.cell hD ((Sim.of_below (D := 0) hb).cell h.c4)
  · exact hk.cell hD ((Sim.of_below (D := 0) hb).cell h.c5)
  · exact hk.cell hD ((Sim.of_below (D := 0) hb).cell h.c6)
  · exact hk.cell hD ((Sim.of_below (D := 0) hb).cell h.c7)

set_option maxRecDepth 100000 in set_option maxHeartbeats 1000000 in
theorem rims_iter (a b c d : Int) {w w' : World} (hw : Below w.heap.size w w') (n : Nat) (hn : 1 ≤ n) :
    IterP Fence.wide n Tryz.prog 155 #[.agg #[.int .i64 a, .int .i64 b, .int .i64 c, .int .i64 d]] (rimEnc a b c d) 4 w.heap.size w' := by
  intro l J Jx W hJ hJx hb hY h0
  refine callsIn_of_wp Tryz.func155 rfl trivial ?_ rfl
  simp only [Tryz.ntmps155, List.size_toArray, List.length_cons, List.length_nil, Nat.reduceAdd, Nat.reduceSub, Array.replicate_succ, Array.replicate_zero, List.push_toArray, List.append_toArray, List.nil_append, List.cons_append]
  gi_wp2
  have i0 : ∀ w : World, (Instr.index 209 (.agg #[.int .i64 a, .int .i64 b, .int .i64 c, .int .i64 b, .int .i64 c, .int .i64 d, .int .i64 a, .int .i64 d]) (.int .i64 0)).run Tryz.prog w = .ok (.agg #[.int .i64 a, .int .i64 b]) w := fun _ => by kernel_rfl
  have i1 : ∀ w : World, (Instr.index 209 (.agg #[.int .i64 a, .int .i64 b, .int .i64 c, .int .i64 b, .int .i64 c, .int .i64 d, .int .i64 a, .int .i64 d]) (.int .i64 1)).run Tryz.prog w = .ok (.agg #[.int .i64 c, .int .i64 b]) w := fun _ => by kernel_rfl
  have i2 : ∀ w : World, (Instr.index 209 (.agg #[.int .i64 a, .int .i64 b, .int .i64 c, .int .i64 b, .int .i64 c, .int .i64 d, .int .i64 a, .int .i64 d]) (.int .i64 2)).run Tryz.prog w = .ok (.agg #[.int .i64 c, .int .i64 d]) w := fun _ => by kernel_rfl
  have i3 : ∀ w : World, (Instr.index 209 (.agg #[.int .i64 a, .int .i64 b, .int .i64 c, .int .i64 b, .int .i64 c, .int .i64 d, .int .i64 a, .int .i64 d]) (.int .i64 3)).run Tryz.prog w = .ok (.agg #[.int .i64 a, .int .i64 d]) w := fun _ => by kernel_rfl
  have q1 : (IntKind.i64.wrap 1).tmod 4 = 1 := by decide
  have q2 : (IntKind.i64.wrap 2).tmod 4 = 2 := by decide
  have q3 : (IntKind.i64.wrap 3).tmod 4 = 3 := by decide
  have q4 : (IntKind.i64.wrap 4).tmod 4 = 0 := by decide
  have r1 : IntKind.i64.wrap 1 = 1 := by decide
  have r2 : IntKind.i64.wrap 2 = 2 := by decide
  have r3 : IntKind.i64.wrap 3 = 3 := by decide
  have r4 : IntKind.i64.wrap 4 = 4 := by decide
  gi_loopw [27] (fun i wr => ∃ k : Nat, i = .int .i64 k ∧ k ≤ 4 ∧ RimCells a b c d (W.heap.size + 1) wr ∧ J k wr ∧ Below w.heap.size w' wr) (fun i _ => 4 - (intOf i).toNat)
  case atStart => 
    refine ⟨0, rfl, Nat.zero_le _, by constructor <;> simp [go_sem], ?_, (hb.alloc (Nat.le_trans hw.size hb.size) _).alloc (by have := Nat.le_trans hw.size hb.size; simp; omega) _⟩
    obtain ⟨x, hx⟩ := ext_of_below (((Below.refl W.heap.size W).alloc (Nat.le_refl _) (.cells #[.int .i64 a, .int .i64 b, .int .i64 c, .int .i64 d] 171)).alloc (by simp) (.cells #[.int .i64 a, .int .i64 b, .int .i64 c, .int .i64 b, .int .i64 c, .int .i64 d, .int .i64 a, .int .i64 d] 209))
    rw [hx]
    exact hJ _ _ _ h0
  case round =>
    obtain ⟨k, rfl, hk, hrc, hj, hbr⟩ := hrel
    have hrc' := hrc
    obtain ⟨c0, c1, c2, c3, c4, c5, c6, c7⟩ := hrc'
    have hB : W.heap.size + 1 < wr.heap.size := has_of_cell c0
    have hH : wr.Has (W.heap.size + 1) := hB
    rcases Nat.lt_or_ge k 4 with hlt | hge
    · have hk4 : k = 0 ∨ k = 1 ∨ k = 2 ∨ k = 3 := by omega
      rcases hk4 with rfl | rfl | rfl | rfl
      · gi_wp2
        have hYk : ∀ W1, Below wr.heap.size wr W1 → YieldAt Fence.wide (n - 1) Tryz.prog l #[.agg #[.int .i64 a, .int .i64 b, .int .i64 c, .int .i64 b]] W1 fun e W' => Below w.heap.size w' W' ∧ RimCells a b c d (W.heap.size + 1) W' ∧ ((e = .returned (.bool true) ∧ J 1 W') ∨ (e = .returned (.bool false) ∧ Jx W')) := fun W1 h1 => by
          have h1' := h1
          obtain ⟨x, rfl⟩ := ext_of_below h1
          obtain ⟨fn, tmps, assign, body, hy, hRd⟩ := hY 0 _ hlt (hJ _ _ x hj) (hbr.extStep (Nat.le_trans hw.size hbr.size) x)
          exact ⟨fn, tmps, assign, body, hy, hRd.mono (fun e W' h => ⟨h.1.1, hrc.keep h1' h.1.2 (by omega), h.2⟩)⟩
        refine wpIn_region_any (by kernel_rfl) ?_
        change wpAnyIn _ _ _ _ _ _ _ _ _ (World.drew _)
        (refine wpAnyIn_take (i := 0) (v := ?_) rfl rfl (by kernel_rfl) (by kernel_rfl) (by kernel_rfl) (fun _ _ _ h => h) ⟨Or.inl ⟨by rfl, ?hy⟩, fun _ => rfl⟩ ?_); (case hy => (intro w; go_simp; try (with_reducible rfl)))
        (refine wpAnyIn_take (i := 2) (v := ?_) rfl rfl (by kernel_rfl) (by kernel_rfl) (by kernel_rfl) (fun _ _ _ h => h) ⟨Or.inl ⟨by rfl, ?hy⟩, fun _ => rfl⟩ ?_); (case hy => (intro w; go_simp; try (with_reducible rfl)))
        (refine wpAnyIn_take (i := 3) (v := ?_) rfl rfl (by kernel_rfl) (by kernel_rfl) (by kernel_rfl) (fun _ _ _ h => h) ⟨Or.inl ⟨by rfl, ?hy⟩, fun _ => rfl⟩ ?_); (case hy => (intro w; go_simp; try (with_reducible rfl)))
        (refine wpAnyIn_take (i := 4) (v := ?_) rfl rfl (by kernel_rfl) (by kernel_rfl) (by kernel_rfl) (fun _ _ _ h => h) ⟨Or.inl ⟨by rfl, ?hy⟩, fun _ => rfl⟩ ?_); (case hy => (intro w; go_simp; try (with_reducible rfl)))
        (refine wpAnyIn_take (i := 5) (v := ?_) rfl rfl (by kernel_rfl) (by kernel_rfl) (by kernel_rfl) (fun _ _ _ h => h) ⟨Or.inl ⟨by rfl, ?hy⟩, fun _ => rfl⟩ ?_); (case hy => (intro w; go_simp; try (with_reducible rfl)))
        refine wpAnyIn_ready (rs := [1, 6]) (by kernel_rfl) (by simp) ?_
        refine AllReadyIn.cons rfl (fun K hK => ?_) (AllReadyIn.cons rfl (fun K hK => ?_) AllReadyIn.nil)
        · go_simp
          refine hK _ _ ?_
          clear hK K
          refine wpAnyIn_ready (rs := [6]) (by kernel_rfl) (by simp) ?_
          refine AllReadyIn.cons rfl (fun K hK => ?_) AllReadyIn.nil
          go_simp
          refine hK _ _ ?_
          clear hK K
          (refine wpAnyIn_take (i := 7) (v := ?_) rfl rfl (by kernel_rfl) (by kernel_rfl) (by kernel_rfl) (fun _ _ _ h => h) ⟨Or.inl ⟨by rfl, ?hy⟩, fun _ => rfl⟩ ?_); (case hy => (intro w; go_simp; try (with_reducible rfl)))
          refine wpAnyIn_ready (rs := [8]) (by kernel_rfl) (by simp) ?_
          refine AllReadyIn.cons rfl (fun K hK => ?_) AllReadyIn.nil
          go_simp
          refine uponIn_yieldAt (hYk _ ?_) (fun h => (by have h0 : Fence.wide.depth.isSome = true := h; exact absurd h0 (by decide))) ?_
          · (repeat' (first | (with_reducible exact Below.refl _ _) | (with_reducible assumption) | (with_reducible refine Below.drew ?_) | (with_reducible refine Below.drewNStep ?_ _) | (with_reducible refine Below.alloc ?_ ?_ _) | (with_reducible refine Below.setCell ?_ ?_ _) | (with_reducible refine Below.extStep ?_ ?_ _) | (simp; done) | (simp; omega)))
          rintro e W3 ⟨hb3, hc3, (⟨rfl, hJ'⟩ | ⟨rfl, hJx'⟩)⟩
          · refine ⟨_, rfl, hK _ _ ?_⟩
            clear hK K
            (refine wpAnyIn_take (i := 9) (v := ?_) rfl rfl (by kernel_rfl) (by kernel_rfl) (by kernel_rfl) (fun _ _ _ h => h) ⟨Or.inl ⟨by rfl, ?hy⟩, fun _ => rfl⟩ ?_); (case hy => (intro w; go_simp; try (with_reducible rfl)))
            refine wpAnyIn_done (by kernel_rfl) ?_ _
            gi_wp2
            go_roundw
            case rel => exact ⟨1, by go_num, by omega, hc3, hJ', hb3⟩
            case measure => simp [intOf]
          · refine ⟨_, rfl, hK _ _ ?_⟩
            clear hK K
            (refine wpAnyIn_take (i := 9) (v := ?_) rfl rfl (by kernel_rfl) (by kernel_rfl) (by kernel_rfl) (fun _ _ _ h => h) ⟨Or.inl ⟨by rfl, ?hy⟩, fun _ => rfl⟩ ?_); (case hy => (intro w; go_simp; try (with_reducible rfl)))
            refine wpAnyIn_done (by kernel_rfl) ?_ _
            gi_wp2
            refine bodyPost_ret (results_none rfl _ _ _) rfl ?_
            exact ⟨⟨_, rfl⟩, hb3, .inr hJx'⟩
        · go_simp
          refine hK _ _ ?_
          clear hK K
          refine wpAnyIn_ready (rs := [1]) (by kernel_rfl) (by simp) ?_
          refine AllReadyIn.cons rfl (fun K hK => ?_) AllReadyIn.nil
          go_simp
          refine hK _ _ ?_
          clear hK K
          (refine wpAnyIn_take (i := 7) (v := ?_) rfl rfl (by kernel_rfl) (by kernel_rfl) (by kernel_rfl) (fun _ _ _ h => h) ⟨Or.inl ⟨by rfl, ?hy⟩, fun _ => rfl⟩ ?_); (case hy => (intro w; go_simp; try (with_reducible rfl)))
          refine wpAnyIn_ready (rs := [8]) (by kernel_rfl) (by simp) ?_
          refine AllReadyIn.cons rfl (fun K hK => ?_) AllReadyIn.nil
          go_simp
          refine uponIn_yieldAt (hYk _ ?_) (fun h => (by have h0 : Fence.wide.depth.isSome = true := h; exact absurd h0 (by decide))) ?_
          · (repeat' (first | (with_reducible exact Below.refl _ _) | (with_reducible assumption) | (with_reducible refine Below.drew ?_) | (with_reducible refine Below.drewNStep ?_ _) | (with_reducible refine Below.alloc ?_ ?_ _) | (with_reducible refine Below.setCell ?_ ?_ _) | (with_reducible refine Below.extStep ?_ ?_ _) | (simp; done) | (simp; omega)))
          rintro e W3 ⟨hb3, hc3, (⟨rfl, hJ'⟩ | ⟨rfl, hJx'⟩)⟩
          · refine ⟨_, rfl, hK _ _ ?_⟩
            clear hK K
            (refine wpAnyIn_take (i := 9) (v := ?_) rfl rfl (by kernel_rfl) (by kernel_rfl) (by kernel_rfl) (fun _ _ _ h => h) ⟨Or.inl ⟨by rfl, ?hy⟩, fun _ => rfl⟩ ?_); (case hy => (intro w; go_simp; try (with_reducible rfl)))
            refine wpAnyIn_done (by kernel_rfl) ?_ _
            gi_wp2
            go_roundw
            case rel => exact ⟨1, by go_num, by omega, hc3, hJ', hb3⟩
            case measure => simp [intOf]
          · refine ⟨_, rfl, hK _ _ ?_⟩
            clear hK K
            (refine wpAnyIn_take (i := 9) (v := ?_) rfl rfl (by kernel_rfl) (by kernel_rfl) (by kernel_rfl) (fun _ _ _ h => h) ⟨Or.inl ⟨by rfl, ?hy⟩, fun _ => rfl⟩ ?_); (case hy => (intro w; go_simp; try (with_reducible rfl)))
            refine wpAnyIn_done (by kernel_rfl) ?_ _
            gi_wp2
            refine bodyPost_ret (results_none rfl _ _ _) rfl ?_
            exact ⟨⟨_, rfl⟩, hb3, .inr hJx'⟩
      · gi_wp2
        have hYk : ∀ W1, Below wr.heap.size wr W1 → YieldAt Fence.wide (n - 1) Tryz.prog l #[.agg #[.int .i64 c, .int .i64 b, .int .i64 c, .int .i64 d]] W1 fun e W' => Below w.heap.size w' W' ∧ RimCells a b c d (W.heap.size + 1) W' ∧ ((e = .returned (.bool true) ∧ J 2 W') ∨ (e = .returned (.bool false) ∧ Jx W')) := fun W1 h1 => by
          have h1' := h1
          obtain ⟨x, rfl⟩ := ext_of_below h1
          obtain ⟨fn, tmps, assign, body, hy, hRd⟩ := hY 1 _ hlt (hJ _ _ x hj) (hbr.extStep (Nat.le_trans hw.size hbr.size) x)
          exact ⟨fn, tmps, assign, body, hy, hRd.mono (fun e W' h => ⟨h.1.1, hrc.keep h1' h.1.2 (by omega), h.2⟩)⟩
        refine wpIn_region_any (by kernel_rfl) ?_
        change wpAnyIn _ _ _ _ _ _ _ _ _ (World.drew _)
        (refine wpAnyIn_take (i := 0) (v := ?_) rfl rfl (by kernel_rfl) (by kernel_rfl) (by kernel_rfl) (fun _ _ _ h => h) ⟨Or.inl ⟨by rfl, ?hy⟩, fun _ => rfl⟩ ?_); (case hy => (intro w; go_simp; try (with_reducible rfl)))
        (refine wpAnyIn_take (i := 2) (v := ?_) rfl rfl (by kernel_rfl) (by kernel_rfl) (by kernel_rfl) (fun _ _ _ h => h) ⟨Or.inl ⟨by rfl, ?hy⟩, fun _ => rfl⟩ ?_); (case hy => (intro w; go_simp; try (with_reducible rfl)))
        (refine wpAnyIn_take (i := 3) (v := ?_) rfl rfl (by kernel_rfl) (by kernel_rfl) (by kernel_rfl) (fun _ _ _ h => h) ⟨Or.inl ⟨by rfl, ?hy⟩, fun _ => rfl⟩ ?_); (case hy => (intro w; go_simp; try (with_reducible rfl)))
        (refine wpAnyIn_take (i := 4) (v := ?_) rfl rfl (by kernel_rfl) (by kernel_rfl) (by kernel_rfl) (fun _ _ _ h => h) ⟨Or.inl ⟨by rfl, ?hy⟩, fun _ => rfl⟩ ?_); (case hy => (intro w; go_simp; try (with_reducible rfl)))
        (refine wpAnyIn_take (i := 5) (v := ?_) rfl rfl (by kernel_rfl) (by kernel_rfl) (by kernel_rfl) (fun _ _ _ h => h) ⟨Or.inl ⟨by rfl, ?hy⟩, fun _ => rfl⟩ ?_); (case hy => (intro w; go_simp; try (with_reducible rfl)))
        refine wpAnyIn_ready (rs := [1, 6]) (by kernel_rfl) (by simp) ?_
        refine AllReadyIn.cons rfl (fun K hK => ?_) (AllReadyIn.cons rfl (fun K hK => ?_) AllReadyIn.nil)
        · go_simp
          refine hK _ _ ?_
          clear hK K
          refine wpAnyIn_ready (rs := [6]) (by kernel_rfl) (by simp) ?_
          refine AllReadyIn.cons rfl (fun K hK => ?_) AllReadyIn.nil
          go_simp
          refine hK _ _ ?_
          clear hK K
          (refine wpAnyIn_take (i := 7) (v := ?_) rfl rfl (by kernel_rfl) (by kernel_rfl) (by kernel_rfl) (fun _ _ _ h => h) ⟨Or.inl ⟨by rfl, ?hy⟩, fun _ => rfl⟩ ?_); (case hy => (intro w; go_simp; try (with_reducible rfl)))
          refine wpAnyIn_ready (rs := [8]) (by kernel_rfl) (by simp) ?_
          refine AllReadyIn.cons rfl (fun K hK => ?_) AllReadyIn.nil
          go_simp
          refine uponIn_yieldAt (hYk _ ?_) (fun h => (by have h0 : Fence.wide.depth.isSome = true := h; exact absurd h0 (by decide))) ?_
          · (repeat' (first | (with_reducible exact Below.refl _ _) | (with_reducible assumption) | (with_reducible refine Below.drew ?_) | (with_reducible refine Below.drewNStep ?_ _) | (with_reducible refine Below.alloc ?_ ?_ _) | (with_reducible refine Below.setCell ?_ ?_ _) | (with_reducible refine Below.extStep ?_ ?_ _) | (simp; done) | (simp; omega)))
          rintro e W3 ⟨hb3, hc3, (⟨rfl, hJ'⟩ | ⟨rfl, hJx'⟩)⟩
          · refine ⟨_, rfl, hK _ _ ?_⟩
            clear hK K
            (refine wpAnyIn_take (i := 9) (v := ?_) rfl rfl (by kernel_rfl) (by kernel_rfl) (by kernel_rfl) (fun _ _ _ h => h) ⟨Or.inl ⟨by rfl, ?hy⟩, fun _ => rfl⟩ ?_); (case hy => (intro w; go_simp; try (with_reducible rfl)))
            refine wpAnyIn_done (by kernel_rfl) ?_ _
            gi_wp2
            go_roundw
            case rel => exact ⟨2, by go_num, by omega, hc3, hJ', hb3⟩
            case measure => simp [intOf]
          · refine ⟨_, rfl, hK _ _ ?_⟩
            clear hK K
            (refine wpAnyIn_take (i := 9) (v := ?_) rfl rfl (by kernel_rfl) (by kernel_rfl) (by kernel_rfl) (fun _ _ _ h => h) ⟨Or.inl ⟨by rfl, ?hy⟩, fun _ => rfl⟩ ?_); (case hy => (intro w; go_simp; try (with_reducible rfl)))
            refine wpAnyIn_done (by kernel_rfl) ?_ _
            gi_wp2
            refine bodyPost_ret (results_none rfl _ _ _) rfl ?_
            exact ⟨⟨_, rfl⟩, hb3, .inr hJx'⟩
        · go_simp
          refine hK _ _ ?_
          clear hK K
          refine wpAnyIn_ready (rs := [1]) (by kernel_rfl) (by simp) ?_
          refine AllReadyIn.cons rfl (fun K hK => ?_) AllReadyIn.nil
          go_simp
          refine hK _ _ ?_
          clear hK K
          (refine wpAnyIn_take (i := 7) (v := ?_) rfl rfl (by kernel_rfl) (by kernel_rfl) (by kernel_rfl) (fun _ _ _ h => h) ⟨Or.inl ⟨by rfl, ?hy⟩, fun _ => rfl⟩ ?_); (case hy => (intro w; go_simp; try (with_reducible rfl)))
          refine wpAnyIn_ready (rs := [8]) (by kernel_rfl) (by simp) ?_
          refine AllReadyIn.cons rfl (fun K hK => ?_) AllReadyIn.nil
          go_simp
          refine uponIn_yieldAt (hYk _ ?_) (fun h => (by have h0 : Fence.wide.depth.isSome = true := h; exact absurd h0 (by decide))) ?_
          · (repeat' (first | (with_reducible exact Below.refl _ _) | (with_reducible assumption) | (with_reducible refine Below.drew ?_) | (with_reducible refine Below.drewNStep ?_ _) | (with_reducible refine Below.alloc ?_ ?_ _) | (with_reducible refine Below.setCell ?_ ?_ _) | (with_reducible refine Below.extStep ?_ ?_ _) | (simp; done) | (simp; omega)))
          rintro e W3 ⟨hb3, hc3, (⟨rfl, hJ'⟩ | ⟨rfl, hJx'⟩)⟩
          · refine ⟨_, rfl, hK _ _ ?_⟩
            clear hK K
            (refine wpAnyIn_take (i := 9) (v := ?_) rfl rfl (by kernel_rfl) (by kernel_rfl) (by kernel_rfl) (fun _ _ _ h => h) ⟨Or.inl ⟨by rfl, ?hy⟩, fun _ => rfl⟩ ?_); (case hy => (intro w; go_simp; try (with_reducible rfl)))
            refine wpAnyIn_done (by kernel_rfl) ?_ _
            gi_wp2
            go_roundw
            case rel => exact ⟨2, by go_num, by omega, hc3, hJ', hb3⟩
            case measure => simp [intOf]
          · refine ⟨_, rfl, hK _ _ ?_⟩
            clear hK K
            (refine wpAnyIn_take (i := 9) (v := ?_) rfl rfl (by kernel_rfl) (by kernel_rfl) (by kernel_rfl) (fun _ _ _ h => h) ⟨Or.inl ⟨by rfl, ?hy⟩, fun _ => rfl⟩ ?_); (case hy => (intro w; go_simp; try (with_reducible rfl)))
            refine wpAnyIn_done (by kernel_rfl) ?_ _
            gi_wp2
            refine bodyPost_ret (results_none rfl _ _ _) rfl ?_
            exact ⟨⟨_, rfl⟩, hb3, .inr hJx'⟩
      · gi_wp2
        have hYk : ∀ W1, Below wr.heap.size wr W1 → YieldAt Fence.wide (n - 1) Tryz.prog l #[.agg #[.int .i64 c, .int .i64 d, .int .i64 a, .int .i64 d]] W1 fun e W' => Below w.heap.size w' W' ∧ RimCells a b c d (W.heap.size + 1) W' ∧ ((e = .returned (.bool true) ∧ J 3 W') ∨ (e = .returned (.bool false) ∧ Jx W')) := fun W1 h1 => by
          have h1' := h1
          obtain ⟨x, rfl⟩ := ext_of_below h1
          obtain ⟨fn, tmps, assign, body, hy, hRd⟩ := hY 2 _ hlt (hJ _ _ x hj) (hbr.extStep (Nat.le_trans hw.size hbr.size) x)
          exact ⟨fn, tmps, assign, body, hy, hRd.mono (fun e W' h => ⟨h.1.1, hrc.keep h1' h.1.2 (by omega), h.2⟩)⟩
        refine wpIn_region_any (by kernel_rfl) ?_
        change wpAnyIn _ _ _ _ _ _ _ _ _ (World.drew _)
        (refine wpAnyIn_take (i := 0) (v := ?_) rfl rfl (by kernel_rfl) (by kernel_rfl) (by kernel_rfl) (fun _ _ _ h => h) ⟨Or.inl ⟨by rfl, ?hy⟩, fun _ => rfl⟩ ?_); (case hy => (intro w; go_simp; try (with_reducible rfl)))
        (refine wpAnyIn_take (i := 2) (v := ?_) rfl rfl (by kernel_rfl) (by kernel_rfl) (by kernel_rfl) (fun _ _ _ h => h) ⟨Or.inl ⟨by rfl, ?hy⟩, fun _ => rfl⟩ ?_); (case hy => (intro w; go_simp; try (with_reducible rfl)))
        (refine wpAnyIn_take (i := 3) (v := ?_) rfl rfl (by kernel_rfl) (by kernel_rfl) (by kernel_rfl) (fun _ _ _ h => h) ⟨Or.inl ⟨by rfl, ?hy⟩, fun _ => rfl⟩ ?_); (case hy => (intro w; go_simp; try (with_reducible rfl)))
        (refine wpAnyIn_take (i := 4) (v := ?_) rfl rfl (by kernel_rfl) (by kernel_rfl) (by kernel_rfl) (fun _ _ _ h => h) ⟨Or.inl ⟨by rfl, ?hy⟩, fun _ => rfl⟩ ?_); (case hy => (intro w; go_simp; try (with_reducible rfl)))
        (refine wpAnyIn_take (i := 5) (v := ?_) rfl rfl (by kernel_rfl) (by kernel_rfl) (by kernel_rfl) (fun _ _ _ h => h) ⟨Or.inl ⟨by rfl, ?hy⟩, fun _ => rfl⟩ ?_); (case hy => (intro w; go_simp; try (with_reducible rfl)))
        refine wpAnyIn_ready (rs := [1, 6]) (by kernel_rfl) (by simp) ?_
        refine AllReadyIn.cons rfl (fun K hK => ?_) (AllReadyIn.cons rfl (fun K hK => ?_) AllReadyIn.nil)
        · go_simp
          refine hK _ _ ?_
          clear hK K
          refine wpAnyIn_ready (rs := [6]) (by kernel_rfl) (by simp) ?_
          refine AllReadyIn.cons rfl (fun K hK => ?_) AllReadyIn.nil
          go_simp
          refine hK _ _ ?_
          clear hK K
          (refine wpAnyIn_take (i := 7) (v := ?_) rfl rfl (by kernel_rfl) (by kernel_rfl) (by kernel_rfl) (fun _ _ _ h => h) ⟨Or.inl ⟨by rfl, ?hy⟩, fun _ => rfl⟩ ?_); (case hy => (intro w; go_simp; try (with_reducible rfl)))
          refine wpAnyIn_ready (rs := [8]) (by kernel_rfl) (by simp) ?_
          refine AllReadyIn.cons rfl (fun K hK => ?_) AllReadyIn.nil
          go_simp
          refine uponIn_yieldAt (hYk _ ?_) (fun h => (by have h0 : Fence.wide.depth.isSome = true := h; exact absurd h0 (by decide))) ?_
          · (repeat' (first | (with_reducible exact Below.refl _ _) | (with_reducible assumption) | (with_reducible refine Below.drew ?_) | (with_reducible refine Below.drewNStep ?_ _) | (with_reducible refine Below.alloc ?_ ?_ _) | (with_reducible refine Below.setCell ?_ ?_ _) | (with_reducible refine Below.extStep ?_ ?_ _) | (simp; done) | (simp; omega)))
          rintro e W3 ⟨hb3, hc3, (⟨rfl, hJ'⟩ | ⟨rfl, hJx'⟩)⟩
          · refine ⟨_, rfl, hK _ _ ?_⟩
            clear hK K
            (refine wpAnyIn_take (i := 9) (v := ?_) rfl rfl (by kernel_rfl) (by kernel_rfl) (by kernel_rfl) (fun _ _ _ h => h) ⟨Or.inl ⟨by rfl, ?hy⟩, fun _ => rfl⟩ ?_); (case hy => (intro w; go_simp; try (with_reducible rfl)))
            refine wpAnyIn_done (by kernel_rfl) ?_ _
            gi_wp2
            go_roundw
            case rel => exact ⟨3, by go_num, by omega, hc3, hJ', hb3⟩
            case measure => simp [intOf]
          · refine ⟨_, rfl, hK _ _ ?_⟩
            clear hK K
            (refine wpAnyIn_take (i := 9) (v := ?_) rfl rfl (by kernel_rfl) (by kernel_rfl) (by kernel_rfl) (fun _ _ _ h => h) ⟨Or.inl ⟨by rfl, ?hy⟩, fun _ => rfl⟩ ?_); (case hy => (intro w; go_simp; try (with_reducible rfl)))
            refine wpAnyIn_done (by kernel_rfl) ?_ _
            gi_wp2
            refine bodyPost_ret (results_none rfl _ _ _) rfl ?_
            exact ⟨⟨_, rfl⟩, hb3, .inr hJx'⟩
        · go_simp
          refine hK _ _ ?_
          clear hK K
          refine wpAnyIn_ready (rs := [1]) (by kernel_rfl) (by simp) ?_
          refine AllReadyIn.cons rfl (fun K hK => ?_) AllReadyIn.nil
          go_simp
          refine hK _ _ ?_
          clear hK K
          (refine wpAnyIn_take (i := 7) (v := ?_) rfl rfl (by kernel_rfl) (by kernel_rfl) (by kernel_rfl) (fun _ _ _ h => h) ⟨Or.inl ⟨by rfl, ?hy⟩, fun _ => rfl⟩ ?_); (case hy => (intro w; go_simp; try (with_reducible rfl)))
          refine wpAnyIn_ready (rs := [8]) (by kernel_rfl) (by simp) ?_
          refine AllReadyIn.cons rfl (fun K hK => ?_) AllReadyIn.nil
          go_simp
          refine uponIn_yieldAt (hYk _ ?_) (fun h => (by have h0 : Fence.wide.depth.isSome = true := h; exact absurd h0 (by decide))) ?_
          · (repeat' (first | (with_reducible exact Below.refl _ _) | (with_reducible assumption) | (with_reducible refine Below.drew ?_) | (with_reducible refine Below.drewNStep ?_ _) | (with_reducible refine Below.alloc ?_ ?_ _) | (with_reducible refine Below.setCell ?_ ?_ _) | (with_reducible refine Below.extStep ?_ ?_ _) | (simp; done) | (simp; omega)))
          rintro e W3 ⟨hb3, hc3, (⟨rfl, hJ'⟩ | ⟨rfl, hJx'⟩)⟩
          · refine ⟨_, rfl, hK _ _ ?_⟩
            clear hK K
            (refine wpAnyIn_take (i := 9) (v := ?_) rfl rfl (by kernel_rfl) (by kernel_rfl) (by kernel_rfl) (fun _ _ _ h => h) ⟨Or.inl ⟨by rfl, ?hy⟩, fun _ => rfl⟩ ?_); (case hy => (intro w; go_simp; try (with_reducible rfl)))
            refine wpAnyIn_done (by kernel_rfl) ?_ _
            gi_wp2
            go_roundw
            case rel => exact ⟨3, by go_num, by omega, hc3, hJ', hb3⟩
            case measure => simp [intOf]
          · refine ⟨_, rfl, hK _ _ ?_⟩
            clear hK K
            (refine wpAnyIn_take (i := 9) (v := ?_) rfl rfl (by kernel_rfl) (by kernel_rfl) (by kernel_rfl) (fun _ _ _ h => h) ⟨Or.inl ⟨by rfl, ?hy⟩, fun _ => rfl⟩ ?_); (case hy => (intro w; go_simp; try (with_reducible rfl)))
            refine wpAnyIn_done (by kernel_rfl) ?_ _
            gi_wp2
            refine bodyPost_ret (results_none rfl _ _ _) rfl ?_
            exact ⟨⟨_, rfl⟩, hb3, .inr hJx'⟩
      · gi_wp2
        have hYk : ∀ W1, Below wr.heap.size wr W1 → YieldAt Fence.wide (n - 1) Tryz.prog l #[.agg #[.int .i64 a, .int .i64 d, .int .i64 a, .int .i64 b]] W1 fun e W' => Below w.heap.size w' W' ∧ RimCells a b c d (W.heap.size + 1) W' ∧ ((e = .returned (.bool true) ∧ J 4 W') ∨ (e = .returned (.bool false) ∧ Jx W')) := fun W1 h1 => by
          have h1' := h1
          obtain ⟨x, rfl⟩ := ext_of_below h1
          obtain ⟨fn, tmps, assign, body, hy, hRd⟩ := hY 3 _ hlt (hJ _ _ x hj) (hbr.extStep (Nat.le_trans hw.size hbr.size) x)
          exact ⟨fn, tmps, assign, body, hy, hRd.mono (fun e W' h => ⟨h.1.1, hrc.keep h1' h.1.2 (by omega), h.2⟩)⟩
        refine wpIn_region_any (by kernel_rfl) ?_
        change wpAnyIn _ _ _ _ _ _ _ _ _ (World.drew _)
        (refine wpAnyIn_take (i := 0) (v := ?_) rfl rfl (by kernel_rfl) (by kernel_rfl) (by kernel_rfl) (fun _ _ _ h => h) ⟨Or.inl ⟨by rfl, ?hy⟩, fun _ => rfl⟩ ?_); (case hy => (intro w; go_simp; try (with_reducible rfl)))
        (refine wpAnyIn_take (i := 2) (v := ?_) rfl rfl (by kernel_rfl) (by kernel_rfl) (by kernel_rfl) (fun _ _ _ h => h) ⟨Or.inl ⟨by rfl, ?hy⟩, fun _ => rfl⟩ ?_); (case hy => (intro w; go_simp; try (with_reducible rfl)))
        (refine wpAnyIn_take (i := 3) (v := ?_) rfl rfl (by kernel_rfl) (by kernel_rfl) (by kernel_rfl) (fun _ _ _ h => h) ⟨Or.inl ⟨by rfl, ?hy⟩, fun _ => rfl⟩ ?_); (case hy => (intro w; go_simp; try (with_reducible rfl)))
        (refine wpAnyIn_take (i := 4) (v := ?_) rfl rfl (by kernel_rfl) (by kernel_rfl) (by kernel_rfl) (fun _ _ _ h => h) ⟨Or.inl ⟨by rfl, ?hy⟩, fun _ => rfl⟩ ?_); (case hy => (intro w; go_simp; try (with_reducible rfl)))
        (refine wpAnyIn_take (i := 5) (v := ?_) rfl rfl (by kernel_rfl) (by kernel_rfl) (by kernel_rfl) (fun _ _ _ h => h) ⟨Or.inl ⟨by rfl, ?hy⟩, fun _ => rfl⟩ ?_); (case hy => (intro w; go_simp; try (with_reducible rfl)))
        refine wpAnyIn_ready (rs := [1, 6]) (by kernel_rfl) (by simp) ?_
        refine AllReadyIn.cons rfl (fun K hK => ?_) (AllReadyIn.cons rfl (fun K hK => ?_) AllReadyIn.nil)
        · go_simp
          refine hK _ _ ?_
          clear hK K
          refine wpAnyIn_ready (rs := [6]) (by kernel_rfl) (by simp) ?_
          refine AllReadyIn.cons rfl (fun K hK => ?_) AllReadyIn.nil
          go_simp
          refine hK _ _ ?_
          clear hK K
          (refine wpAnyIn_take (i := 7) (v := ?_) rfl rfl (by kernel_rfl) (by kernel_rfl) (by kernel_rfl) (fun _ _ _ h => h) ⟨Or.inl ⟨by rfl, ?hy⟩, fun _ => rfl⟩ ?_); (case hy => (intro w; go_simp; try (with_reducible rfl)))
          refine wpAnyIn_ready (rs := [8]) (by kernel_rfl) (by simp) ?_
          refine AllReadyIn.cons rfl (fun K hK => ?_) AllReadyIn.nil
          go_simp
          refine uponIn_yieldAt (hYk _ ?_) (fun h => (by have h0 : Fence.wide.depth.isSome = true := h; exact absurd h0 (by decide))) ?_
          · (repeat' (first | (with_reducible exact Below.refl _ _) | (with_reducible assumption) | (with_reducible refine Below.drew ?_) | (with_reducible refine Below.drewNStep ?_ _) | (with_reducible refine Below.alloc ?_ ?_ _) | (with_reducible refine Below.setCell ?_ ?_ _) | (with_reducible refine Below.extStep ?_ ?_ _) | (simp; done) | (simp; omega)))
          rintro e W3 ⟨hb3, hc3, (⟨rfl, hJ'⟩ | ⟨rfl, hJx'⟩)⟩
          · refine ⟨_, rfl, hK _ _ ?_⟩
            clear hK K
            (refine wpAnyIn_take (i := 9) (v := ?_) rfl rfl (by kernel_rfl) (by kernel_rfl) (by kernel_rfl) (fun _ _ _ h => h) ⟨Or.inl ⟨by rfl, ?hy⟩, fun _ => rfl⟩ ?_); (case hy => (intro w; go_simp; try (with_reducible rfl)))
            refine wpAnyIn_done (by kernel_rfl) ?_ _
            gi_wp2
            go_roundw
            case rel => exact ⟨4, by go_num, by omega, hc3, hJ', hb3⟩
            case measure => simp [intOf]
          · refine ⟨_, rfl, hK _ _ ?_⟩
            clear hK K
            (refine wpAnyIn_take (i := 9) (v := ?_) rfl rfl (by kernel_rfl) (by kernel_rfl) (by kernel_rfl) (fun _ _ _ h => h) ⟨Or.inl ⟨by rfl, ?hy⟩, fun _ => rfl⟩ ?_); (case hy => (intro w; go_simp; try (with_reducible rfl)))
            refine wpAnyIn_done (by kernel_rfl) ?_ _
            gi_wp2
            refine bodyPost_ret (results_none rfl _ _ _) rfl ?_
            exact ⟨⟨_, rfl⟩, hb3, .inr hJx'⟩
        · go_simp
          refine hK _ _ ?_
          clear hK K
          refine wpAnyIn_ready (rs := [1]) (by kernel_rfl) (by simp) ?_
          refine AllReadyIn.cons rfl (fun K hK => ?_) AllReadyIn.nil
          go_simp
          refine hK _ _ ?_
          clear hK K
          (refine wpAnyIn_take (i := 7) (v := ?_) rfl rfl (by kernel_rfl) (by kernel_rfl) (by kernel_rfl) (fun _ _ _ h => h) ⟨Or.inl ⟨by rfl, ?hy⟩, fun _ => rfl⟩ ?_); (case hy => (intro w; go_simp; try (with_reducible rfl)))
          refine wpAnyIn_ready (rs := [8]) (by kernel_rfl) (by simp) ?_
          refine AllReadyIn.cons rfl (fun K hK => ?_) AllReadyIn.nil
          go_simp
          refine uponIn_yieldAt (hYk _ ?_) (fun h => (by have h0 : Fence.wide.depth.isSome = true := h; exact absurd h0 (by decide))) ?_
          · (repeat' (first | (with_reducible exact Below.refl _ _) | (with_reducible assumption) | (with_reducible refine Below.drew ?_) | (with_reducible refine Below.drewNStep ?_ _) | (with_reducible refine Below.alloc ?_ ?_ _) | (with_reducible refine Below.setCell ?_ ?_ _) | (with_reducible refine Below.extStep ?_ ?_ _) | (simp; done) | (simp; omega)))
          rintro e W3 ⟨hb3, hc3, (⟨rfl, hJ'⟩ | ⟨rfl, hJx'⟩)⟩
          · refine ⟨_, rfl, hK _ _ ?_⟩
            clear hK K
            (refine wpAnyIn_take (i := 9) (v := ?_) rfl rfl (by kernel_rfl) (by kernel_rfl) (by kernel_rfl) (fun _ _ _ h => h) ⟨Or.inl ⟨by rfl, ?hy⟩, fun _ => rfl⟩ ?_); (case hy => (intro w; go_simp; try (with_reducible rfl)))
            refine wpAnyIn_done (by kernel_rfl) ?_ _
            gi_wp2
            go_roundw
            case rel => exact ⟨4, by go_num, by omega, hc3, hJ', hb3⟩
            case measure => simp [intOf]
          · refine ⟨_, rfl, hK _ _ ?_⟩
            clear hK K
            (refine wpAnyIn_take (i := 9) (v := ?_) rfl rfl (by kernel_rfl) (by kernel_rfl) (by kernel_rfl) (fun _ _ _ h => h) ⟨Or.inl ⟨by rfl, ?hy⟩, fun _ => rfl⟩ ?_); (case hy => (intro w; go_simp; try (with_reducible rfl)))
            refine wpAnyIn_done (by kernel_rfl) ?_ _
            gi_wp2
            refine bodyPost_ret (results_none rfl _ _ _) rfl ?_
            exact ⟨⟨_, rfl⟩, hb3, .inr hJx'⟩
    · obtain rfl : k = 4 := by omega
      gi_wp2
      go_end0
      exact ⟨⟨_, rfl⟩, hbr, .inl hj⟩
end Go.Proofs.YtbonjgeglhbhnaaGreat
