/- visitIn. -/
import Derived.Test.YtbonjgeglhbhnaaGreatM35
import Derived.Test.YtbonjgeglhbhnaaGreatM36
import Derived.Test.YtbonjgeglhbhnaaGreatM37
import Derived.Test.YtbonjgeglhbhnaaGreatM34
import Derived.Test.YtbonjgeglhbhnaaGreatM05
set_option linter.unusedVariables false
set_option linter.unusedSimpArgs false
namespace Go.Proofs.YtbonjgeglhbhnaaGreat
open Go.RowKit

def inE (H : Hal) (S : Stg) : Int := if (hallF H).2.2 ≠ 0 then (hallF H).2.2 else setE H S
def setV (v9 v10 : Value) : Value := .agg #[v9, v10]

set_option maxRecDepth 100000 in set_option maxHeartbeats 1000000 in
theorem visitIn_bad {w : World} {H : Hal} {S : Stg} {v4 v5 v6 v7 v8 v9 v10 : Value} (hV : HalVs w v4 v5 v6 v7 v8 H) (h9 : SlcAt encInt w v9 S.hs) (h10 : SlcAt encInt w v10 S.dr) (hE : inE H S ≠ 0) :
    Calls Tryz.prog 61 #[halV H v4 v5 v6 v7 v8, .agg #[v9, v10]] w (RetX w (.tuple #[.pointer none, .int .i64 (inE H S)])) := by
  by_cases h0 : (hallF H).2.2 = 0
  · have hE' : inE H S = setE H S := by unfold inE; rw [if_neg (by simp [h0])]
    have HC := hidden (fun (W : World) (hW : Below w.heap.size w W) => visit_good (hV.below hW) h0)
    have HS := hidden (fun (W : World) (hW : Below w.heap.size w W) (b : Nat) (hR : Room W b H ⟨[], []⟩) => checkSetting_room hR (h9.below hW) (h10.below hW))
    rw [hE']
    rw [hE'] at hE
    generalize setE H S = z at *
    have q4 : (z != 0) = true := by simp [hE]
    have q5 : (z == 0) = false := by simp [hE]
    clear hE' h0
    obtain ⟨_, g4, g5, g6, g7, g8⟩ := hV; obtain ⟨A4, c4, rfl, _⟩ := slc_form g4; obtain ⟨A5, c5, rfl, _⟩ := slc_form g5; obtain ⟨A6, c6, rfl, _⟩ := slc_form g6; obtain ⟨A7, c7, rfl, _⟩ := slc_form g7; obtain ⟨A8, c8, rfl, _⟩ := slc_form g8; obtain ⟨A9, c9, rfl, _⟩ := slc_form h9; obtain ⟨A10, c10, rfl, _⟩ := slc_form h10
    clear g4 g5 g6 g7 g8
    unfold halV at *
    go_enter Tryz.func61, Tryz.ntmps61
    go_wp2_with (first | (go_at_call 63; refine (HC.out _ (by (repeat' (first | (with_reducible exact Below.refl _ _) | (with_reducible assumption) | (with_reducible refine Below.drew ?_) | (with_reducible refine Below.drewNStep ?_ _) | (with_reducible refine Below.alloc ?_ ?_ _) | (with_reducible refine Below.setCell ?_ ?_ _) | (with_reducible refine Below.extStep ?_ ?_ _) | (simp; done) | (simp; omega))))).mono ?_; rintro e w1 ⟨hB1, b, hb1, rfl, ⟨t9, t10, hRx⟩, hf1⟩; have hR1 : Room w1 b H ⟨[], []⟩ := ⟨_, _, _, _, _, _, _, hRx⟩; have hBx : Below w.heap.size w w1 := (show Below w.heap.size w _ by (repeat' (first | (with_reducible exact Below.refl _ _) | (with_reducible assumption) | (with_reducible refine Below.drew ?_) | (with_reducible refine Below.drewNStep ?_ _) | (with_reducible refine Below.alloc ?_ ?_ _) | (with_reducible refine Below.setCell ?_ ?_ _) | (with_reducible refine Below.extStep ?_ ?_ _) | (simp; done) | (simp; omega)))).trans (hB1.lower (by simp; omega)); have y3 := (Sim.of_below (D := 0) hB1).cell (p := ⟨w.heap.size + 1, 0, none⟩) (by simp [go_sem]; rfl); have y4 := (Sim.of_below (D := 0) hB1).cell (p := ⟨w.heap.size + 1, 1, none⟩) (by simp [go_sem]; rfl)) | (go_at_call 98; refine (HS.out _ hBx _ hR1).mono ?_; rintro e w' ⟨rfl, x2, rfl⟩))
    refine bodyPost_ret (v := .tuple #[.pointer none, .int .i64 z]) (by simp [results, Tryz.results61, go_sem]) rfl (retX rfl (hBx.trans ((show Below w1.heap.size w1 _ by (repeat' (first | (with_reducible exact Below.refl _ _) | (with_reducible assumption) | (with_reducible refine Below.drew ?_) | (with_reducible refine Below.drewNStep ?_ _) | (with_reducible refine Below.alloc ?_ ?_ _) | (with_reducible refine Below.setCell ?_ ?_ _) | (with_reducible refine Below.extStep ?_ ?_ _) | (simp; done) | (simp; omega)))).lower hBx.size)))
  · have hE' : inE H S = (hallF H).2.2 := by unfold inE; rw [if_pos h0]
    have HC := hidden (fun (W : World) (hW : Below w.heap.size w W) => visit_bad (hV.below hW) h0)
    rw [hE']
    generalize (hallF H).2.2 = z at *
    have q4 : (z != 0) = true := by simp [h0]
    have q5 : (z == 0) = false := by simp [h0]
    clear hE'
    obtain ⟨_, g4, g5, g6, g7, g8⟩ := hV; obtain ⟨A4, c4, rfl, _⟩ := slc_form g4; obtain ⟨A5, c5, rfl, _⟩ := slc_form g5; obtain ⟨A6, c6, rfl, _⟩ := slc_form g6; obtain ⟨A7, c7, rfl, _⟩ := slc_form g7; obtain ⟨A8, c8, rfl, _⟩ := slc_form g8; obtain ⟨A9, c9, rfl, _⟩ := slc_form h9; obtain ⟨A10, c10, rfl, _⟩ := slc_form h10
    clear g4 g5 g6 g7 g8
    unfold halV at *
    go_enter Tryz.func61, Tryz.ntmps61
    go_wp2_with (go_at_call 63; refine (HC.out _ (by (repeat' (first | (with_reducible exact Below.refl _ _) | (with_reducible assumption) | (with_reducible refine Below.drew ?_) | (with_reducible refine Below.drewNStep ?_ _) | (with_reducible refine Below.alloc ?_ ?_ _) | (with_reducible refine Below.setCell ?_ ?_ _) | (with_reducible refine Below.extStep ?_ ?_ _) | (simp; done) | (simp; omega))))).mono ?_; rintro e w' ⟨rfl, x1, rfl⟩)
    refine bodyPost_ret (v := .tuple #[.pointer none, .int .i64 z]) (by simp [results, Tryz.results61, go_sem]) rfl (retX rfl (by (repeat' (first | (with_reducible exact Below.refl _ _) | (with_reducible assumption) | (with_reducible refine Below.drew ?_) | (with_reducible refine Below.drewNStep ?_ _) | (with_reducible refine Below.alloc ?_ ?_ _) | (with_reducible refine Below.setCell ?_ ?_ _) | (with_reducible refine Below.extStep ?_ ?_ _) | (simp; done) | (simp; omega)))))

set_option maxRecDepth 100000 in set_option maxHeartbeats 1000000 in
theorem visitIn_good {w : World} {H : Hal} {S : Stg} {v4 v5 v6 v7 v8 v9 v10 : Value} (hV : HalVs w v4 v5 v6 v7 v8 H) (h9 : SlcAt encInt w v9 S.hs) (h10 : SlcAt encInt w v10 S.dr) (hE : inE H S = 0) :
    Calls Tryz.prog 61 #[halV H v4 v5 v6 v7 v8, .agg #[v9, v10]] w (fun e w' => Below w.heap.size w w' ∧ ∃ b, w.heap.size ≤ b ∧ e = .returned (.tuple #[.pointer (some ⟨b, 0, none⟩), .int .i64 0]) ∧ Room w' b H S) := by
  have h0 : (hallF H).2.2 = 0 := by
    unfold inE at hE
    by_cases h : (hallF H).2.2 = 0
    · exact h
    · rw [if_pos h] at hE; exact hE
  have hs : setE H S = 0 := by unfold inE at hE; rwa [if_neg (by simp [h0])] at hE
  have HC := hidden (fun (W : World) (hW : Below w.heap.size w W) => visit_good (hV.below hW) h0)
  have HS := hidden (fun (W : World) (hW : Below w.heap.size w W) (b : Nat) (hR : Room W b H ⟨[], []⟩) => checkSetting_room hR (h9.below hW) (h10.below hW))
  rw [hs] at HS
  have hV' := hV
  have h9' := h9
  have h10' := h10
  obtain ⟨_, g4, g5, g6, g7, g8⟩ := hV'
  obtain ⟨A4, c4, rfl, _⟩ := slc_form g4
  obtain ⟨A5, c5, rfl, _⟩ := slc_form g5
  obtain ⟨A6, c6, rfl, _⟩ := slc_form g6
  obtain ⟨A7, c7, rfl, _⟩ := slc_form g7
  obtain ⟨A8, c8, rfl, _⟩ := slc_form g8
  obtain ⟨A9, c9, rfl, _⟩ := slc_form h9'
  obtain ⟨A10, c10, rfl, _⟩ := slc_form h10'
  unfold halV at *
  go_enter Tryz.func61, Tryz.ntmps61
  go_wp2_with (first | (go_at_call 63; refine (HC.out _ (by (repeat' (first | (with_reducible exact Below.refl _ _) | (with_reducible assumption) | (with_reducible refine Below.drew ?_) | (with_reducible refine Below.drewNStep ?_ _) | (with_reducible refine Below.alloc ?_ ?_ _) | (with_reducible refine Below.setCell ?_ ?_ _) | (with_reducible refine Below.extStep ?_ ?_ _) | (simp; done) | (simp; omega))))).mono ?_; rintro e w1 ⟨hB1, b, hb1, rfl, ⟨t9, t10, hRx⟩, hf1⟩; have hR1 : Room w1 b H ⟨[], []⟩ := ⟨_, _, _, _, _, _, _, hRx⟩; have hBx : Below w.heap.size w w1 := (show Below w.heap.size w _ by (repeat' (first | (with_reducible exact Below.refl _ _) | (with_reducible assumption) | (with_reducible refine Below.drew ?_) | (with_reducible refine Below.drewNStep ?_ _) | (with_reducible refine Below.alloc ?_ ?_ _) | (with_reducible refine Below.setCell ?_ ?_ _) | (with_reducible refine Below.extStep ?_ ?_ _) | (simp; done) | (simp; omega)))).trans (hB1.lower (by simp; omega)); have y3 := (Sim.of_below (D := 0) hB1).cell (p := ⟨w.heap.size + 1, 0, none⟩) (by simp [go_sem]; rfl); have y4 := (Sim.of_below (D := 0) hB1).cell (p := ⟨w.heap.size + 1, 1, none⟩) (by simp [go_sem]; rfl); have j0 := hRx.c0; have j1 := hRx.c1; have j2 := hRx.c2; have j3 := hRx.c3; have j4 := hRx.c4; have j5 := hRx.c5; have j6 := hRx.c6; have j7 := hRx.c7; have j8 := hRx.c8; have j9 := hRx.c9; have j10 := hRx.c10; have jb := hRx.has; clear hRx; have f9 := hf1 9; have f10 := hf1 10; have gy := has_of_cell y3) | (go_at_call 98; refine (HS.out _ hBx _ hR1).mono ?_; rintro e w' ⟨rfl, x2, rfl⟩))
  have hbw : w.heap.size ≤ b := Nat.le_trans (by simp; omega) hb1
  have hgs := hBx.size
  generalize hZ : World.setCell _ _ _ = Z
  have BZ : Below w.heap.size w Z := by rw [← hZ]; exact hBx.trans (by (repeat' (first | (with_reducible exact Below.refl _ _) | (with_reducible assumption) | (with_reducible refine Below.drew ?_) | (with_reducible refine Below.drewNStep ?_ _) | (with_reducible refine Below.alloc ?_ ?_ _) | (with_reducible refine Below.setCell ?_ ?_ _) | (with_reducible refine Below.extStep ?_ ?_ _) | (simp; done) | (simp; omega))))
  refine bodyPost_ret (v := .tuple #[.pointer (some ⟨b, 0, none⟩), .int .i64 0]) (by simp [results, Tryz.results61, go_sem]) rfl ⟨BZ, b, hbw, rfl, ?_⟩
  refine ⟨_, _, _, _, _, _, _, ⟨?_, ?_, ?_, ?_, ?_, ?_, ?_, ?_, ?_, ?_, ?_, ?_, hV.below BZ, h9.below BZ, h10.below BZ⟩⟩
  · rw [← hZ]; simp [jb]
  · rw [← hZ]; simp [go_sem, j0, jb]
  · rw [← hZ]; simp [go_sem, j1, jb]
  · rw [← hZ]; simp [go_sem, j2, jb]
  · rw [← hZ]; simp [go_sem, j3, jb]
  · rw [← hZ]; simp [go_sem, j4, jb]
  · rw [← hZ]; simp [go_sem, j5, jb]
  · rw [← hZ]; simp [go_sem, j6, jb]
  · rw [← hZ]; simp [go_sem, j7, jb]
  · rw [← hZ]; simp [go_sem, j8, jb]
  · rw [← hZ]; simp [go_sem, j9, j10, jb]
  · rw [← hZ]; simp [go_sem, j9, j10, jb]
end Go.Proofs.YtbonjgeglhbhnaaGreat

/- IsFree. -/
namespace Go.Proofs.YtbonjgeglhbhnaaGreat
open Go.RowKit

theorem setE_parts {H : Hal} {S : Stg} (h : setE H S = 0) : S.hs.length = H.cans.length ∧ (∀ j, j < S.hs.length → sthE H S j = 0) ∧ (∀ j, j < S.dr.length → stdE H S j = 0) := by
  unfold setE at h
  split at h
  · exact absurd h (by decide)
  · rename_i h1
    split at h
    · rename_i h2; exact absurd h h2
    · rename_i h2
      have h2 : firstE (sthE H S) S.hs.length = 0 := by simpa using h2
      exact ⟨by omega, firstE_zero h2, firstE_zero h⟩
theorem inE_parts {H : Hal} {S : Stg} (h : inE H S = 0) : (hallF H).2.2 = 0 ∧ setE H S = 0 := by
  unfold inE at h
  by_cases h0 : (hallF H).2.2 = 0
  · rw [if_neg (by simp [h0])] at h; exact ⟨h0, h⟩
  · rw [if_pos h0] at h; exact absurd h h0
theorem canZ_in {H : Hal} {S : Stg} (hi : inE H S = 0) : ∀ i, i < H.cans.length → i < S.hs.length ∧ 0 ≤ intAt S.hs i ∧ intAt S.hs i < (canAt H.cans i).hs.length ∧ -10000 ≤ canZ H S i ∧ canZ H S i ≤ 10000 := by
  obtain ⟨h0, hs⟩ := inE_parts hi
  have hok := hall_ok h0
  obtain ⟨p1, p2, p3⟩ := setE_parts hs
  intro i hlt
  have hc := hok.can hlt
  have h1 := p2 i (by omega)
  unfold sthE at h1
  split at h1
  · exact absurd h1 (by decide)
  split at h1
  · exact absurd h1 (by decide)
  have h5 := hok.h5
  have hz := hc.hz (intAt S.hs i).toNat (by omega)
  refine ⟨by omega, by omega, by omega, ?_, ?_⟩ <;> (unfold canZ; omega)
end Go.Proofs.YtbonjgeglhbhnaaGreat

/- A store of a surface (seven cells, one of them a function). -/
namespace Go.Proofs.YtbonjgeglhbhnaaGreat
open Go.RowKit Go.Shelf
@[reducible] def set7 (W : World) (B : Nat) (k a : Int) (m : ByteArray) (lo hi sd : Int) (f : Value) : World :=
  ((((((W.setCell ⟨B, 0, none⟩ (.int .i64 k)).setCell ⟨B, 1, none⟩ (.int .i64 a)).setCell ⟨B, 2, none⟩ (.string m)).setCell ⟨B, 3, none⟩ (.int .i64 lo)).setCell ⟨B, 4, none⟩ (.int .i64 hi)).setCell ⟨B, 5, none⟩ (.int .i64 sd)).setCell ⟨B, 6, none⟩ f
/-- a block of a surface's seven cells, as made -/
structure Seven (W : World) (B : Nat) : Prop where
  c0 : W.cell? ⟨B, 0, none⟩ = some (.int .i64 0)
  c1 : W.cell? ⟨B, 1, none⟩ = some (.int .i64 0)
  c2 : W.cell? ⟨B, 2, none⟩ = some (.string ⟨#[]⟩)
  c3 : W.cell? ⟨B, 3, none⟩ = some (.int .i64 0)
  c4 : W.cell? ⟨B, 4, none⟩ = some (.int .i64 0)
  c5 : W.cell? ⟨B, 5, none⟩ = some (.int .i64 0)
  c6 : W.cell? ⟨B, 6, none⟩ = some .nilFunc
  fr : ∀ i, W.frozen? ⟨B, i, none⟩ = false
theorem run_store_func {P : Program} {W : World} {a : Addr} {u : Value} {f : Fn} {p c : Array Value} (h : W.cell? a = some u) (hf : W.frozen? a = false) : (store a (.func f p c)).run P W = .ok () (W.setCell a (.func f p c)) := by
  simp [store, Sem.run, h, hf]
set_option maxRecDepth 100000 in set_option maxHeartbeats 400000 in
theorem store_surf (W : World) (B : Nat) (k a : Int) (m : ByteArray) (lo hi sd : Int) (fn : Nat) (pre cap : Array Value) (h : Seven W B) : (Instr.storeAt 131 (.pointer (some ⟨B, 0, none⟩)) (.agg #[.int .i64 k, .int .i64 a, .string m, .int .i64 lo, .int .i64 hi, .int .i64 sd, .func (.func fn) pre cap])).run Tryz.prog W = .ok () (set7 W B k a m lo hi sd (.func (.func fn) pre cap)) := by
  obtain ⟨h0, h1, h2, h3, h4, h5, h6, hf⟩ := h
  have hB := has_of_cell h0
  unfold set7
  simp [go_sem, h0, h1, h2, h3, h4, h5, h6, hf, hB]
  refine run_store_func (u := .nilFunc) ?_ ?_ <;> simp [go_sem, h0, h1, h2, h3, h4, h5, h6, hf, hB]
theorem Oper.wp_store {P : Program} {o : Oper} {T : TypeId} {x v : Operand} {a : Act} {w W' : World} {K : Act → World → Prop} {Q : Exit → Act → World → Prop} (hop : o.op = .store T x v) (h : (Instr.storeAt T (a.eval x) (a.eval v)).run P w = .ok () W') (hk : K (a.put o.dst undef) W') : o.wp P a w K Q := by
  have : (execOp a.eval o).run P w = .ok .skip W' := by
    unfold execOp
    rw [hop]
    simp only [Sem.run_bind, h]
    rfl
  unfold Oper.wp
  rw [this]
  exact hk
theorem Oper.wpIn_store {n : Nat} {P : Program} {o : Oper} {T : TypeId} {x v : Operand} {a : Act} {w W' : World} {K : Act → World → Prop} {Q : Exit → Act → World → Prop} (hop : o.op = .store T x v) (h : (Instr.storeAt T (a.eval x) (a.eval v)).run P w = .ok () W') (hk : K (a.put o.dst undef) W') : o.wpIn Fence.wide n P a w K Q := by
  have : (execOp a.eval o).run P w = .ok .skip W' := by
    unfold execOp
    rw [hop]
    simp only [Sem.run_bind, h]
    rfl
  refine ⟨fun _ _ => trivial, ?_⟩
  rw [Oper.semAt_eq _ _ _ (fun c hc => by rw [hop] at hc; cases hc), this]
  exact hk
theorem Oper.effs_store {P : Program} {o : Oper} {T : TypeId} {x v : Operand} {a : Act} {w W' : World} {K : Act → World → Prop} (hop : o.op = .store T x v) (h : (Instr.storeAt T (a.eval x) (a.eval v)).run P w = .ok () W') (hk : K (a.put o.dst undef) W') : o.effs P a w K :=
  Oper.wp_store hop h ⟨Act.defers_put _ _ _, hk⟩
end Go.Proofs.YtbonjgeglhbhnaaGreat

/- level. -/
namespace Go.Proofs.YtbonjgeglhbhnaaGreat
open Go.RowKit Go.Shelf
attribute [local go_sem] Oper.semAt_some

def surfV (k a : Int) (m : ByteArray) (lo hi sides : Int) (f : Value) : Value := .agg #[.int .i64 k, .int .i64 a, .string m, .int .i64 lo, .int .i64 hi, .int .i64 sides, f]
theorem set7_below {W : World} {B n : Nat} {k a : Int} {m : ByteArray} {lo hi sd : Int} {f : Value} {w : World} (h : Below n w W) (hB : n ≤ B) : Below n w (set7 W B k a m lo hi sd f) := by
  unfold set7
  repeat' (refine Below.setCell ?_ (by first | exact hB | omega) _)
  exact h
theorem set7_cells {W : World} {B : Nat} (k a : Int) (m : ByteArray) (lo hi sd : Int) (fn : Nat) (pre cap : Array Value) (h : Seven W B) :
    (set7 W B k a m lo hi sd (.func (.func fn) pre cap)).cell? ⟨B, 0, none⟩ = some (.int .i64 k) ∧ (set7 W B k a m lo hi sd (.func (.func fn) pre cap)).cell? ⟨B, 1, none⟩ = some (.int .i64 a) ∧ (set7 W B k a m lo hi sd (.func (.func fn) pre cap)).cell? ⟨B, 2, none⟩ = some (.string m) ∧
    (set7 W B k a m lo hi sd (.func (.func fn) pre cap)).cell? ⟨B, 3, none⟩ = some (.int .i64 lo) ∧ (set7 W B k a m lo hi sd (.func (.func fn) pre cap)).cell? ⟨B, 4, none⟩ = some (.int .i64 hi) ∧ (set7 W B k a m lo hi sd (.func (.func fn) pre cap)).cell? ⟨B, 5, none⟩ = some (.int .i64 sd) ∧
    (set7 W B k a m lo hi sd (.func (.func fn) pre cap)).cell? ⟨B, 6, none⟩ = some (.func (.func fn) pre cap) := by
  obtain ⟨h0, h1, h2, h3, h4, h5, h6, hf⟩ := h
  have hB := has_of_cell h0
  unfold set7
  refine ⟨?_, ?_, ?_, ?_, ?_, ?_, ?_⟩ <;> simp [go_sem, h0, h1, h2, h3, h4, h5, h6, hB]

set_option maxRecDepth 100000 in set_option maxHeartbeats 1000000 in
theorem level_room {w : World} {b : Nat} {H : Hal} {S : Stg} (hR : Room w b H S) (hC : CorsIn H) (hN : H.cors.length ≤ 20) (hA : 0 < areaTo H H.cors.length) (z : Int) (m : ByteArray) :
    Calls Tryz.prog 108 #[.pointer (some ⟨b, 0, none⟩), .int .i64 z, .string m] w (RetX w (surfV 2 z m (areaTo H H.cors.length / 2) ((areaTo H H.cors.length + 1) / 2) 1 (.func (.func 113) #[.pointer (some ⟨b, 0, none⟩)] #[]))) := by
  have HA := hidden (fun (W : World) (hW : Below w.heap.size w W) => twiceArea_room (hR.below hW) hC hN)
  have hbd := areaTo_bd hC H.cors.length (Nat.le_refl _)
  have hbb : w.Has b := by obtain ⟨_, _, _, _, _, _, _, h⟩ := hR; exact h.has
  generalize areaTo H H.cors.length = a at *
  have ha : a ≤ 1000000000 := by omega
  have e1 : IntKind.i64.wrap (a + 1) = a + 1 := IntWalk.i64_in _ (by omega)
  have e2 : IntKind.i64.wrap (a / 2) = a / 2 := IntWalk.i64_in _ (by omega)
  have e3 : IntKind.i64.wrap ((a + 1) / 2) = (a + 1) / 2 := IntWalk.i64_in _ (by omega)
  have a0 : 0 ≤ a := by omega
  have a1 : 0 ≤ a + 1 := by omega
  clear hbd hR
  unfold surfV
  have HSt : ∀ x : Ext, ∀ f1 f2 : Int, (Instr.storeAt 131 (.pointer (some ⟨w.heap.size, 0, none⟩)) (.agg #[.int .i64 2, .int .i64 z, .string m, .int .i64 f1, .int .i64 f2, .int .i64 1, .func (.func 113) #[.pointer (some ⟨b, 0, none⟩)] #[]])).run Tryz.prog ((w.alloc (.cells #[.int .i64 0, .int .i64 0, .string ⟨#[]⟩, .int .i64 0, .int .i64 0, .int .i64 0, .nilFunc] 131)).ext x) = .ok () (set7 ((w.alloc (.cells #[.int .i64 0, .int .i64 0, .string ⟨#[]⟩, .int .i64 0, .int .i64 0, .int .i64 0, .nilFunc] 131)).ext x) w.heap.size 2 z m f1 f2 1 (.func (.func 113) #[.pointer (some ⟨b, 0, none⟩)] #[])) := fun x f1 f2 => store_surf _ _ _ _ _ _ _ _ _ _ _ (by constructor <;> simp [go_sem])
  refine (callsIn_wide (n := 10)).1 ?_
  refine callsIn_of_wp Tryz.func108 rfl trivial ?_ rfl
  simp only [Tryz.ntmps108, List.size_toArray, List.length_cons, List.length_nil, Nat.reduceAdd, Nat.reduceSub, Array.replicate_succ, Array.replicate_zero, List.push_toArray, List.append_toArray, List.nil_append, List.cons_append]
  gi_wp2
  (refine ⟨trivial, ?_⟩; ((with_reducible refine (callsIn_wide.2 (HA.out _ ?hk)).mono ?_); (case hk => (repeat' (first | (with_reducible exact Below.refl _ _) | (with_reducible assumption) | (with_reducible refine Below.drew ?_) | (with_reducible refine Below.drewNStep ?_ _) | (with_reducible refine Below.alloc ?_ ?_ _) | (with_reducible refine Below.setCell ?_ ?_ _) | (with_reducible refine Below.extStep ?_ ?_ _) | (simp; done) | (simp; omega)))); rintro e w' ⟨rfl, x1, rfl⟩))
  gi_wp2_with (refine Oper.wpIn_store rfl (HSt _ _ _) ?_)
  obtain ⟨z0, z1, z2, z3, z4, z5, z6⟩ := set7_cells 2 z m (a / 2) ((a + 1) / 2) 1 113 #[.pointer (some ⟨b, 0, none⟩)] #[] (show Seven ((w.alloc (.cells #[.int .i64 0, .int .i64 0, .string ⟨#[]⟩, .int .i64 0, .int .i64 0, .int .i64 0, .nilFunc] 131)).ext x1) w.heap.size by constructor <;> simp [go_sem])
  refine bodyPost_ret (v := .agg #[.int .i64 2, .int .i64 z, .string m, .int .i64 (a / 2), .int .i64 ((a + 1) / 2), .int .i64 1, .func (.func 113) #[.pointer (some ⟨b, 0, none⟩)] #[]]) ?_ rfl (retX rfl (set7_below (by (repeat' (first | (with_reducible exact Below.refl _ _) | (with_reducible assumption) | (with_reducible refine Below.drew ?_) | (with_reducible refine Below.drewNStep ?_ _) | (with_reducible refine Below.alloc ?_ ?_ _) | (with_reducible refine Below.setCell ?_ ?_ _) | (with_reducible refine Below.extStep ?_ ?_ _) | (simp; done) | (simp; omega)))) (Nat.le_refl _)))
  simp [results, Tryz.results108, go_sem, z0, z1, z2, z3, z4, z5, z6]
end Go.Proofs.YtbonjgeglhbhnaaGreat

/- curtains, of a hall without. -/
namespace Go.Proofs.YtbonjgeglhbhnaaGreat
open Go.RowKit Go.Shelf
attribute [local go_sem] Oper.semAt_some

set_option maxRecDepth 100000 in set_option maxHeartbeats 1000000 in
theorem curtains_none {w : World} {b : Nat} {H : Hal} {S : Stg} (hR : Room w b H S) (hno : ∀ k, k < H.wals.length → (walAt H.wals k).cur = ⟨#[]⟩) :
    Calls Tryz.prog 100 #[.pointer (some ⟨b, 0, none⟩)] w (RetX w (.slice none 0 0)) := by
  obtain ⟨v4, v5, v6, v7, v8, u9, u10, hR⟩ := hR
  obtain ⟨A6, c6, rfl, hS6⟩ := slc_form hR.hal.wals
  have l6 := hS6.1
  have h6 := hR.c6
  have hb := hR.has
  clear hR
  refine (callsIn_wide (n := 10)).1 ?_
  refine callsIn_of_wp Tryz.func100 rfl trivial ?_ rfl
  simp only [Tryz.ntmps100, List.size_toArray, List.length_cons, List.length_nil, Nat.reduceAdd, Nat.reduceSub, Array.replicate_succ, Array.replicate_zero, List.push_toArray, List.append_toArray, List.nil_append, List.cons_append]
  gi_wp2
  gi_loopw [3, 12] (fun l i wr => l = .slice none 0 0 ∧ ∃ k : Nat, i = .int .i64 k ∧ k ≤ H.wals.length ∧ Below w.heap.size w wr) (fun _ i _ => H.wals.length - (intOf i).toNat)
  case atStart => exact ⟨rfl, 0, rfl, Nat.zero_le _, Below.refl _ _⟩
  case round =>
    obtain ⟨rfl, k, rfl, hk, hB⟩ := hrel
    have hgs := hB.size
    rcases Nat.lt_or_ge k H.wals.length with hlt | hge
    · obtain ⟨g, o, rfl, hg, hcs⟩ := wal_at (hS6.below hB) hlt
      obtain ⟨k0, k1, k2⟩ := hcs k hlt
      rw [hno k hlt] at k2
      clear hcs hS6 h6 hno
      generalize (walAt H.wals k).name = n0 at *
      generalize (walAt H.wals k).mat = n1 at *
      generalize H.wals.length = N at *
      gi_wp2
      exact ⟨⟨rfl, k + 1, by simp, by omega, hB.trans ((show Below wr.heap.size wr _ by (repeat' (first | (with_reducible exact Below.refl _ _) | (with_reducible assumption) | (with_reducible refine Below.drew ?_) | (with_reducible refine Below.drewNStep ?_ _) | (with_reducible refine Below.alloc ?_ ?_ _) | (with_reducible refine Below.setCell ?_ ?_ _) | (with_reducible refine Below.extStep ?_ ?_ _) | (simp; done) | (simp; omega)))).lower hB.size)⟩, by simp [intOf]; omega⟩
    · obtain rfl : k = H.wals.length := by omega
      gi_wp2
      refine bodyPost_ret (v := .slice none 0 0) (by simp [results, Tryz.results100, go_sem]) rfl (retX rfl (hB.trans (by (repeat' (first | (with_reducible exact Below.refl _ _) | (with_reducible assumption) | (with_reducible refine Below.drew ?_) | (with_reducible refine Below.drewNStep ?_ _) | (with_reducible refine Below.alloc ?_ ?_ _) | (with_reducible refine Below.setCell ?_ ?_ _) | (with_reducible refine Below.extStep ?_ ?_ _) | (simp; done) | (simp; omega))))))
end Go.Proofs.YtbonjgeglhbhnaaGreat

/- base.Ints. -/
namespace Go.Proofs.YtbonjgeglhbhnaaGreat
open Go.RowKit Go.Shelf

theorem ints_no {xs ys : List Int} {k : Nat} (hx : k < xs.length) (hl : xs.length = ys.length) (h : intAt xs k ≠ intAt ys k) : decide (xs = ys) = false := by
  apply decide_eq_false
  rintro rfl
  exact h rfl
theorem ints_yes {xs ys : List Int} (hl : xs.length = ys.length) (h : ∀ k, k < xs.length → intAt xs k = intAt ys k) : decide (xs = ys) = true := by
  apply decide_eq_true
  apply List.ext_getElem hl
  intro k h1 h2
  have := h k h1
  rwa [intAt_get h1, intAt_get h2] at this

set_option maxRecDepth 100000 in set_option maxHeartbeats 1000000 in
theorem Ints_any (xs ys : List Int) (A A' : Option Addr) (c c' : Nat) (w : World) (hX : SlcAt encInt w (.slice A xs.length c) xs) (hY : SlcAt encInt w (.slice A' ys.length c') ys) :
    Calls Tryz.prog 53 #[.slice A xs.length c, .slice A' ys.length c'] w (RetX w (.bool (decide (xs = ys)))) := by
  have hl := hX.1
  have hl' := hY.1
  refine (callsIn_wide (n := 10)).1 ?_
  refine callsIn_of_wp Tryz.func53 rfl trivial ?_ rfl
  simp only [Tryz.ntmps53, List.size_toArray, List.length_cons, List.length_nil, Nat.reduceAdd, Nat.reduceSub, Array.replicate_succ, Array.replicate_zero, List.push_toArray, List.append_toArray, List.nil_append, List.cons_append]
  by_cases hn : xs.length = ys.length
  · have q1 : ((xs.length : Int) != (ys.length : Int)) = false := by simp [hn]
    gi_wp2
    gi_loopw [5] (fun i wr => ∃ k : Nat, i = .int .i64 k ∧ k ≤ xs.length ∧ Below w.heap.size w wr ∧ ∀ j, j < k → intAt xs j = intAt ys j) (fun i _ => xs.length - (intOf i).toNat)
    case atStart => exact ⟨0, rfl, Nat.zero_le _, Below.refl _ _, fun j hj => absurd hj (Nat.not_lt_zero j)⟩
    case round =>
      obtain ⟨k, rfl, hk, hB, hno⟩ := hrel
      have hgs := hB.size
      rcases Nat.lt_or_ge k xs.length with hlt | hge
      · obtain ⟨g, o, rfl, hg, hcs⟩ := int_at (hX.below hB) hlt
        obtain ⟨g', o', rfl, hg', hcs'⟩ := int_at (hY.below hB) (show k < ys.length by omega)
        have k0 := hcs k hlt
        have k1 := hcs' k (by omega)
        have hst := hidden (fun h => ints_no (xs := xs) (ys := ys) hlt hn h)
        have hgo : Hid (intAt xs k = intAt ys k → ∀ j, j < k + 1 → intAt xs j = intAt ys j) := fun he j hj => by
          rcases Nat.lt_or_ge j k with h | h
          · exact hno j h
          · obtain rfl : j = k := by omega
            exact he
        clear hcs hcs' hX hY hno
        generalize intAt xs k = a at *
        generalize intAt ys k = b at *
        generalize xs.length = N at *
        generalize ys.length = M at *
        subst hn
        cases q : (a != b) with
        | true =>
          have hz := hidden (hst.out (by simpa using q))
          gi_wp2
          refine wpIn_wide.2 ?_
          (refine wp_region_tameX (by kernel_rfl) (by kernel_rfl) ?_); (repeat (first | (refine wpTame_skip rfl ?_; simp only [Act.put, List.setIfInBounds_toArray, List.set_cons_succ, List.set_cons_zero]) | (refine wpTame_pure rfl rfl rfl (fun K hK => ?_); go_big_quiet_op; refine hK _ ?_; clear hK K) | (refine wpTame_eff rfl rfl (fun K hK => ?_); go_big_op; (first | fail | skip); (refine hK _ _ rfl (ext_of_below (by (repeat' (first | (with_reducible exact Below.refl _ _) | (with_reducible assumption) | (with_reducible refine Below.drew ?_) | (with_reducible refine Below.drewNStep ?_ _) | (with_reducible refine Below.alloc ?_ ?_ _) | (with_reducible refine Below.setCell ?_ ?_ _) | (with_reducible refine Below.extStep ?_ ?_ _) | (simp; done) | (simp; omega))))) ?_; clear hK K)))); (refine wpTame_nil ?_)
          gi_wp2
          refine bodyPost_ret (v := .bool false) (by simp [results, Tryz.results53, go_sem]) rfl (retX (by rw [hz.out]) (hB.trans (by (repeat' (first | (with_reducible exact Below.refl _ _) | (with_reducible assumption) | (with_reducible refine Below.drew ?_) | (with_reducible refine Below.drewNStep ?_ _) | (with_reducible refine Below.alloc ?_ ?_ _) | (with_reducible refine Below.setCell ?_ ?_ _) | (with_reducible refine Below.extStep ?_ ?_ _) | (simp; done) | (simp; omega))))))
        | false =>
          have hz := hidden (hgo.out (by simpa using q))
          gi_wp2
          refine wpIn_wide.2 ?_
          (refine wp_region_tameX (by kernel_rfl) (by kernel_rfl) ?_); (repeat (first | (refine wpTame_skip rfl ?_; simp only [Act.put, List.setIfInBounds_toArray, List.set_cons_succ, List.set_cons_zero]) | (refine wpTame_pure rfl rfl rfl (fun K hK => ?_); go_big_quiet_op; refine hK _ ?_; clear hK K) | (refine wpTame_eff rfl rfl (fun K hK => ?_); go_big_op; (first | fail | skip); (refine hK _ _ rfl (ext_of_below (by (repeat' (first | (with_reducible exact Below.refl _ _) | (with_reducible assumption) | (with_reducible refine Below.drew ?_) | (with_reducible refine Below.drewNStep ?_ _) | (with_reducible refine Below.alloc ?_ ?_ _) | (with_reducible refine Below.setCell ?_ ?_ _) | (with_reducible refine Below.extStep ?_ ?_ _) | (simp; done) | (simp; omega))))) ?_; clear hK K)))); (refine wpTame_nil ?_)
          gi_wp2
          exact ⟨⟨k + 1, by simp, by omega, hB.trans ((show Below wr.heap.size wr _ by (repeat' (first | (with_reducible exact Below.refl _ _) | (with_reducible assumption) | (with_reducible refine Below.drew ?_) | (with_reducible refine Below.drewNStep ?_ _) | (with_reducible refine Below.alloc ?_ ?_ _) | (with_reducible refine Below.setCell ?_ ?_ _) | (with_reducible refine Below.extStep ?_ ?_ _) | (simp; done) | (simp; omega)))).lower hB.size), hz.out⟩, by simp [intOf]; omega⟩
      · obtain rfl : k = xs.length := by omega
        have hz := hidden (ints_yes hn hno)
        gi_wp2
        refine bodyPost_ret (v := .bool true) (by simp [results, Tryz.results53, go_sem]) rfl (retX (by rw [hz.out]) hB)
  · have q1 : ((xs.length : Int) != (ys.length : Int)) = true := by simp; omega
    have hz : Hid (decide (xs = ys) = false) := decide_eq_false (fun h => hn (by rw [h]))
    generalize xs.length = n at *
    generalize ys.length = m at *
    gi_wp2
    refine bodyPost_ret (v := .bool false) (by simp [results, Tryz.results53, go_sem]) rfl (retX (by rw [hz.out]) ?_)
    (repeat' (first | (with_reducible exact Below.refl _ _) | (with_reducible assumption) | (with_reducible refine Below.drew ?_) | (with_reducible refine Below.drewNStep ?_ _) | (with_reducible refine Below.alloc ?_ ?_ _) | (with_reducible refine Below.setCell ?_ ?_ _) | (with_reducible refine Below.extStep ?_ ?_ _) | (simp; done) | (simp; omega)))
end Go.Proofs.YtbonjgeglhbhnaaGreat
