/- surfaceIn. -/
import Derived.Test.YtbonjgeglhbhnaaGreatM38
import Derived.Test.YtbonjgeglhbhnaaGreatM42
set_option linter.unusedVariables false
set_option linter.unusedSimpArgs false
namespace Go.Proofs.YtbonjgeglhbhnaaGreat
open Go.RowKit Go.Shelf
attribute [local go_sem] Oper.semAt_some

def surf0 : Value := .agg #[.int .i64 0, .int .i64 0, .string ⟨#[]⟩, .int .i64 0, .int .i64 0, .int .i64 0, .nilFunc]

theorem run_store_nilf {P : Program} {W : World} {a : Addr} {u : Value} (h : W.cell? a = some u) (hf : W.frozen? a = false) : (store a .nilFunc).run P W = .ok () (W.setCell a .nilFunc) := by
  simp [store, Sem.run, h, hf]
set_option maxRecDepth 100000 in set_option maxHeartbeats 400000 in
theorem store_surf0 (W : World) (B : Nat) (h : Seven W B) : (Instr.storeAt 131 (.pointer (some ⟨B, 0, none⟩)) (.agg #[.int .i64 0, .int .i64 0, .string ⟨#[]⟩, .int .i64 0, .int .i64 0, .int .i64 0, .nilFunc])).run Tryz.prog W = .ok () (set7 W B 0 0 ⟨#[]⟩ 0 0 0 .nilFunc) := by
  obtain ⟨h0, h1, h2, h3, h4, h5, h6, hf⟩ := h
  have hB := has_of_cell h0
  unfold set7
  simp [go_sem, h0, h1, h2, h3, h4, h5, h6, hf, hB]
  first | done | (refine run_store_nilf (u := .nilFunc) ?_ ?_ <;> simp [go_sem, h0, h1, h2, h3, h4, h5, h6, hf, hB])
theorem set7_cells0 {W : World} {B : Nat} (h : Seven W B) : Seven (set7 W B 0 0 ⟨#[]⟩ 0 0 0 .nilFunc) B := by
  obtain ⟨h0, h1, h2, h3, h4, h5, h6, hf⟩ := h
  have hB := has_of_cell h0
  unfold set7
  constructor <;> simp [go_sem, h0, h1, h2, h3, h4, h5, h6, hf, hB]

set_option maxRecDepth 100000 in set_option maxHeartbeats 1000000 in
theorem surfaceIn_bad {w : World} {H : Hal} {S : Stg} {v4 v5 v6 v7 v8 v9 v10 : Value} (hV : HalVs w v4 v5 v6 v7 v8 H) (h9 : SlcAt encInt w v9 S.hs) (h10 : SlcAt encInt w v10 S.dr) (n : Int) (hE : inE H S ≠ 0) :
    Calls Tryz.prog 68 #[halV H v4 v5 v6 v7 v8, .agg #[v9, v10], .int .i64 n] w (RetX w (.tuple #[.pointer none, surf0, .int .i64 (inE H S)])) := by
  have HC := hidden (fun (W : World) (hW : Below w.heap.size w W) => visitIn_bad (hV.below hW) (h9.below hW) (h10.below hW) hE)
  have hq : (inE H S == 0) = false := by simpa using hE
  generalize inE H S = z at *
  obtain ⟨_, g4, g5, g6, g7, g8⟩ := hV
  obtain ⟨A4, c4, rfl, _⟩ := slc_form g4
  obtain ⟨A5, c5, rfl, _⟩ := slc_form g5
  obtain ⟨A6, c6, rfl, _⟩ := slc_form g6
  obtain ⟨A7, c7, rfl, _⟩ := slc_form g7
  obtain ⟨A8, c8, rfl, _⟩ := slc_form g8
  obtain ⟨A9, c9, rfl, _⟩ := slc_form h9
  obtain ⟨A10, c10, rfl, _⟩ := slc_form h10
  unfold halV surf0 at *
  refine (callsIn_wide (n := 10)).1 ?_
  refine callsIn_of_wp Tryz.func68 rfl trivial ?_ rfl
  simp only [Tryz.ntmps68, List.size_toArray, List.length_cons, List.length_nil, Nat.reduceAdd, Nat.reduceSub, Array.replicate_succ, Array.replicate_zero, List.push_toArray, List.append_toArray, List.nil_append, List.cons_append]
  gi_wp2
  (refine ⟨trivial, ?_⟩; ((with_reducible refine (callsIn_wide.2 (HC.out _ ?hk)).mono ?_); (case hk => (repeat' (first | (with_reducible exact Below.refl _ _) | (with_reducible assumption) | (with_reducible refine Below.drew ?_) | (with_reducible refine Below.drewNStep ?_ _) | (with_reducible refine Below.alloc ?_ ?_ _) | (with_reducible refine Below.setCell ?_ ?_ _) | (with_reducible refine Below.extStep ?_ ?_ _) | (simp; done) | (simp; omega)))); rintro e w1 ⟨rfl, x1, rfl⟩))
  generalize hX : World.ext _ _ = X
  have h7 : Seven X (w.heap.size + 2) := by rw [← hX]; constructor <;> simp [go_sem]
  have BX : Below w.heap.size w X := by rw [← hX]; (repeat' (first | (with_reducible exact Below.refl _ _) | (with_reducible assumption) | (with_reducible refine Below.drew ?_) | (with_reducible refine Below.drewNStep ?_ _) | (with_reducible refine Below.alloc ?_ ?_ _) | (with_reducible refine Below.setCell ?_ ?_ _) | (with_reducible refine Below.extStep ?_ ?_ _) | (simp; done) | (simp; omega)))
  clear hX
  gi_wp2_with (refine Oper.wpIn_store rfl (store_surf0 _ _ h7) ?_)
  obtain ⟨z0, z1, z2, z3, z4, z5, z6, _⟩ := set7_cells0 h7
  refine bodyPost_ret (v := .tuple #[.pointer none, .agg #[.int .i64 0, .int .i64 0, .string ⟨#[]⟩, .int .i64 0, .int .i64 0, .int .i64 0, .nilFunc], .int .i64 z]) ?_ rfl (retX rfl (set7_below (n := w.heap.size) BX (by omega)))
  simp [results, Tryz.results68, go_sem, z0, z1, z2, z3, z4, z5, z6]

set_option maxRecDepth 100000 in set_option maxHeartbeats 1000000 in
theorem surfaceIn_missing {w : World} {H : Hal} {S : Stg} {v4 v5 v6 v7 v8 v9 v10 : Value} (hV : HalVs w v4 v5 v6 v7 v8 H) (h9 : SlcAt encInt w v9 S.hs) (h10 : SlcAt encInt w v10 S.dr) (n : Int) (hE : inE H S = 0) (hn : n < 0 ∨ (H.wals.length : Int) + 2 + H.cans.length ≤ n) :
    Calls Tryz.prog 68 #[halV H v4 v5 v6 v7 v8, .agg #[v9, v10], .int .i64 n] w (RetX w (.tuple #[.pointer none, surf0, .int .i64 6])) := by
  have HC := hidden (fun (W : World) (hW : Below w.heap.size w W) => visitIn_good (hV.below hW) (h9.below hW) (h10.below hW) hE)
  have HN := hidden (fun (W : World) (b : Nat) (hR : Room W b H S) => countSurfaces_room hR)
  obtain ⟨_, g4, g5, g6, g7, g8⟩ := hV
  obtain ⟨A4, c4, rfl, _⟩ := slc_form g4
  obtain ⟨A5, c5, rfl, _⟩ := slc_form g5
  obtain ⟨A6, c6, rfl, _⟩ := slc_form g6
  obtain ⟨A7, c7, rfl, _⟩ := slc_form g7
  obtain ⟨A8, c8, rfl, _⟩ := slc_form g8
  obtain ⟨A9, c9, rfl, _⟩ := slc_form h9
  obtain ⟨A10, c10, rfl, _⟩ := slc_form h10
  generalize hNN : (H.wals.length : Int) + 2 + H.cans.length = N at *
  unfold halV surf0 at *
  refine (callsIn_wide (n := 10)).1 ?_
  refine callsIn_of_wp Tryz.func68 rfl trivial ?_ rfl
  simp only [Tryz.ntmps68, List.size_toArray, List.length_cons, List.length_nil, Nat.reduceAdd, Nat.reduceSub, Array.replicate_succ, Array.replicate_zero, List.push_toArray, List.append_toArray, List.nil_append, List.cons_append]
  gi_wp2
  (refine ⟨trivial, ?_⟩; ((with_reducible refine (callsIn_wide.2 (HC.out _ ?hk)).mono ?_); (case hk => (repeat' (first | (with_reducible exact Below.refl _ _) | (with_reducible assumption) | (with_reducible refine Below.drew ?_) | (with_reducible refine Below.drewNStep ?_ _) | (with_reducible refine Below.alloc ?_ ?_ _) | (with_reducible refine Below.setCell ?_ ?_ _) | (with_reducible refine Below.extStep ?_ ?_ _) | (simp; done) | (simp; omega)))); rintro e w1 ⟨hB1, b, hb1, rfl, hR1⟩))
  generalize hY : World.alloc _ _ = Y at *
  have h7 : Seven Y (w.heap.size + 2) := by rw [← hY]; constructor <;> simp [go_sem]
  have BY : Below w.heap.size w Y := by rw [← hY]; (repeat' (first | (with_reducible exact Below.refl _ _) | (with_reducible assumption) | (with_reducible refine Below.drew ?_) | (with_reducible refine Below.drewNStep ?_ _) | (with_reducible refine Below.alloc ?_ ?_ _) | (with_reducible refine Below.setCell ?_ ?_ _) | (with_reducible refine Below.extStep ?_ ?_ _) | (simp; done) | (simp; omega)))
  have h7' := h7.kept hB1
  have BX : Below w.heap.size w w1 := BY.trans (hB1.lower BY.size)
  clear hY
  have HN1 := hidden (HN.out _ _ hR1)
  have hgs := BX.size
  cases q : decide (n < 0) with
  | true =>
    gi_wp2
    refine ⟨trivial, ?_⟩
    gi_wp2_with (refine Oper.wpIn_store rfl (store_surf0 _ _ h7') ?_)
    obtain ⟨z0, z1, z2, z3, z4, z5, z6, _⟩ := set7_cells0 h7'
    refine bodyPost_ret (v := .tuple #[.pointer none, .agg #[.int .i64 0, .int .i64 0, .string ⟨#[]⟩, .int .i64 0, .int .i64 0, .int .i64 0, .nilFunc], .int .i64 6]) ?_ rfl (retX rfl (set7_below (n := w.heap.size) BX (by omega)))
    simp [results, Tryz.results68, go_sem, z0, z1, z2, z3, z4, z5, z6]
  | false =>
    have q2 : decide (N ≤ n) = true := by simp at q ⊢; omega
    gi_wp2
    (refine ⟨trivial, ?_⟩; ((with_reducible refine (callsIn_wide.2 HN1.out).mono ?_); rintro e w2 ⟨rfl, x2, rfl⟩))
    have h8 := h7'.kept (show Below w1.heap.size w1 (w1.ext x2) by (repeat' (first | (with_reducible exact Below.refl _ _) | (with_reducible assumption) | (with_reducible refine Below.drew ?_) | (with_reducible refine Below.drewNStep ?_ _) | (with_reducible refine Below.alloc ?_ ?_ _) | (with_reducible refine Below.setCell ?_ ?_ _) | (with_reducible refine Below.extStep ?_ ?_ _) | (simp; done) | (simp; omega))))
    gi_wp2_with (refine Oper.wpIn_store rfl (store_surf0 _ _ h8) ?_)
    obtain ⟨z0, z1, z2, z3, z4, z5, z6, _⟩ := set7_cells0 h8
    refine bodyPost_ret (v := .tuple #[.pointer none, .agg #[.int .i64 0, .int .i64 0, .string ⟨#[]⟩, .int .i64 0, .int .i64 0, .int .i64 0, .nilFunc], .int .i64 6]) ?_ rfl (retX rfl (set7_below (n := w.heap.size) (BX.trans (by (repeat' (first | (with_reducible exact Below.refl _ _) | (with_reducible assumption) | (with_reducible refine Below.drew ?_) | (with_reducible refine Below.drewNStep ?_ _) | (with_reducible refine Below.alloc ?_ ?_ _) | (with_reducible refine Below.setCell ?_ ?_ _) | (with_reducible refine Below.extStep ?_ ?_ _) | (simp; done) | (simp; omega))))) (by omega)))
    simp [results, Tryz.results68, go_sem, z0, z1, z2, z3, z4, z5, z6]
end Go.Proofs.YtbonjgeglhbhnaaGreat

/- surfaceIn, of a surface that is there. -/
namespace Go.Proofs.YtbonjgeglhbhnaaGreat
open Go.RowKit Go.Shelf
attribute [local go_sem] Oper.semAt_some

set_option maxRecDepth 100000 in set_option maxHeartbeats 1000000 in
theorem surfaceIn_good {w : World} {H : Hal} {S : Stg} {v4 v5 v6 v7 v8 v9 v10 : Value} (hV : HalVs w v4 v5 v6 v7 v8 H) (h9 : SlcAt encInt w v9 S.hs) (h10 : SlcAt encInt w v10 S.dr) (n : Int) (hE : inE H S = 0) (hn : 0 ≤ n ∧ n < (H.wals.length : Int) + 2 + H.cans.length) (K A lo hi sd : Int) (mt : ByteArray) (fn : Nat) (pre : Array Value) (Q : Array Value → Nat → World → Prop)
    (hS : ∀ W b, Room W b H S → Calls Tryz.prog 83 #[.pointer (some ⟨b, 0, none⟩), .int .i64 n] W (fun e w' => Below W.heap.size W w' ∧ ∃ cap, e = .returned (surfV K A mt lo hi sd (.func (.func fn) pre cap)) ∧ Q cap b w')) :
    Calls Tryz.prog 68 #[halV H v4 v5 v6 v7 v8, .agg #[v9, v10], .int .i64 n] w (fun e w' => Below w.heap.size w w' ∧ ∃ b cap W, w.heap.size ≤ b ∧ e = .returned (.tuple #[.pointer (some ⟨b, 0, none⟩), surfV K A mt lo hi sd (.func (.func fn) pre cap), .int .i64 0]) ∧ Room W b H S ∧ Q cap b W ∧ Seven W (w.heap.size + 2) ∧ w' = set7 W (w.heap.size + 2) K A mt lo hi sd (.func (.func fn) pre cap)) := by
  have HC := hidden (fun (W : World) (hW : Below w.heap.size w W) => visitIn_good (hV.below hW) (h9.below hW) (h10.below hW) hE)
  have HN := hidden (fun (W : World) (b : Nat) (hR : Room W b H S) => countSurfaces_room hR)
  have HS := hidden hS
  clear hS
  obtain ⟨_, g4, g5, g6, g7, g8⟩ := hV
  obtain ⟨A4, c4, rfl, _⟩ := slc_form g4
  obtain ⟨A5, c5, rfl, _⟩ := slc_form g5
  obtain ⟨A6, c6, rfl, _⟩ := slc_form g6
  obtain ⟨A7, c7, rfl, _⟩ := slc_form g7
  obtain ⟨A8, c8, rfl, _⟩ := slc_form g8
  obtain ⟨A9, c9, rfl, _⟩ := slc_form h9
  obtain ⟨A10, c10, rfl, _⟩ := slc_form h10
  generalize hNN : (H.wals.length : Int) + 2 + H.cans.length = N at *
  have q1 : decide (n < 0) = false := by simp; omega
  have q2 : decide (N ≤ n) = false := by simp; omega
  unfold halV surfV at *
  refine (callsIn_wide (n := 10)).1 ?_
  refine callsIn_of_wp Tryz.func68 rfl trivial ?_ rfl
  simp only [Tryz.ntmps68, List.size_toArray, List.length_cons, List.length_nil, Nat.reduceAdd, Nat.reduceSub, Array.replicate_succ, Array.replicate_zero, List.push_toArray, List.append_toArray, List.nil_append, List.cons_append]
  gi_wp2
  (refine ⟨trivial, ?_⟩; ((with_reducible refine (callsIn_wide.2 (HC.out _ ?hk)).mono ?_); (case hk => (repeat' (first | (with_reducible exact Below.refl _ _) | (with_reducible assumption) | (with_reducible refine Below.drew ?_) | (with_reducible refine Below.drewNStep ?_ _) | (with_reducible refine Below.alloc ?_ ?_ _) | (with_reducible refine Below.setCell ?_ ?_ _) | (with_reducible refine Below.extStep ?_ ?_ _) | (simp; done) | (simp; omega)))); rintro e w1 ⟨hB1, b, hb1, rfl, hR1⟩))
  generalize hY : World.alloc _ _ = Y at *
  have h7 : Seven Y (w.heap.size + 2) := by rw [← hY]; constructor <;> simp [go_sem]
  have BY : Below w.heap.size w Y := by rw [← hY]; (repeat' (first | (with_reducible exact Below.refl _ _) | (with_reducible assumption) | (with_reducible refine Below.drew ?_) | (with_reducible refine Below.drewNStep ?_ _) | (with_reducible refine Below.alloc ?_ ?_ _) | (with_reducible refine Below.setCell ?_ ?_ _) | (with_reducible refine Below.extStep ?_ ?_ _) | (simp; done) | (simp; omega)))
  have h7' := h7.kept hB1
  have BX : Below w.heap.size w w1 := BY.trans (hB1.lower BY.size)
  have hbw : w.heap.size ≤ b := Nat.le_trans BY.size hb1
  clear hY
  have HN1 := hidden (HN.out _ _ hR1)
  have hgs := BX.size
  gi_wp2
  (refine ⟨trivial, ?_⟩; ((with_reducible refine (callsIn_wide.2 HN1.out).mono ?_); rintro e w2 ⟨rfl, x2, rfl⟩))
  have h8 := h7'.kept (show Below w1.heap.size w1 (w1.ext x2) by (repeat' (first | (with_reducible exact Below.refl _ _) | (with_reducible assumption) | (with_reducible refine Below.drew ?_) | (with_reducible refine Below.drewNStep ?_ _) | (with_reducible refine Below.alloc ?_ ?_ _) | (with_reducible refine Below.setCell ?_ ?_ _) | (with_reducible refine Below.extStep ?_ ?_ _) | (simp; done) | (simp; omega))))
  have hR2 : Room (w1.ext x2) b H S := hR1.below (show Below w1.heap.size w1 (w1.ext x2) by (repeat' (first | (with_reducible exact Below.refl _ _) | (with_reducible assumption) | (with_reducible refine Below.drew ?_) | (with_reducible refine Below.drewNStep ?_ _) | (with_reducible refine Below.alloc ?_ ?_ _) | (with_reducible refine Below.setCell ?_ ?_ _) | (with_reducible refine Below.extStep ?_ ?_ _) | (simp; done) | (simp; omega))))
  have BX2 : Below w.heap.size w (w1.ext x2) := BX.trans (by (repeat' (first | (with_reducible exact Below.refl _ _) | (with_reducible assumption) | (with_reducible refine Below.drew ?_) | (with_reducible refine Below.drewNStep ?_ _) | (with_reducible refine Below.alloc ?_ ?_ _) | (with_reducible refine Below.setCell ?_ ?_ _) | (with_reducible refine Below.extStep ?_ ?_ _) | (simp; done) | (simp; omega))))
  gi_wp2
  (refine ⟨trivial, ?_⟩; ((with_reducible refine (callsIn_wide.2 (HS.out _ _ hR2)).mono ?_); rintro e w3 ⟨hB3, cap, rfl, hQ⟩))
  have h9' := h8.kept hB3
  have hR3 := hR2.below hB3
  have BX3 : Below w.heap.size w w3 := BX2.trans (hB3.lower BX2.size)
  gi_wp2_with (refine Oper.wpIn_store rfl (store_surf _ _ _ _ _ _ _ _ _ _ _ h9') ?_)
  obtain ⟨z0, z1, z2, z3, z4, z5, z6⟩ := set7_cells K A mt lo hi sd fn pre cap h9'
  refine bodyPost_ret (v := .tuple #[.pointer (some ⟨b, 0, none⟩), .agg #[.int .i64 K, .int .i64 A, .string mt, .int .i64 lo, .int .i64 hi, .int .i64 sd, .func (.func fn) pre cap], .int .i64 0]) ?_ rfl ⟨set7_below (n := w.heap.size) BX3 (by omega), b, cap, w3, hbw, rfl, hR3, hQ, h9', rfl⟩
  simp [results, Tryz.results68, go_sem, z0, z1, z2, z3, z4, z5, z6]
end Go.Proofs.YtbonjgeglhbhnaaGreat

/- AbsorptionArea, behind its errors. -/
namespace Go.Proofs.YtbonjgeglhbhnaaGreat
open Go.RowKit Go.Shelf
attribute [local go_sem] Oper.semAt_some

set_option maxRecDepth 100000 in set_option maxHeartbeats 1000000 in
theorem AbsorptionArea_bad {w : World} {H : Hal} {S : Stg} {v4 v5 v6 v7 v8 v9 v10 : Value} (hV : HalVs w v4 v5 v6 v7 v8 H) (h9 : SlcAt encInt w v9 S.hs) (h10 : SlcAt encInt w v10 S.dr) (n : Int) (hE : inE H S ≠ 0) :
    Calls Tryz.prog 37 #[halV H v4 v5 v6 v7 v8, .agg #[v9, v10], .int .i64 n] w (RetX w (.tuple #[.agg #[.int .i64 0, .int .i64 0], .int .i64 (inE H S)])) := by
  have HC := hidden (fun (W : World) (hW : Below w.heap.size w W) => visitIn_bad (hV.below hW) (h9.below hW) (h10.below hW) hE)
  have hq : (inE H S == 0) = false := by simpa using hE
  generalize inE H S = z at *
  obtain ⟨_, g4, g5, g6, g7, g8⟩ := hV
  obtain ⟨A4, c4, rfl, _⟩ := slc_form g4
  obtain ⟨A5, c5, rfl, _⟩ := slc_form g5
  obtain ⟨A6, c6, rfl, _⟩ := slc_form g6
  obtain ⟨A7, c7, rfl, _⟩ := slc_form g7
  obtain ⟨A8, c8, rfl, _⟩ := slc_form g8
  obtain ⟨A9, c9, rfl, _⟩ := slc_form h9
  obtain ⟨A10, c10, rfl, _⟩ := slc_form h10
  unfold halV at *
  refine (callsIn_wide (n := 10)).1 ?_
  refine callsIn_of_wp Tryz.func37 rfl trivial ?_ rfl
  simp only [Tryz.ntmps37, List.size_toArray, List.length_cons, List.length_nil, Nat.reduceAdd, Nat.reduceSub, Array.replicate_succ, Array.replicate_zero, List.push_toArray, List.append_toArray, List.nil_append, List.cons_append]
  gi_wp2
  (refine ⟨trivial, ?_⟩; ((with_reducible refine (callsIn_wide.2 (HC.out _ ?hk)).mono ?_); (case hk => (repeat' (first | (with_reducible exact Below.refl _ _) | (with_reducible assumption) | (with_reducible refine Below.drew ?_) | (with_reducible refine Below.drewNStep ?_ _) | (with_reducible refine Below.alloc ?_ ?_ _) | (with_reducible refine Below.setCell ?_ ?_ _) | (with_reducible refine Below.extStep ?_ ?_ _) | (simp; done) | (simp; omega)))); rintro e w1 ⟨rfl, x1, rfl⟩))
  gi_wp2
  refine bodyPost_ret (v := .tuple #[.agg #[.int .i64 0, .int .i64 0], .int .i64 z]) (by simp [results, Tryz.results37, go_sem]) rfl (retX rfl ?_)
  (repeat' (first | (with_reducible exact Below.refl _ _) | (with_reducible assumption) | (with_reducible refine Below.drew ?_) | (with_reducible refine Below.drewNStep ?_ _) | (with_reducible refine Below.alloc ?_ ?_ _) | (with_reducible refine Below.setCell ?_ ?_ _) | (with_reducible refine Below.extStep ?_ ?_ _) | (simp; done) | (simp; omega)))

set_option maxRecDepth 100000 in set_option maxHeartbeats 1000000 in
theorem AbsorptionArea_missing {w : World} {H : Hal} {S : Stg} {v4 v5 v6 v7 v8 v9 v10 : Value} (hV : HalVs w v4 v5 v6 v7 v8 H) (h9 : SlcAt encInt w v9 S.hs) (h10 : SlcAt encInt w v10 S.dr) (n : Int) (hE : inE H S = 0) (hn : n < 0 ∨ 4 ≤ n) :
    Calls Tryz.prog 37 #[halV H v4 v5 v6 v7 v8, .agg #[v9, v10], .int .i64 n] w (RetX w (.tuple #[.agg #[.int .i64 0, .int .i64 0], .int .i64 6])) := by
  have HC := hidden (fun (W : World) (hW : Below w.heap.size w W) => visitIn_good (hV.below hW) (h9.below hW) (h10.below hW) hE)
  obtain ⟨_, g4, g5, g6, g7, g8⟩ := hV
  obtain ⟨A4, c4, rfl, _⟩ := slc_form g4
  obtain ⟨A5, c5, rfl, _⟩ := slc_form g5
  obtain ⟨A6, c6, rfl, _⟩ := slc_form g6
  obtain ⟨A7, c7, rfl, _⟩ := slc_form g7
  obtain ⟨A8, c8, rfl, _⟩ := slc_form g8
  obtain ⟨A9, c9, rfl, _⟩ := slc_form h9
  obtain ⟨A10, c10, rfl, _⟩ := slc_form h10
  unfold halV at *
  refine (callsIn_wide (n := 10)).1 ?_
  refine callsIn_of_wp Tryz.func37 rfl trivial ?_ rfl
  simp only [Tryz.ntmps37, List.size_toArray, List.length_cons, List.length_nil, Nat.reduceAdd, Nat.reduceSub, Array.replicate_succ, Array.replicate_zero, List.push_toArray, List.append_toArray, List.nil_append, List.cons_append]
  gi_wp2
  (refine ⟨trivial, ?_⟩; ((with_reducible refine (callsIn_wide.2 (HC.out _ ?hk)).mono ?_); (case hk => (repeat' (first | (with_reducible exact Below.refl _ _) | (with_reducible assumption) | (with_reducible refine Below.drew ?_) | (with_reducible refine Below.drewNStep ?_ _) | (with_reducible refine Below.alloc ?_ ?_ _) | (with_reducible refine Below.setCell ?_ ?_ _) | (with_reducible refine Below.extStep ?_ ?_ _) | (simp; done) | (simp; omega)))); rintro e w1 ⟨hB1, b, hb1, rfl, hR1⟩))
  generalize hY : World.alloc _ _ = Y at *
  have y0 : Y.cell? ⟨w.heap.size + 2, 0, none⟩ = some (.int .i64 0) := by rw [← hY]; simp [go_sem]
  have y1 : Y.cell? ⟨w.heap.size + 2, 1, none⟩ = some (.int .i64 0) := by rw [← hY]; simp [go_sem]
  have yf : ∀ i, Y.frozen? ⟨w.heap.size + 2, i, none⟩ = false := by intro i; rw [← hY]; simp [go_sem]
  have BY : Below w.heap.size w Y := by rw [← hY]; (repeat' (first | (with_reducible exact Below.refl _ _) | (with_reducible assumption) | (with_reducible refine Below.drew ?_) | (with_reducible refine Below.drewNStep ?_ _) | (with_reducible refine Below.alloc ?_ ?_ _) | (with_reducible refine Below.setCell ?_ ?_ _) | (with_reducible refine Below.extStep ?_ ?_ _) | (simp; done) | (simp; omega)))
  have gy := has_of_cell y0
  replace yf : ∀ i, w1.frozen? ⟨w.heap.size + 2, i, none⟩ = false := fun i => (World.frozen?_of_block (w := Y) (hB1.block (w.heap.size + 2) gy)).trans (yf i)
  replace y0 := cell_below hB1 gy y0
  replace y1 := cell_below hB1 gy y1
  replace gy := has_of_cell y0
  have BX : Below w.heap.size w w1 := BY.trans (hB1.lower BY.size)
  have hgs := BX.size
  clear hY hR1
  cases q : decide (n < 0) with
  | true =>
    gi_wp2
    refine bodyPost_ret (v := .tuple #[.agg #[.int .i64 0, .int .i64 0], .int .i64 6]) (by simp [results, Tryz.results37, go_sem, y0, y1, yf, gy]) rfl (retX rfl (BX.trans (by (repeat' (first | (with_reducible exact Below.refl _ _) | (with_reducible assumption) | (with_reducible refine Below.drew ?_) | (with_reducible refine Below.drewNStep ?_ _) | (with_reducible refine Below.alloc ?_ ?_ _) | (with_reducible refine Below.setCell ?_ ?_ _) | (with_reducible refine Below.extStep ?_ ?_ _) | (simp; done) | (simp; omega))))))
  | false =>
    have q2 : decide (4 ≤ n) = true := by simp at q ⊢; omega
    gi_wp2
    refine bodyPost_ret (v := .tuple #[.agg #[.int .i64 0, .int .i64 0], .int .i64 6]) (by simp [results, Tryz.results37, go_sem, y0, y1, yf, gy]) rfl (retX rfl (BX.trans (by (repeat' (first | (with_reducible exact Below.refl _ _) | (with_reducible assumption) | (with_reducible refine Below.drew ?_) | (with_reducible refine Below.drewNStep ?_ _) | (with_reducible refine Below.alloc ?_ ?_ _) | (with_reducible refine Below.setCell ?_ ?_ _) | (with_reducible refine Below.extStep ?_ ?_ _) | (simp; done) | (simp; omega))))))
end Go.Proofs.YtbonjgeglhbhnaaGreat

/- material. -/
namespace Go.Proofs.YtbonjgeglhbhnaaGreat
open Go.RowKit Go.Shelf
attribute [local go_sem] Oper.semAt_some

def matOf (H : Hal) (nm : ByteArray) : Mat := match (List.range H.mats.length).find? (fun k => (matAt H.mats k).name.toList == nm.toList) with | none => ⟨⟨#[]⟩, 0, 0, 0, 0, 0⟩ | some k => matAt H.mats k
def matV (m : Mat) : Value := .agg #[.string m.name, .int .i64 m.a0, .int .i64 m.a1, .int .i64 m.a2, .int .i64 m.a3, .int .i64 m.scat]
theorem matOf_stop {H : Hal} {nm : ByteArray} {k : Nat} (hk : k < H.mats.length) (he : ((matAt H.mats k).name.toList == nm.toList) = true) (h : ∀ j, j < k → ((matAt H.mats j).name.toList == nm.toList) = false) : matOf H nm = matAt H.mats k := by
  unfold matOf
  have : (List.range H.mats.length).find? (fun k => (matAt H.mats k).name.toList == nm.toList) = some k := by
    rw [List.find?_range_eq_some]
    exact ⟨he, by simpa using hk, fun j hj => by rw [h j hj]; rfl⟩
  rw [this]
theorem matOf_end {H : Hal} {nm : ByteArray} (h : ∀ j, j < H.mats.length → ((matAt H.mats j).name.toList == nm.toList) = false) : matOf H nm = ⟨⟨#[]⟩, 0, 0, 0, 0, 0⟩ := by
  unfold matOf
  have : (List.range H.mats.length).find? (fun k => (matAt H.mats k).name.toList == nm.toList) = none := by
    rw [List.find?_eq_none]
    intro k hk
    rw [h k (by simpa using hk)]
    simp
  rw [this]

set_option maxRecDepth 100000 in set_option maxHeartbeats 1000000 in
theorem material_room {w : World} {b : Nat} {H : Hal} {S : Stg} (hR : Room w b H S) (nm : ByteArray) :
    Calls Tryz.prog 79 #[.pointer (some ⟨b, 0, none⟩), .string nm] w (RetX w (matV (matOf H nm))) := by
  obtain ⟨v4, v5, v6, v7, v8, u9, u10, hR⟩ := hR
  obtain ⟨A4, c4, rfl, hS4⟩ := slc_form hR.hal.mats
  have l4 := hS4.1
  have h4 := hR.c4
  have hb := hR.has
  clear hR
  refine (callsIn_wide (n := 10)).1 ?_
  refine callsIn_of_wp Tryz.func79 rfl trivial ?_ rfl
  simp only [Tryz.ntmps79, List.size_toArray, List.length_cons, List.length_nil, Nat.reduceAdd, Nat.reduceSub, Array.replicate_succ, Array.replicate_zero, List.push_toArray, List.append_toArray, List.nil_append, List.cons_append]
  gi_wp2
  generalize hw1 : World.alloc _ _ = w1
  have hB1 : Below w.heap.size w w1 := by rw [← hw1]; (repeat' (first | (with_reducible exact Below.refl _ _) | (with_reducible assumption) | (with_reducible refine Below.drew ?_) | (with_reducible refine Below.drewNStep ?_ _) | (with_reducible refine Below.alloc ?_ ?_ _) | (with_reducible refine Below.setCell ?_ ?_ _) | (with_reducible refine Below.extStep ?_ ?_ _) | (simp; done) | (simp; omega)))
  have r0 : w1.cell? ⟨w.heap.size, 0, none⟩ = some (.string ⟨#[]⟩) := by rw [← hw1]; simp [go_sem]
  have r1 : w1.cell? ⟨w.heap.size, 1, none⟩ = some (.int .i64 0) := by rw [← hw1]; simp [go_sem]
  have r2 : w1.cell? ⟨w.heap.size, 2, none⟩ = some (.int .i64 0) := by rw [← hw1]; simp [go_sem]
  have r3 : w1.cell? ⟨w.heap.size, 3, none⟩ = some (.int .i64 0) := by rw [← hw1]; simp [go_sem]
  have r4 : w1.cell? ⟨w.heap.size, 4, none⟩ = some (.int .i64 0) := by rw [← hw1]; simp [go_sem]
  have r5 : w1.cell? ⟨w.heap.size, 5, none⟩ = some (.int .i64 0) := by rw [← hw1]; simp [go_sem]
  have rf : ∀ i, w1.frozen? ⟨w.heap.size, i, none⟩ = false := by rw [← hw1]; intro i; simp [go_sem]
  have gw := has_of_cell r0
  clear hw1
  gi_loopw [13] (fun i wr => ∃ k : Nat, i = .int .i64 k ∧ k ≤ H.mats.length ∧ Below w1.heap.size w1 wr ∧ ∀ j, j < k → ((matAt H.mats j).name.toList == nm.toList) = false) (fun i _ => H.mats.length - (intOf i).toNat)
  case atStart => exact ⟨0, rfl, Nat.zero_le _, Below.refl _ _, fun j hj => absurd hj (Nat.not_lt_zero j)⟩
  case round =>
    obtain ⟨k, rfl, hk, hB, hno⟩ := hrel
    have hBw : Below w.heap.size w wr := hB1.trans (hB.lower hB1.size)
    have hgs := hBw.size
    replace r0 := cell_below hB gw r0
    replace r1 := cell_below hB gw r1
    replace r2 := cell_below hB gw r2
    replace r3 := cell_below hB gw r3
    replace r4 := cell_below hB gw r4
    replace r5 := cell_below hB gw r5
    replace rf : ∀ i, wr.frozen? ⟨w.heap.size, i, none⟩ = false := fun i => (World.frozen?_of_block (w := w1) (hB.block w.heap.size gw)).trans (rf i)
    replace gw := has_of_cell r0
    have nw : w.heap.size ≠ wr.heap.size := Nat.ne_of_lt gw
    rcases Nat.lt_or_ge k H.mats.length with hlt | hge
    · obtain ⟨g, o, rfl, hg, hcs⟩ := mat_at (hS4.below hBw) hlt
      obtain ⟨k0, k1, k2, k3, k4, k5⟩ := hcs k hlt
      have hst : Hid (((matAt H.mats k).name.toList == nm.toList) = true → matOf H nm = matAt H.mats k) := fun h => matOf_stop hlt h hno
      have hgo : Hid (((matAt H.mats k).name.toList == nm.toList) = false → ∀ j, j < k + 1 → ((matAt H.mats j).name.toList == nm.toList) = false) := fun he j hj => by
        rcases Nat.lt_or_ge j k with h' | h'
        · exact hno j h'
        · obtain rfl : j = k := by omega
          exact he
      clear hcs hS4 hno h4 hB1
      generalize hmm : matAt H.mats k = m at *
      obtain ⟨n0, a0, a1, a2, a3, sc⟩ := m
      simp only at *
      generalize H.mats.length = N at *
      cases q : (n0.toList == nm.toList) with
      | true =>
        have hz := hidden (hst.out q)
        gi_wp2
        refine bodyPost_ret (v := matV ⟨n0, a0, a1, a2, a3, sc⟩) ?_ rfl (retX (by rw [hz.out]) (hBw.trans (by (repeat' (first | (with_reducible exact Below.refl _ _) | (with_reducible assumption) | (with_reducible refine Below.drew ?_) | (with_reducible refine Below.drewNStep ?_ _) | (with_reducible refine Below.alloc ?_ ?_ _) | (with_reducible refine Below.setCell ?_ ?_ _) | (with_reducible refine Below.extStep ?_ ?_ _) | (simp; done) | (simp; omega))))))
        simp [results, Tryz.results79, matV, go_sem, r0, r1, r2, r3, r4, r5, rf, gw, nw, nw.symm]
      | false =>
        have hz := hidden (hgo.out q)
        gi_wp2
        exact ⟨⟨k + 1, by simp, by omega, hB.trans ((show Below wr.heap.size wr _ by (repeat' (first | (with_reducible exact Below.refl _ _) | (with_reducible assumption) | (with_reducible refine Below.drew ?_) | (with_reducible refine Below.drewNStep ?_ _) | (with_reducible refine Below.alloc ?_ ?_ _) | (with_reducible refine Below.setCell ?_ ?_ _) | (with_reducible refine Below.extStep ?_ ?_ _) | (simp; done) | (simp; omega)))).lower hB.size), hz.out⟩, by simp [intOf]; omega⟩
    · obtain rfl : k = H.mats.length := by omega
      have hz := hidden (matOf_end hno)
      gi_wp2
      refine bodyPost_ret (v := matV ⟨⟨#[]⟩, 0, 0, 0, 0, 0⟩) ?_ rfl (retX (by rw [hz.out]) (hBw.trans (by (repeat' (first | (with_reducible exact Below.refl _ _) | (with_reducible assumption) | (with_reducible refine Below.drew ?_) | (with_reducible refine Below.drewNStep ?_ _) | (with_reducible refine Below.alloc ?_ ?_ _) | (with_reducible refine Below.setCell ?_ ?_ _) | (with_reducible refine Below.extStep ?_ ?_ _) | (simp; done) | (simp; omega))))))
      simp [results, Tryz.results79, matV, go_sem, r0, r1, r2, r3, r4, r5, rf, gw]
end Go.Proofs.YtbonjgeglhbhnaaGreat

/- surfaceIn of a wall that is not diagonal: with what its function captured. -/
namespace Go.Proofs.YtbonjgeglhbhnaaGreat
open Go.RowKit Go.Shelf

def WallIn (b : Nat) (h p q r s : Int) (c1 c2 : Nat) (W : World) : Prop := W.cell? ⟨c1, 0, none⟩ = some (.pointer (some ⟨b, 0, none⟩)) ∧ Four p q r s c2 W ∧ W.cell? ⟨b, 1, none⟩ = some (.int .i64 h)

theorem WallIn.below {b : Nat} {h p q r s : Int} {c1 c2 : Nat} {W W' : World} (hB : Below W.heap.size W W') (H : WallIn b h p q r s c1 c2 W) : WallIn b h p q r s c1 c2 W' :=
  ⟨cell_below hB (has_of_cell H.1) H.1, ⟨cell_below hB (has_of_cell H.2.1.c0) H.2.1.c0, cell_below hB (has_of_cell H.2.1.c1) H.2.1.c1, cell_below hB (has_of_cell H.2.1.c2) H.2.1.c2, cell_below hB (has_of_cell H.2.1.c3) H.2.1.c3⟩, cell_below hB (has_of_cell H.2.2) H.2.2⟩
theorem WallIn.set7 {b B : Nat} {h p q r s K A lo hi sd : Int} {mt : ByteArray} {f : Value} {c1 c2 : Nat} {W : World} {H : Hal} {S : Stg} (h7 : Seven W B) (hR : Room W b H S) (H : WallIn b h p q r s c1 c2 W) : WallIn b h p q r s c1 c2 (set7 W B K A mt lo hi sd f) := by
  obtain ⟨_, _, _, _, _, _, _, hR⟩ := hR
  have n : b ≠ B := by rintro rfl; have := hR.c0; rw [h7.c0] at this; cases this
  have k := wallQ_set7 (K := K) (A := A) (lo := lo) (hi := hi) (sd := sd) (mt := mt) (f := f) h7 H.1 H.2.1
  exact ⟨k.1, k.2, by rw [set7_other _ _ _ _ _ _ _ n]; exact H.2.2⟩

theorem surface_wallIn {W : World} {b : Nat} {H : Hal} {S : Stg} (hR : Room W b H S) (i : Nat) (hi : i < H.cors.length) (hw : i < H.wals.length) (p q r s : Int) (hp : (corAt H.cors i).x = p) (hq : (corAt H.cors i).y = q) (hr : (corAt H.cors (nxt H.cors.length i)).x = r) (hs : (corAt H.cors (nxt H.cors.length i)).y = s)
    (h1 : -5000 ≤ p ∧ p ≤ 5000) (h2 : -5000 ≤ q ∧ q ≤ 5000) (h3 : -5000 ≤ r ∧ r ≤ 5000) (h4 : -5000 ≤ s ∧ s ≤ 5000) (hh : 0 ≤ H.height ∧ H.height ≤ 5000) (hnd : p = r ∨ q = s) :
    Calls Tryz.prog 83 #[.pointer (some ⟨b, 0, none⟩), .int .i64 i] W (fun e w' => Below W.heap.size W w' ∧ ∃ cap, e = .returned (surfV (plK p q r s) (plA p q r s) (wallMat H S i) (reachI p q r s * H.height) (reachI p q r s * H.height) 1 (.func (.func 146) #[] cap)) ∧ ∃ c1 c2, cap = #[.pointer (some ⟨c1, 0, none⟩), .pointer (some ⟨c2, 0, none⟩)] ∧ WallIn b H.height p q r s c1 c2 w') := by
  have hS := surface_wall hR i hw (plK p q r s) (plA p q r s) (reachI p q r s * H.height) (reachI p q r s * H.height) 1 (wallMat H S i) (fun cap w' => (∃ c1 c2, cap = #[.pointer (some ⟨c1, 0, none⟩), .pointer (some ⟨c2, 0, none⟩)] ∧ WallIn b H.height p q r s c1 c2 w') ∧ Room w' b H S)
    (fun W' hW' => (wall_room (hR.below hW') i hi hw p q r s hp hq hr hs h1 h2 h3 h4 hh hnd).mono (by
      rintro e w' ⟨hB, c1, c2, rfl, k1, k2⟩
      have hR' := (hR.below hW').below hB
      have hc : w'.cell? ⟨b, 1, none⟩ = some (.int .i64 H.height) := by
        obtain ⟨_, _, _, _, _, _, _, hR'⟩ := hR'
        exact hR'.c1
      exact ⟨hB, _, rfl, ⟨c1, c2, rfl, k1, k2, hc⟩, hR'⟩))
  refine hS.mono ?_
  rintro e w' ⟨hB, cap, W', rfl, ⟨⟨c1, c2, rfl, hk⟩, hR'⟩, h7, rfl⟩
  exact ⟨hB, _, rfl, c1, c2, rfl, hk.set7 h7 hR'⟩

theorem surfaceIn_wall {w : World} {H : Hal} {S : Stg} {v4 v5 v6 v7 v8 v9 v10 : Value} (hV : HalVs w v4 v5 v6 v7 v8 H) (h9 : SlcAt encInt w v9 S.hs) (h10 : SlcAt encInt w v10 S.dr) (hE : inE H S = 0) (i : Nat) (hi : i < H.cors.length) (hw : i < H.wals.length) (p q r s : Int) (hp : (corAt H.cors i).x = p) (hq : (corAt H.cors i).y = q) (hr : (corAt H.cors (nxt H.cors.length i)).x = r) (hs : (corAt H.cors (nxt H.cors.length i)).y = s)
    (h1 : -5000 ≤ p ∧ p ≤ 5000) (h2 : -5000 ≤ q ∧ q ≤ 5000) (h3 : -5000 ≤ r ∧ r ≤ 5000) (h4 : -5000 ≤ s ∧ s ≤ 5000) (hh : 0 ≤ H.height ∧ H.height ≤ 5000) (hnd : p = r ∨ q = s) :
    Calls Tryz.prog 68 #[halV H v4 v5 v6 v7 v8, .agg #[v9, v10], .int .i64 i] w (fun e w' => Below w.heap.size w w' ∧ ∃ b c1 c2, e = .returned (.tuple #[.pointer (some ⟨b, 0, none⟩), surfV (plK p q r s) (plA p q r s) (wallMat H S i) (reachI p q r s * H.height) (reachI p q r s * H.height) 1 (.func (.func 146) #[] #[.pointer (some ⟨c1, 0, none⟩), .pointer (some ⟨c2, 0, none⟩)]), .int .i64 0]) ∧ WallIn b H.height p q r s c1 c2 w') := by
  refine (surfaceIn_good hV h9 h10 i hE ⟨by omega, by omega⟩ _ _ _ _ _ _ _ _ (fun cap b w' => ∃ c1 c2, cap = #[.pointer (some ⟨c1, 0, none⟩), .pointer (some ⟨c2, 0, none⟩)] ∧ WallIn b H.height p q r s c1 c2 w') (fun W b hR => surface_wallIn hR i hi hw p q r s hp hq hr hs h1 h2 h3 h4 hh hnd)).mono ?_
  rintro e w' ⟨hB, b, cap, W, _, rfl, hR, ⟨c1, c2, rfl, hk⟩, h7, rfl⟩
  exact ⟨hB, b, c1, c2, rfl, hk.set7 h7 hR⟩
end Go.Proofs.YtbonjgeglhbhnaaGreat

/- surface, at a canopy. -/
namespace Go.Proofs.YtbonjgeglhbhnaaGreat
open Go.RowKit Go.Shelf
attribute [local go_sem] Oper.semAt_some

set_option maxRecDepth 100000 in set_option maxHeartbeats 1000000 in
theorem surface_canopy {w : World} {bp : Nat} {H : Hal} {S : Stg} (hR : Room w bp H S) (i : Nat) (hi : i < H.cans.length) (t1 : i < S.hs.length) (t2 : 0 ≤ intAt S.hs i) (t3 : intAt S.hs i < (canAt H.cans i).hs.length) (hc : CanOk H (canAt H.cans i)) :
    Calls Tryz.prog 83 #[.pointer (some ⟨bp, 0, none⟩), .int .i64 ((H.wals.length : Int) + 2 + i)] w (RetX w (surfV 2 (canZ H S i) (canAt H.cans i).mat
      ((max (canAt H.cans i).f.x (canAt H.cans i).t.x - min (canAt H.cans i).f.x (canAt H.cans i).t.x) * (max (canAt H.cans i).f.y (canAt H.cans i).t.y - min (canAt H.cans i).f.y (canAt H.cans i).t.y))
      ((max (canAt H.cans i).f.x (canAt H.cans i).t.x - min (canAt H.cans i).f.x (canAt H.cans i).t.x) * (max (canAt H.cans i).f.y (canAt H.cans i).t.y - min (canAt H.cans i).f.y (canAt H.cans i).t.y)) 2
      (.func (.func 149) #[.agg #[.int .i64 (min (canAt H.cans i).f.x (canAt H.cans i).t.x), .int .i64 (min (canAt H.cans i).f.y (canAt H.cans i).t.y), .int .i64 (max (canAt H.cans i).f.x (canAt H.cans i).t.x), .int .i64 (max (canAt H.cans i).f.y (canAt H.cans i).t.y)]] #[]))) := by
  have HW := hidden (fun (W : World) (hW : Below w.heap.size w W) => canopy_room (hR.below hW) i hi t1 t2 t3 hc)
  obtain ⟨v4, v5, v6, v7, v8, u9, u10, hR⟩ := hR
  obtain ⟨A7, c7, rfl, hS7⟩ := slc_form hR.hal.cans
  obtain ⟨A6, c6, rfl, hS6⟩ := slc_form hR.hal.wals
  have l6 := hS6.1
  have l7 := hS7.1
  have h6 := hR.c6
  have hbp := hR.has
  clear hR hS6 hS7 t1 t2 t3 hc
  have e1 : IntKind.i64.wrap ((H.wals.length : Int) + 1) = (H.wals.length : Int) + 1 := IntWalk.i64_in _ (by omega)
  have e2 : IntKind.i64.wrap ((H.wals.length : Int) + 2 + i - H.wals.length) = (i : Int) + 2 := by rw [IntWalk.i64_in _ (by omega)]; omega
  have e3 : IntKind.i64.wrap ((i : Int) + 2 - 2) = (i : Int) := by rw [IntWalk.i64_in _ (by omega)]; omega
  have q1 : ((H.wals.length : Int) + 2 + i == (H.wals.length : Int)) = false := by simp; omega
  have q2 : ((H.wals.length : Int) + 2 + i == (H.wals.length : Int) + 1) = false := by simp; omega
  have q3 : decide ((H.wals.length : Int) + 2 + i < (H.wals.length : Int)) = false := by simp; omega
  generalize (max (canAt H.cans i).f.x (canAt H.cans i).t.x - min (canAt H.cans i).f.x (canAt H.cans i).t.x) * (max (canAt H.cans i).f.y (canAt H.cans i).t.y - min (canAt H.cans i).f.y (canAt H.cans i).t.y) = lo at *
  generalize canZ H S i = z at *
  generalize canAt H.cans i = C at *
  obtain ⟨Cn, Cm, Cf, Ct, Ch⟩ := C
  simp only at *
  generalize min Cf.x Ct.x = a0 at *
  generalize min Cf.y Ct.y = a1 at *
  generalize max Cf.x Ct.x = a2 at *
  generalize max Cf.y Ct.y = a3 at *
  generalize H.wals.length = nw at *
  unfold surfV at *
  refine (callsIn_wide (n := 10)).1 ?_; refine callsIn_of_wp Tryz.func83 rfl trivial ?_ rfl; simp only [Tryz.ntmps83, List.size_toArray, List.length_cons, List.length_nil, Nat.reduceAdd, Nat.reduceSub, Array.replicate_succ, Array.replicate_zero, List.push_toArray, List.append_toArray, List.nil_append, List.cons_append]
  gi_wp2
  (refine ⟨trivial, ?_⟩; ((with_reducible refine (callsIn_wide.2 (HW.out _ ?hk)).mono ?_); (case hk => (repeat' (first | (with_reducible exact Below.refl _ _) | (with_reducible assumption) | (with_reducible refine Below.drew ?_) | (with_reducible refine Below.drewNStep ?_ _) | (with_reducible refine Below.alloc ?_ ?_ _) | (with_reducible refine Below.setCell ?_ ?_ _) | (with_reducible refine Below.extStep ?_ ?_ _) | (simp; done) | (simp; omega)))); rintro e w1 ⟨rfl, x1, rfl⟩))
  have h7 := (Seven.new w).kept (W' := (w.alloc (.cells #[.int .i64 0, .int .i64 0, .string ⟨#[]⟩, .int .i64 0, .int .i64 0, .int .i64 0, .nilFunc] 131)).ext x1) (by (repeat' (first | (with_reducible exact Below.refl _ _) | (with_reducible assumption) | (with_reducible refine Below.drew ?_) | (with_reducible refine Below.drewNStep ?_ _) | (with_reducible refine Below.alloc ?_ ?_ _) | (with_reducible refine Below.setCell ?_ ?_ _) | (with_reducible refine Below.extStep ?_ ?_ _) | (simp; done) | (simp; omega))))
  gi_wp2_with (refine Oper.wpIn_store rfl (store_surf _ _ _ _ _ _ _ _ _ _ _ h7) ?_)
  obtain ⟨z0, z1, z2, z3, z4, z5, z6⟩ := set7_cells 2 z Cm lo lo 2 149 #[.agg #[.int .i64 a0, .int .i64 a1, .int .i64 a2, .int .i64 a3]] #[] h7
  refine bodyPost_ret (v := .agg #[.int .i64 2, .int .i64 z, .string Cm, .int .i64 lo, .int .i64 lo, .int .i64 2, .func (.func 149) #[.agg #[.int .i64 a0, .int .i64 a1, .int .i64 a2, .int .i64 a3]] #[]]) ?_ rfl (retX rfl (set7_below (by (repeat' (first | (with_reducible exact Below.refl _ _) | (with_reducible assumption) | (with_reducible refine Below.drew ?_) | (with_reducible refine Below.drewNStep ?_ _) | (with_reducible refine Below.alloc ?_ ?_ _) | (with_reducible refine Below.setCell ?_ ?_ _) | (with_reducible refine Below.extStep ?_ ?_ _) | (simp; done) | (simp; omega)))) (Nat.le_refl _)))
  simp [results, Tryz.results83, go_sem, z0, z1, z2, z3, z4, z5, z6]
end Go.Proofs.YtbonjgeglhbhnaaGreat
