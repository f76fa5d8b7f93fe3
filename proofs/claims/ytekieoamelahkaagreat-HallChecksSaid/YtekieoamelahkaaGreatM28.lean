/- The surface of a wall that is not diagonal. -/
import Derived.Test.YtekieoamelahkaaGreatM27
import Derived.Test.YtekieoamelahkaaGreatM25
import Derived.Test.YtekieoamelahkaaGreatM17
import Derived.Test.YtekieoamelahkaaGreatM24
set_option maxRecDepth 100000
set_option maxHeartbeats 1000000
set_option linter.unusedVariables false
set_option linter.unusedSimpArgs false
namespace Go.Proofs.YtekieoamelahkaaGreat
open Go.RowKit Go.Shelf
attribute [local go_sem] Oper.semAt_some

def wallMat (H : Hal) (S : Stg) (i : Nat) : ByteArray := if hasI S.dr i = true then (walAt H.wals i).cur else (walAt H.wals i).mat
def reachI (a b c d : Int) : Int := max (max (c - a) (-(c - a))) (max (d - b) (-(d - b)))

theorem set7_other {W : World} {B n i : Nat} (k a : Int) (m : ByteArray) (lo hi sd : Int) (f : Value) (h : n ≠ B) : (set7 W B k a m lo hi sd f).cell? ⟨n, i, none⟩ = W.cell? ⟨n, i, none⟩ := by
 unfold set7
 refine World.cell?_of_block ?_
 repeat (refine (Below.heap_setCell _ _ _ _ h).trans ?_)
 rfl
theorem wall_room {w : World} {bp : Nat} {H : Hal} {S : Stg} (hR : Room w bp H S) (i : Nat) (hi : i < H.cors.length) (hw : i < H.wals.length) (a b c d : Int) (ha : (corAt H.cors i).x = a) (hb : (corAt H.cors i).y = b) (hc : (corAt H.cors (nxt H.cors.length i)).x = c) (hd : (corAt H.cors (nxt H.cors.length i)).y = d)
 (h1 : -5000 ≤ a ∧ a ≤ 5000) (h2 : -5000 ≤ b ∧ b ≤ 5000) (h3 : -5000 ≤ c ∧ c ≤ 5000) (h4 : -5000 ≤ d ∧ d ≤ 5000) (hh : 0 ≤ H.height ∧ H.height ≤ 5000) (hnd : a = c ∨ b = d) :
 Calls Tryz.prog 146 #[.pointer (some ⟨bp, 0, none⟩), .int .i64 i] w (fun e w' => Below w.heap.size w w' ∧ ∃ c1 c2, e = .returned (surfV (plK a b c d) (plA a b c d) (wallMat H S i) (reachI a b c d * H.height) (reachI a b c d * H.height) 1 (.func (.func 177) #[] #[.pointer (some ⟨c1, 0, none⟩), .pointer (some ⟨c2, 0, none⟩)])) ∧ w'.cell? ⟨c1, 0, none⟩ = some (.pointer (some ⟨bp, 0, none⟩)) ∧ Four a b c d c2 w') := by
 have HL := hidden (fun (W : World) (hW : Below w.heap.size w W) => line_any (hR.below hW) i hi)
 rw [ha, hb, hc, hd] at HL
 have HP := hidden (fun W => plane_any a b c d W (by omega) (by omega) (by omega) (by omega))
 have HA := hidden (fun W => wallArea_plain a b c d H.height W h1 h2 h3 h4 hh hnd)
 change Hid (∀ W, Calls _ _ _ _ (RetX W (.agg #[.int .i64 (reachI a b c d * H.height), .int .i64 (reachI a b c d * H.height)]))) at HA
 have hM : Hid (wallMat H S i = if hasI S.dr i = true then (walAt H.wals i).cur else (walAt H.wals i).mat) := rfl
 obtain ⟨v4, v5, v6, v7, v8, u9, u10, hR⟩ := hR
 obtain ⟨A6, c6, rfl, hS6⟩ := slc_form hR.hal.wals
 obtain ⟨g, o, rfl, hg, hcs⟩ := wal_at hS6 hw
 obtain ⟨_, k1, k2⟩ := hcs i hw
 obtain ⟨A10, c10, rfl, hS10⟩ := slc_form hR.dr
 have HI := hidden (fun (W : World) (hW : Below w.heap.size w W) => Contains_any S.dr i A10 c10 W (hS10.below hW))
 have l6 := hS6.1
 have l10 := hS10.1
 have h6 := hR.c6
 have h10 := hR.c10
 have h1c := hR.c1
 have hbp := hR.has
 clear hR hS6 hcs hS10
 generalize reachI a b c d * H.height = ar at *
 generalize plK a b c d = K at *
 generalize plA a b c d = A at *
 generalize wallMat H S i = mt at *
 generalize (walAt H.wals i).cur = cu at *
 generalize (walAt H.wals i).mat = ma at *
 generalize H.height = z at *
 generalize H.wals.length = nw at *
 generalize S.dr.length = nd at *
 refine (callsIn_wide (n := 10)).1 ?_
 refine callsIn_of_wp Tryz.func146 rfl trivial ?_ rfl
 simp only [Tryz.ntmps146, nt, Nat.reduceAdd, Nat.reduceSub]
 have nne : ∀ x : Ext, w.heap.size + 1 + 1 + x.heap.size ≠ w.heap.size + 1 := fun x => by omega
 have nne2 : w.heap.size ≠ w.heap.size + 1 := by omega
 have nne3 : bp ≠ w.heap.size + 1 := by have := hbp; unfold World.Has at this; omega
 cases q : hasI S.dr i
 case false =>
  have hmt := hM.out
  rw [q] at hmt HI
  simp only [if_true, Bool.false_eq_true, if_false] at hmt
  subst hmt
  gi_wp2
  (refine ⟨trivial, ?_⟩; ((with_reducible refine (callsIn_wide.2 (HL.out _ ?hk)).mono ?_); (case hk => (repeat' first | with_reducible (first | apply bz0 | assumption | apply bz1 | apply bz2 | apply bz3 | apply bz4 | apply bz5) | (simp <;> omega))); rintro e w' ⟨rfl, x1, rfl⟩))
  gi_wp2
  (refine ⟨trivial, ?_⟩; ((with_reducible refine (callsIn_wide.2 (HI.out _ ?hk)).mono ?_); (case hk => (repeat' first | with_reducible (first | apply bz0 | assumption | apply bz1 | apply bz2 | apply bz3 | apply bz4 | apply bz5) | (simp <;> omega))); rintro e w' ⟨rfl, x2, rfl⟩))
  gi_wp2
  refine wpIn_wide.2 ?_
  (refine wp_region_tameH (w.heap.size + 1) (by kernel_rfl) (by kernel_rfl) ?_); (repeat (first | (refine tmE rfl rfl (fun K hK => ?_); refine Oper.wp_store (W' := ?Wn) rfl ?st ?_; (case st => (refine store_surf _ _ _ _ _ _ _ _ _ _ _ ?_; (constructor <;> simp [go_sem]))); (refine hK _ _ rfl (hole_of (by (repeat' (first | (with_reducible exact HoleRel.refl _ _ _) | (with_reducible assumption) | (with_reducible refine HoleRel.swap ?_ _ _) | (with_reducible refine HoleRel.drew ?_) | (with_reducible refine HoleRel.drewN ?_ _) | (with_reducible refine HoleRel.setCell ?_ ?_ _) | (with_reducible refine HoleRel.putObj ?_ ?_ _) | (with_reducible refine HoleRel.alloc ?_ ?_ _) | (with_reducible refine HoleRel.ext ?_ ?_ _) | (exact Or.inl rfl) | (simp; done) | (simp; omega))))) ?_; clear hK K)) | (refine tmS rfl ?_; simp only [Act.put, List.setIfInBounds_toArray, List.set_cons_succ, List.set_cons_zero]) | (refine tmP rfl rfl rfl (fun K hK => ?_); go_big_quiet_op; refine hK _ ?_; clear hK K) | (refine tmE rfl rfl (fun K hK => ?_); go_big_op; (first | (go_at_call 175; refine (HP.out _).mono ?_; rintro e w' ⟨rfl, x3, rfl⟩) | (go_at_call 176; refine (HA.out _).mono ?_; rintro e w' ⟨rfl, x4, rfl⟩) | skip); (refine hK _ _ rfl (hole_of (by (repeat' (first | (with_reducible exact HoleRel.refl _ _ _) | (with_reducible assumption) | (with_reducible refine HoleRel.swap ?_ _ _) | (with_reducible refine HoleRel.drew ?_) | (with_reducible refine HoleRel.drewN ?_ _) | (with_reducible refine HoleRel.setCell ?_ ?_ _) | (with_reducible refine HoleRel.putObj ?_ ?_ _) | (with_reducible refine HoleRel.alloc ?_ ?_ _) | (with_reducible refine HoleRel.ext ?_ ?_ _) | (exact Or.inl rfl) | (simp; done) | (simp; omega))))) ?_; clear hK K)))); (refine tmN ?_)
  generalize hX : set7 _ _ _ _ _ _ _ _ _ = X
  have BX : Below w.heap.size w X := by rw [← hX]; exact set7_below (by (repeat' first | with_reducible (first | apply bz0 | assumption | apply bz1 | apply bz2 | apply bz3 | apply bz4 | apply bz5) | (simp <;> omega))) (by omega)
  have zz : X.cell? ⟨w.heap.size + 1, 0, none⟩ = some (.int .i64 K) ∧ X.cell? ⟨w.heap.size + 1, 1, none⟩ = some (.int .i64 A) ∧ X.cell? ⟨w.heap.size + 1, 2, none⟩ = some (.string mt) ∧ X.cell? ⟨w.heap.size + 1, 3, none⟩ = some (.int .i64 ar) ∧ X.cell? ⟨w.heap.size + 1, 4, none⟩ = some (.int .i64 ar) ∧ X.cell? ⟨w.heap.size + 1, 5, none⟩ = some (.int .i64 1) ∧ X.cell? ⟨w.heap.size + 1, 6, none⟩ = some (.func (.func 177) #[] #[.pointer (some ⟨w.heap.size, 0, none⟩), .pointer (some ⟨w.heap.size + 1 + 1 + x1.heap.size, 0, none⟩)]) := by
   rw [← hX]
   exact set7_cells _ _ _ _ _ _ _ _ _ (by constructor <;> simp [go_sem])
  obtain ⟨z0, z1, z2, z3, z4, z5, z6⟩ := zz
  have y0 : X.cell? ⟨w.heap.size, 0, none⟩ = some (.pointer (some ⟨bp, 0, none⟩)) := by rw [← hX, set7_other _ _ _ _ _ _ _ (by omega)]; simp [go_sem]
  have y1 : Four a b c d (w.heap.size + 1 + 1 + x1.heap.size) X := by rw [← hX]; constructor <;> (rw [set7_other _ _ _ _ _ _ _ (by omega)]; simp [go_sem])
  clear hX
  gi_wp2
  refine bodyPost_ret (v := .agg #[.int .i64 K, .int .i64 A, .string mt, .int .i64 ar, .int .i64 ar, .int .i64 1, .func (.func 177) #[] #[.pointer (some ⟨w.heap.size, 0, none⟩), .pointer (some ⟨w.heap.size + 1 + 1 + x1.heap.size, 0, none⟩)]]) ?_ rfl ⟨BX, _, _, rfl, y0, y1⟩
  simp [results, Tryz.results146, go_sem, z0, z1, z2, z3, z4, z5, z6]
 case true =>
  have hmt := hM.out
  rw [q] at hmt HI
  simp only [if_true, Bool.false_eq_true, if_false] at hmt
  subst hmt
  gi_wp2
  (refine ⟨trivial, ?_⟩; ((with_reducible refine (callsIn_wide.2 (HL.out _ ?hk)).mono ?_); (case hk => (repeat' first | with_reducible (first | apply bz0 | assumption | apply bz1 | apply bz2 | apply bz3 | apply bz4 | apply bz5) | (simp <;> omega))); rintro e w' ⟨rfl, x1, rfl⟩))
  gi_wp2
  (refine ⟨trivial, ?_⟩; ((with_reducible refine (callsIn_wide.2 (HI.out _ ?hk)).mono ?_); (case hk => (repeat' first | with_reducible (first | apply bz0 | assumption | apply bz1 | apply bz2 | apply bz3 | apply bz4 | apply bz5) | (simp <;> omega))); rintro e w' ⟨rfl, x2, rfl⟩))
  gi_wp2
  refine wpIn_wide.2 ?_
  (refine wp_region_tameH (w.heap.size + 1) (by kernel_rfl) (by kernel_rfl) ?_); (repeat (first | (refine tmE rfl rfl (fun K hK => ?_); refine Oper.wp_store (W' := ?Wm) rfl ?su ?_; (case su => (refine store_surf _ _ _ _ _ _ _ _ _ _ _ ?_; (constructor <;> simp [go_sem]))); (refine hK _ _ rfl (hole_of (by (repeat' (first | (with_reducible exact HoleRel.refl _ _ _) | (with_reducible assumption) | (with_reducible refine HoleRel.swap ?_ _ _) | (with_reducible refine HoleRel.drew ?_) | (with_reducible refine HoleRel.drewN ?_ _) | (with_reducible refine HoleRel.setCell ?_ ?_ _) | (with_reducible refine HoleRel.putObj ?_ ?_ _) | (with_reducible refine HoleRel.alloc ?_ ?_ _) | (with_reducible refine HoleRel.ext ?_ ?_ _) | (exact Or.inl rfl) | (simp; done) | (simp; omega))))) ?_; clear hK K)) | (refine tmS rfl ?_; simp only [Act.put, List.setIfInBounds_toArray, List.set_cons_succ, List.set_cons_zero]) | (refine tmP rfl rfl rfl (fun K hK => ?_); go_big_quiet_op; refine hK _ ?_; clear hK K) | (refine tmE rfl rfl (fun K hK => ?_); go_big_op; (first | (go_at_call 175; refine (HP.out _).mono ?_; rintro e w' ⟨rfl, x3, rfl⟩) | (go_at_call 176; refine (HA.out _).mono ?_; rintro e w' ⟨rfl, x4, rfl⟩) | skip); (refine hK _ _ rfl (hole_of (by (repeat' (first | (with_reducible exact HoleRel.refl _ _ _) | (with_reducible assumption) | (with_reducible refine HoleRel.swap ?_ _ _) | (with_reducible refine HoleRel.drew ?_) | (with_reducible refine HoleRel.drewN ?_ _) | (with_reducible refine HoleRel.setCell ?_ ?_ _) | (with_reducible refine HoleRel.putObj ?_ ?_ _) | (with_reducible refine HoleRel.alloc ?_ ?_ _) | (with_reducible refine HoleRel.ext ?_ ?_ _) | (exact Or.inl rfl) | (simp; done) | (simp; omega))))) ?_; clear hK K)))); (refine tmN ?_)
  generalize hX : set7 _ _ _ _ _ _ _ _ _ = X
  have BX : Below w.heap.size w X := by rw [← hX]; exact set7_below (by (repeat' first | with_reducible (first | apply bz0 | assumption | apply bz1 | apply bz2 | apply bz3 | apply bz4 | apply bz5) | (simp <;> omega))) (by omega)
  have zz : X.cell? ⟨w.heap.size + 1, 0, none⟩ = some (.int .i64 K) ∧ X.cell? ⟨w.heap.size + 1, 1, none⟩ = some (.int .i64 A) ∧ X.cell? ⟨w.heap.size + 1, 2, none⟩ = some (.string mt) ∧ X.cell? ⟨w.heap.size + 1, 3, none⟩ = some (.int .i64 ar) ∧ X.cell? ⟨w.heap.size + 1, 4, none⟩ = some (.int .i64 ar) ∧ X.cell? ⟨w.heap.size + 1, 5, none⟩ = some (.int .i64 1) ∧ X.cell? ⟨w.heap.size + 1, 6, none⟩ = some (.func (.func 177) #[] #[.pointer (some ⟨w.heap.size, 0, none⟩), .pointer (some ⟨w.heap.size + 1 + 1 + x1.heap.size, 0, none⟩)]) := by
   rw [← hX]
   exact set7_cells _ _ _ _ _ _ _ _ _ (by constructor <;> simp [go_sem])
  obtain ⟨z0, z1, z2, z3, z4, z5, z6⟩ := zz
  have y0 : X.cell? ⟨w.heap.size, 0, none⟩ = some (.pointer (some ⟨bp, 0, none⟩)) := by rw [← hX, set7_other _ _ _ _ _ _ _ (by omega)]; simp [go_sem]
  have y1 : Four a b c d (w.heap.size + 1 + 1 + x1.heap.size) X := by rw [← hX]; constructor <;> (rw [set7_other _ _ _ _ _ _ _ (by omega)]; simp [go_sem])
  clear hX
  gi_wp2
  refine bodyPost_ret (v := .agg #[.int .i64 K, .int .i64 A, .string mt, .int .i64 ar, .int .i64 ar, .int .i64 1, .func (.func 177) #[] #[.pointer (some ⟨w.heap.size, 0, none⟩), .pointer (some ⟨w.heap.size + 1 + 1 + x1.heap.size, 0, none⟩)]]) ?_ rfl ⟨BX, _, _, rfl, y0, y1⟩
  simp [results, Tryz.results146, go_sem, z0, z1, z2, z3, z4, z5, z6]
end Go.Proofs.YtekieoamelahkaaGreat

/- surface, at a wall; at the floor. -/
namespace Go.Proofs.YtekieoamelahkaaGreat
open Go.RowKit Go.Shelf
attribute [local go_sem] Oper.semAt_some

theorem Seven.kept {W W' : World} {B : Nat} (h : Seven W B) (hb : Below W.heap.size W W') : Seven W' B := by
 obtain ⟨h0, h1, h2, h3, h4, h5, h6, hf⟩ := h
 have m := Sim.of_below (D := 0) hb
 exact ⟨m.cell h0, m.cell h1, m.cell h2, m.cell h3, m.cell h4, m.cell h5, m.cell h6, fun i => (World.frozen?_of_block (w := W) (hb.block B (has_of_cell h0))).trans (hf i)⟩
theorem Seven.new (w : World) : Seven (w.alloc (.cells #[.int .i64 0, .int .i64 0, .string ⟨#[]⟩, .int .i64 0, .int .i64 0, .int .i64 0, .nilFunc] 151)) w.heap.size := by constructor <;> simp [go_sem]

theorem surface_wall {w : World} {bp : Nat} {H : Hal} {S : Stg} (hR : Room w bp H S) (i : Nat) (hi : i < H.wals.length) (K A lo hi' sd : Int) (mt : ByteArray) (Q : Array Value → World → Prop)
 (hW : ∀ W, Below w.heap.size w W → Calls Tryz.prog 146 #[.pointer (some ⟨bp, 0, none⟩), .int .i64 i] W (fun e w' => Below W.heap.size W w' ∧ ∃ cap, e = .returned (surfV K A mt lo hi' sd (.func (.func 177) #[] cap)) ∧ Q cap w')) :
 Calls Tryz.prog 104 #[.pointer (some ⟨bp, 0, none⟩), .int .i64 i] w (fun e w' => Below w.heap.size w w' ∧ ∃ cap W, e = .returned (surfV K A mt lo hi' sd (.func (.func 177) #[] cap)) ∧ Q cap W ∧ Seven W w.heap.size ∧ w' = set7 W w.heap.size K A mt lo hi' sd (.func (.func 177) #[] cap)) := by
 have HW := hidden hW
 clear hW
 obtain ⟨v4, v5, v6, v7, v8, u9, u10, hR⟩ := hR
 obtain ⟨A6, c6, rfl, hS6⟩ := slc_form hR.hal.wals
 have l6 := hS6.1
 have h6 := hR.c6
 have hbp := hR.has
 clear hR hS6
 have e1 : IntKind.i64.wrap ((H.wals.length : Int) + 1) = (H.wals.length : Int) + 1 := IntWalk.i64_in _ (by omega)
 have q1 : ((i : Int) == (H.wals.length : Int)) = false := by simp; omega
 have q2 : ((i : Int) == (H.wals.length : Int) + 1) = false := by simp; omega
 have q3 : decide ((i : Int) < (H.wals.length : Int)) = true := by simp; omega
 generalize H.wals.length = nw at *
 unfold surfV at *
 refine (callsIn_wide (n := 10)).1 ?_
 refine callsIn_of_wp Tryz.func104 rfl trivial ?_ rfl
 simp only [Tryz.ntmps104, nt, Nat.reduceAdd, Nat.reduceSub]
 gi_wp2
 (refine ⟨trivial, ?_⟩; ((with_reducible refine (callsIn_wide.2 (HW.out _ ?hk)).mono ?_); (case hk => (repeat' first | with_reducible (first | apply bz0 | assumption | apply bz1 | apply bz2 | apply bz3 | apply bz4 | apply bz5) | (simp <;> omega))); rintro e w1 ⟨hB1, cap, rfl, hQ⟩))
 have h7 := (Seven.new w).kept hB1
 have hBx : Below w.heap.size w w1 := (show Below w.heap.size w _ by (repeat' first | with_reducible (first | apply bz0 | assumption | apply bz1 | apply bz2 | apply bz3 | apply bz4 | apply bz5) | (simp <;> omega))).trans (hB1.lower (by simp))
 gi_wp2_with (refine Oper.wpIn_store rfl (store_surf _ _ _ _ _ _ _ _ _ _ _ h7) ?_)
 obtain ⟨z0, z1, z2, z3, z4, z5, z6⟩ := set7_cells K A mt lo hi' sd 177 #[] cap h7
 refine bodyPost_ret (v := .agg #[.int .i64 K, .int .i64 A, .string mt, .int .i64 lo, .int .i64 hi', .int .i64 sd, .func (.func 177) #[] cap]) ?_ rfl ⟨set7_below hBx (Nat.le_refl _), cap, w1, rfl, hQ, h7, rfl⟩
 simp [results, Tryz.results104, go_sem, z0, z1, z2, z3, z4, z5, z6]
end Go.Proofs.YtekieoamelahkaaGreat

/- surfaceIn. -/
namespace Go.Proofs.YtekieoamelahkaaGreat
open Go.RowKit Go.Shelf
attribute [local go_sem] Oper.semAt_some

def surf0 : Value := .agg #[.int .i64 0, .int .i64 0, .string ⟨#[]⟩, .int .i64 0, .int .i64 0, .int .i64 0, .nilFunc]

theorem run_store_nilf {P : Program} {W : World} {a : Addr} {u : Value} (h : W.cell? a = some u) (hf : W.frozen? a = false) : (store a .nilFunc).run P W = .ok () (W.setCell a .nilFunc) := by
 simp [store, Sem.run, h, hf]
set_option maxRecDepth 100000 in set_option maxHeartbeats 400000 in
theorem store_surf0 (W : World) (B : Nat) (h : Seven W B) : (Instr.storeAt 151 (.pointer (some ⟨B, 0, none⟩)) (.agg #[.int .i64 0, .int .i64 0, .string ⟨#[]⟩, .int .i64 0, .int .i64 0, .int .i64 0, .nilFunc])).run Tryz.prog W = .ok () (set7 W B 0 0 ⟨#[]⟩ 0 0 0 .nilFunc) := by
 obtain ⟨h0, h1, h2, h3, h4, h5, h6, hf⟩ := h
 have hB := has_of_cell h0
 unfold set7
 simp [go_sem, h0, h1, h2, h3, h4, h5, h6, hf, hB]
 first | done | (refine run_store_nilf (u := .nilFunc) ?_ ?_ <;> simp [go_sem, h0, h1, h2, h3, h4, h5, h6, hf, hB])
theorem set7_cells0 {W : World} {B : Nat} (h : Seven W B) : Seven (set7 W B 0 0 ⟨#[]⟩ 0 0 0 .nilFunc) B := by
 obtain ⟨h0, h1, h2, h3, h4, h5, h6, hf⟩ := h
 have hB := has_of_cell h0
 unfold set7
 constructor <;> simp [go_sem, h0, h1, h2, h3, h4, h5, h6, hf, hB]

theorem surfaceIn_bad {w : World} {H : Hal} {S : Stg} {v4 v5 v6 v7 v8 v9 v10 : Value} (hV : HalVs w v4 v5 v6 v7 v8 H) (h9 : SlcAt encInt w v9 S.hs) (h10 : SlcAt encInt w v10 S.dr) (n : Int) (hE : inE H S ≠ 0) :
 Calls Tryz.prog 91 #[halV H v4 v5 v6 v7 v8, .agg #[v9, v10], .int .i64 n] w (RetX w (.tuple #[.pointer none, surf0, .int .i64 (inE H S)])) := by
 have HC := hidden (fun (W : World) (hW : Below w.heap.size w W) => visitIn_bad (hV.below hW) (h9.below hW) (h10.below hW) hE)
 have hq : (inE H S == 0) = false := by simpa using hE
 generalize inE H S = z at *
 obtain ⟨_, g4, g5, g6, g7, g8⟩ := hV
 obtain ⟨A4, c4, rfl, _⟩ := slc_form g4
 obtain ⟨A5, c5, rfl, _⟩ := slc_form g5
 obtain ⟨A6, c6, rfl, _⟩ := slc_form g6
 obtain ⟨A7, c7, rfl, _⟩ := slc_form g7
 obtain ⟨A8, c8, rfl, _⟩ := slc_form g8
 obtain ⟨A9, c9, rfl, _⟩ := slc_form h9
 obtain ⟨A10, c10, rfl, _⟩ := slc_form h10
 unfold halV surf0 at *
 refine (callsIn_wide (n := 10)).1 ?_
 refine callsIn_of_wp Tryz.func91 rfl trivial ?_ rfl
 simp only [Tryz.ntmps91, nt, Nat.reduceAdd, Nat.reduceSub]
 gi_wp2
 (refine ⟨trivial, ?_⟩; ((with_reducible refine (callsIn_wide.2 (HC.out _ ?hk)).mono ?_); (case hk => (repeat' first | with_reducible (first | apply bz0 | assumption | apply bz1 | apply bz2 | apply bz3 | apply bz4 | apply bz5) | (simp <;> omega))); rintro e w1 ⟨rfl, x1, rfl⟩))
 generalize hX : World.ext _ _ = X
 have h7 : Seven X (w.heap.size + 2) := by rw [← hX]; constructor <;> simp [go_sem]
 have BX : Below w.heap.size w X := by rw [← hX]; (repeat' first | with_reducible (first | apply bz0 | assumption | apply bz1 | apply bz2 | apply bz3 | apply bz4 | apply bz5) | (simp <;> omega))
 clear hX
 gi_wp2_with (refine Oper.wpIn_store rfl (store_surf0 _ _ h7) ?_)
 obtain ⟨z0, z1, z2, z3, z4, z5, z6, _⟩ := set7_cells0 h7
 refine bodyPost_ret (v := .tuple #[.pointer none, .agg #[.int .i64 0, .int .i64 0, .string ⟨#[]⟩, .int .i64 0, .int .i64 0, .int .i64 0, .nilFunc], .int .i64 z]) ?_ rfl (retX rfl (set7_below (n := w.heap.size) BX (by omega)))
 simp [results, Tryz.results91, go_sem, z0, z1, z2, z3, z4, z5, z6]

theorem surfaceIn_missing {w : World} {H : Hal} {S : Stg} {v4 v5 v6 v7 v8 v9 v10 : Value} (hV : HalVs w v4 v5 v6 v7 v8 H) (h9 : SlcAt encInt w v9 S.hs) (h10 : SlcAt encInt w v10 S.dr) (n : Int) (hE : inE H S = 0) (hn : n < 0 ∨ (H.wals.length : Int) + 2 + H.cans.length ≤ n) :
 Calls Tryz.prog 91 #[halV H v4 v5 v6 v7 v8, .agg #[v9, v10], .int .i64 n] w (RetX w (.tuple #[.pointer none, surf0, .int .i64 6])) := by
 have HC := hidden (fun (W : World) (hW : Below w.heap.size w W) => visitIn_good (hV.below hW) (h9.below hW) (h10.below hW) hE)
 have HN := hidden (fun (W : World) (b : Nat) (hR : Room W b H S) => countSurfaces_room hR)
 obtain ⟨_, g4, g5, g6, g7, g8⟩ := hV
 obtain ⟨A4, c4, rfl, _⟩ := slc_form g4
 obtain ⟨A5, c5, rfl, _⟩ := slc_form g5
 obtain ⟨A6, c6, rfl, _⟩ := slc_form g6
 obtain ⟨A7, c7, rfl, _⟩ := slc_form g7
 obtain ⟨A8, c8, rfl, _⟩ := slc_form g8
 obtain ⟨A9, c9, rfl, _⟩ := slc_form h9
 obtain ⟨A10, c10, rfl, _⟩ := slc_form h10
 generalize hNN : (H.wals.length : Int) + 2 + H.cans.length = N at *
 unfold halV surf0 at *
 refine (callsIn_wide (n := 10)).1 ?_
 refine callsIn_of_wp Tryz.func91 rfl trivial ?_ rfl
 simp only [Tryz.ntmps91, nt, Nat.reduceAdd, Nat.reduceSub]
 gi_wp2
 (refine ⟨trivial, ?_⟩; ((with_reducible refine (callsIn_wide.2 (HC.out _ ?hk)).mono ?_); (case hk => (repeat' first | with_reducible (first | apply bz0 | assumption | apply bz1 | apply bz2 | apply bz3 | apply bz4 | apply bz5) | (simp <;> omega))); rintro e w1 ⟨hB1, b, hb1, rfl, hR1⟩))
 generalize hY : World.alloc _ _ = Y at *
 have h7 : Seven Y (w.heap.size + 2) := by rw [← hY]; constructor <;> simp [go_sem]
 have BY : Below w.heap.size w Y := by rw [← hY]; (repeat' first | with_reducible (first | apply bz0 | assumption | apply bz1 | apply bz2 | apply bz3 | apply bz4 | apply bz5) | (simp <;> omega))
 have h7' := h7.kept hB1
 have BX : Below w.heap.size w w1 := BY.trans (hB1.lower BY.size)
 clear hY
 have HN1 := hidden (HN.out _ _ hR1)
 have hgs := BX.size
 cases q : decide (n < 0) with
 | true =>
  gi_wp2
  refine ⟨trivial, ?_⟩
  gi_wp2_with (refine Oper.wpIn_store rfl (store_surf0 _ _ h7') ?_)
  obtain ⟨z0, z1, z2, z3, z4, z5, z6, _⟩ := set7_cells0 h7'
  refine bodyPost_ret (v := .tuple #[.pointer none, .agg #[.int .i64 0, .int .i64 0, .string ⟨#[]⟩, .int .i64 0, .int .i64 0, .int .i64 0, .nilFunc], .int .i64 6]) ?_ rfl (retX rfl (set7_below (n := w.heap.size) BX (by omega)))
  simp [results, Tryz.results91, go_sem, z0, z1, z2, z3, z4, z5, z6]
 | false =>
  have q2 : decide (N ≤ n) = true := by simp at q ⊢; omega
  gi_wp2
  (refine ⟨trivial, ?_⟩; ((with_reducible refine (callsIn_wide.2 HN1.out).mono ?_); rintro e w2 ⟨rfl, x2, rfl⟩))
  have h8 := h7'.kept (show Below w1.heap.size w1 (w1.ext x2) by (repeat' first | with_reducible (first | apply bz0 | assumption | apply bz1 | apply bz2 | apply bz3 | apply bz4 | apply bz5) | (simp <;> omega)))
  gi_wp2_with (refine Oper.wpIn_store rfl (store_surf0 _ _ h8) ?_)
  obtain ⟨z0, z1, z2, z3, z4, z5, z6, _⟩ := set7_cells0 h8
  refine bodyPost_ret (v := .tuple #[.pointer none, .agg #[.int .i64 0, .int .i64 0, .string ⟨#[]⟩, .int .i64 0, .int .i64 0, .int .i64 0, .nilFunc], .int .i64 6]) ?_ rfl (retX rfl (set7_below (n := w.heap.size) (BX.trans (by (repeat' first | with_reducible (first | apply bz0 | assumption | apply bz1 | apply bz2 | apply bz3 | apply bz4 | apply bz5) | (simp <;> omega)))) (by omega)))
  simp [results, Tryz.results91, go_sem, z0, z1, z2, z3, z4, z5, z6]
end Go.Proofs.YtekieoamelahkaaGreat

/- surfaceIn, of a surface that is there. -/
namespace Go.Proofs.YtekieoamelahkaaGreat
open Go.RowKit Go.Shelf
attribute [local go_sem] Oper.semAt_some

theorem surfaceIn_good {w : World} {H : Hal} {S : Stg} {v4 v5 v6 v7 v8 v9 v10 : Value} (hV : HalVs w v4 v5 v6 v7 v8 H) (h9 : SlcAt encInt w v9 S.hs) (h10 : SlcAt encInt w v10 S.dr) (n : Int) (hE : inE H S = 0) (hn : 0 ≤ n ∧ n < (H.wals.length : Int) + 2 + H.cans.length) (K A lo hi sd : Int) (mt : ByteArray) (fn : Nat) (pre : Array Value) (Q : Array Value → Nat → World → Prop)
 (hS : ∀ W b, Room W b H S → Calls Tryz.prog 104 #[.pointer (some ⟨b, 0, none⟩), .int .i64 n] W (fun e w' => Below W.heap.size W w' ∧ ∃ cap, e = .returned (surfV K A mt lo hi sd (.func (.func fn) pre cap)) ∧ Q cap b w')) :
 Calls Tryz.prog 91 #[halV H v4 v5 v6 v7 v8, .agg #[v9, v10], .int .i64 n] w (fun e w' => Below w.heap.size w w' ∧ ∃ b cap W, w.heap.size ≤ b ∧ e = .returned (.tuple #[.pointer (some ⟨b, 0, none⟩), surfV K A mt lo hi sd (.func (.func fn) pre cap), .int .i64 0]) ∧ Room W b H S ∧ Q cap b W ∧ Seven W (w.heap.size + 2) ∧ w' = set7 W (w.heap.size + 2) K A mt lo hi sd (.func (.func fn) pre cap)) := by
 have HC := hidden (fun (W : World) (hW : Below w.heap.size w W) => visitIn_good (hV.below hW) (h9.below hW) (h10.below hW) hE)
 have HN := hidden (fun (W : World) (b : Nat) (hR : Room W b H S) => countSurfaces_room hR)
 have HS := hidden hS
 clear hS
 obtain ⟨_, g4, g5, g6, g7, g8⟩ := hV
 obtain ⟨A4, c4, rfl, _⟩ := slc_form g4
 obtain ⟨A5, c5, rfl, _⟩ := slc_form g5
 obtain ⟨A6, c6, rfl, _⟩ := slc_form g6
 obtain ⟨A7, c7, rfl, _⟩ := slc_form g7
 obtain ⟨A8, c8, rfl, _⟩ := slc_form g8
 obtain ⟨A9, c9, rfl, _⟩ := slc_form h9
 obtain ⟨A10, c10, rfl, _⟩ := slc_form h10
 generalize hNN : (H.wals.length : Int) + 2 + H.cans.length = N at *
 have q1 : decide (n < 0) = false := by simp; omega
 have q2 : decide (N ≤ n) = false := by simp; omega
 unfold halV surfV at *
 refine (callsIn_wide (n := 10)).1 ?_
 refine callsIn_of_wp Tryz.func91 rfl trivial ?_ rfl
 simp only [Tryz.ntmps91, nt, Nat.reduceAdd, Nat.reduceSub]
 gi_wp2
 (refine ⟨trivial, ?_⟩; ((with_reducible refine (callsIn_wide.2 (HC.out _ ?hk)).mono ?_); (case hk => (repeat' first | with_reducible (first | apply bz0 | assumption | apply bz1 | apply bz2 | apply bz3 | apply bz4 | apply bz5) | (simp <;> omega))); rintro e w1 ⟨hB1, b, hb1, rfl, hR1⟩))
 generalize hY : World.alloc _ _ = Y at *
 have h7 : Seven Y (w.heap.size + 2) := by rw [← hY]; constructor <;> simp [go_sem]
 have BY : Below w.heap.size w Y := by rw [← hY]; (repeat' first | with_reducible (first | apply bz0 | assumption | apply bz1 | apply bz2 | apply bz3 | apply bz4 | apply bz5) | (simp <;> omega))
 have h7' := h7.kept hB1
 have BX : Below w.heap.size w w1 := BY.trans (hB1.lower BY.size)
 have hbw : w.heap.size ≤ b := Nat.le_trans BY.size hb1
 clear hY
 have HN1 := hidden (HN.out _ _ hR1)
 have hgs := BX.size
 gi_wp2
 (refine ⟨trivial, ?_⟩; ((with_reducible refine (callsIn_wide.2 HN1.out).mono ?_); rintro e w2 ⟨rfl, x2, rfl⟩))
 have h8 := h7'.kept (show Below w1.heap.size w1 (w1.ext x2) by (repeat' first | with_reducible (first | apply bz0 | assumption | apply bz1 | apply bz2 | apply bz3 | apply bz4 | apply bz5) | (simp <;> omega)))
 have hR2 : Room (w1.ext x2) b H S := hR1.below (show Below w1.heap.size w1 (w1.ext x2) by (repeat' first | with_reducible (first | apply bz0 | assumption | apply bz1 | apply bz2 | apply bz3 | apply bz4 | apply bz5) | (simp <;> omega)))
 have BX2 : Below w.heap.size w (w1.ext x2) := BX.trans (by (repeat' first | with_reducible (first | apply bz0 | assumption | apply bz1 | apply bz2 | apply bz3 | apply bz4 | apply bz5) | (simp <;> omega)))
 gi_wp2
 (refine ⟨trivial, ?_⟩; ((with_reducible refine (callsIn_wide.2 (HS.out _ _ hR2)).mono ?_); rintro e w3 ⟨hB3, cap, rfl, hQ⟩))
 have h9' := h8.kept hB3
 have hR3 := hR2.below hB3
 have BX3 : Below w.heap.size w w3 := BX2.trans (hB3.lower BX2.size)
 gi_wp2_with (refine Oper.wpIn_store rfl (store_surf _ _ _ _ _ _ _ _ _ _ _ h9') ?_)
 obtain ⟨z0, z1, z2, z3, z4, z5, z6⟩ := set7_cells K A mt lo hi sd fn pre cap h9'
 refine bodyPost_ret (v := .tuple #[.pointer (some ⟨b, 0, none⟩), .agg #[.int .i64 K, .int .i64 A, .string mt, .int .i64 lo, .int .i64 hi, .int .i64 sd, .func (.func fn) pre cap], .int .i64 0]) ?_ rfl ⟨set7_below (n := w.heap.size) BX3 (by omega), b, cap, w3, hbw, rfl, hR3, hQ, h9', rfl⟩
 simp [results, Tryz.results91, go_sem, z0, z1, z2, z3, z4, z5, z6]
end Go.Proofs.YtekieoamelahkaaGreat
