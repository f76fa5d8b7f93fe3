/- Contracts of the room's methods, first part: line, isBetween, isLevel. -/
import Derived.Test.YtekieoamelahkaaGreatM12
import Derived.Test.YtekieoamelahkaaGreatM01
import Derived.Test.YtekieoamelahkaaGreatM03
set_option maxRecDepth 100000
set_option maxHeartbeats 1000000
set_option linter.unusedVariables false
set_option linter.unusedSimpArgs false
namespace Go.Proofs.YtekieoamelahkaaGreat
open Go.RowKit

def nxt (n i : Nat) : Nat := if i + 1 < n then i + 1 else 0

theorem nxt_lt {n i : Nat} (h : i < n) : nxt n i < n := by unfold nxt; split <;> omega
theorem nxt_mod {n i : Nat} (h : i < n) : ((i : Int) + 1) % (n : Int) = (nxt n i : Int) := by
 unfold nxt
 split
 · rw [Int.emod_eq_of_lt (by omega) (by omega)]; rfl
 · have : (i : Int) + 1 = n := by omega
   rw [this]; simp

theorem line_any {w : World} {b : Nat} {H : Hal} {S : Stg} (hR : Room w b H S) (i : Nat) (hi : i < H.cors.length) :
 Calls Tryz.prog 167 #[.pointer (some ⟨b, 0, none⟩), .int .i64 i] w (RetX w (.agg #[.int .i64 (corAt H.cors i).x, .int .i64 (corAt H.cors i).y, .int .i64 (corAt H.cors (nxt H.cors.length i)).x, .int .i64 (corAt H.cors (nxt H.cors.length i)).y])) := by
 obtain ⟨v4, v5, v6, v7, v8, v9, v10, hR⟩ := hR
 obtain ⟨A, c, rfl, hS⟩ := slc_form hR.hal.cors
 obtain ⟨g, o, rfl, hg, hcs⟩ := cor_at hS hi
 have hl := hS.1
 have hj := nxt_lt hi
 have e2 := nxt_mod hi
 have k1 := hcs i hi
 have k2 := hcs _ hj
 have h5 := hR.c5
 have hb := hR.has
 clear hR hcs hS
 generalize corAt H.cors i = C1 at *
 generalize corAt H.cors (nxt H.cors.length i) = C2 at *
 generalize nxt H.cors.length i = j at *
 generalize H.cors.length = n at *
 obtain ⟨a1, a2⟩ := k1; obtain ⟨b1, b2⟩ := k2
 have e1 : IntKind.i64.wrap ((i : Int) + 1) = (i : Int) + 1 := IntWalk.i64_in _ (by omega)
 have nb : b ≠ w.heap.size := Nat.ne_of_lt hb
 have ng : g ≠ w.heap.size := Nat.ne_of_lt hg
 go_enter Tryz.func167, Tryz.ntmps167
 go_wp2
 (refine wp_region_tameH (w.heap.size) (by kernel_rfl) (by kernel_rfl) ?_); (repeat (first | (refine tmS rfl ?_; simp only [Act.put, List.setIfInBounds_toArray, List.set_cons_succ, List.set_cons_zero]) | (refine tmP rfl rfl rfl (fun K hK => ?_); go_big_quiet_op; refine hK _ ?_; clear hK K) | (refine tmE rfl rfl (fun K hK => ?_); go_big_op; (first | fail | skip); (refine hK _ _ rfl (hole_of (by (repeat' (first | (with_reducible exact HoleRel.refl _ _ _) | (with_reducible assumption) | (with_reducible refine HoleRel.swap ?_ _ _) | (with_reducible refine HoleRel.drew ?_) | (with_reducible refine HoleRel.drewN ?_ _) | (with_reducible refine HoleRel.setCell ?_ ?_ _) | (with_reducible refine HoleRel.putObj ?_ ?_ _) | (with_reducible refine HoleRel.alloc ?_ ?_ _) | (with_reducible refine HoleRel.ext ?_ ?_ _) | (exact Or.inl rfl) | (simp; done) | (simp; omega))))) ?_; clear hK K)))); (refine tmN ?_)
 go_wp2
 refine bodyPost_ret (v := .agg #[.int .i64 C1.x, .int .i64 C1.y, .int .i64 C2.x, .int .i64 C2.y]) (by simp [results, Tryz.results167, go_sem]) rfl (retX rfl ?_)
 (repeat' first | with_reducible (first | apply bz0 | assumption | apply bz1 | apply bz2 | apply bz3 | apply bz4 | apply bz5) | (simp <;> omega))
end Go.Proofs.YtekieoamelahkaaGreat

/- Contracts of the room's methods, second part: heights, planes of canopies, sheets, the middle of a way. -/
namespace Go.Proofs.YtekieoamelahkaaGreat
open Go.RowKit

def betweenB (h z d : Int) : Bool := decide (0 < z) && decide (z < h * d)
def levelB (h z d : Int) : Bool := decide (0 ≤ z) && decide (z ≤ h * d)

theorem isBetween_any {w : World} {b : Nat} {H : Hal} {S : Stg} (hR : Room w b H S) (hh : -5000 ≤ H.height ∧ H.height ≤ 5000) (x y z n : Int) (hn : 0 ≤ n ∧ n ≤ 100000000000000) :
 Calls Tryz.prog 150 #[.pointer (some ⟨b, 0, none⟩), .agg #[.int .i64 x, .int .i64 y, .int .i64 z, .int .i64 n]] w (RetX w (.bool (betweenB H.height z n))) := by
 obtain ⟨v4, v5, v6, v7, v8, v9, v10, hR⟩ := hR
 have h1 := hR.c1
 have hb := hR.has
 clear hR
 have m1 := mul_bd hh hn (by omega)
 generalize H.height = h at *
 have nb : b ≠ w.heap.size := Nat.ne_of_lt hb
 have hd : decide (0 < z) = true ∨ decide (0 < z) = false := by cases decide (0 < z) <;> simp
 rcases hd with hd | hd
 all_goals
  go_enter Tryz.func150, Tryz.ntmps150
  go_wp2
  (refine tmX (by kernel_rfl) (by kernel_rfl) ?_); (repeat (first | (refine tmS rfl ?_; simp only [Act.put, List.setIfInBounds_toArray, List.set_cons_succ, List.set_cons_zero]) | (refine tmP rfl rfl rfl (fun K hK => ?_); go_big_quiet_op; refine hK _ ?_; clear hK K) | (refine tmE rfl rfl (fun K hK => ?_); go_big_op; (first | fail | skip); (refine hK _ _ rfl (ext_of_below (by (repeat' first | with_reducible (first | apply bz0 | assumption | apply bz1 | apply bz2 | apply bz3 | apply bz4 | apply bz5) | (simp <;> omega)))) ?_; clear hK K)))); (refine tmN ?_)
  go_wp2
  go_ret
  refine retX_bool (by rw [Bool.eq_iff_iff]; simp at hd; simp [betweenB]; omega) ?_
  (repeat' first | with_reducible (first | apply bz0 | assumption | apply bz1 | apply bz2 | apply bz3 | apply bz4 | apply bz5) | (simp <;> omega))

theorem isLevel_any {w : World} {b : Nat} {H : Hal} {S : Stg} (hR : Room w b H S) (hh : -5000 ≤ H.height ∧ H.height ≤ 5000) (x y z n : Int) (hn : 0 ≤ n ∧ n ≤ 100000000000000) :
 Calls Tryz.prog 154 #[.pointer (some ⟨b, 0, none⟩), .agg #[.int .i64 x, .int .i64 y, .int .i64 z, .int .i64 n]] w (RetX w (.bool (levelB H.height z n))) := by
 obtain ⟨v4, v5, v6, v7, v8, v9, v10, hR⟩ := hR
 have h1 := hR.c1
 have hb := hR.has
 clear hR
 have m1 := mul_bd hh hn (by omega)
 generalize H.height = h at *
 have nb : b ≠ w.heap.size := Nat.ne_of_lt hb
 have hd : decide (0 ≤ z) = true ∨ decide (0 ≤ z) = false := by cases decide (0 ≤ z) <;> simp
 rcases hd with hd | hd
 all_goals
  go_enter Tryz.func154, Tryz.ntmps154
  go_wp2
  (refine tmX (by kernel_rfl) (by kernel_rfl) ?_); (repeat (first | (refine tmS rfl ?_; simp only [Act.put, List.setIfInBounds_toArray, List.set_cons_succ, List.set_cons_zero]) | (refine tmP rfl rfl rfl (fun K hK => ?_); go_big_quiet_op; refine hK _ ?_; clear hK K) | (refine tmE rfl rfl (fun K hK => ?_); go_big_op; (first | fail | skip); (refine hK _ _ rfl (ext_of_below (by (repeat' first | with_reducible (first | apply bz0 | assumption | apply bz1 | apply bz2 | apply bz3 | apply bz4 | apply bz5) | (simp <;> omega)))) ?_; clear hK K)))); (refine tmN ?_)
  go_wp2
  go_ret
  refine retX_bool (by rw [Bool.eq_iff_iff]; simp at hd; simp [levelB]; omega) ?_
  (repeat' first | with_reducible (first | apply bz0 | assumption | apply bz1 | apply bz2 | apply bz3 | apply bz4 | apply bz5) | (simp <;> omega))

def canZ (H : Hal) (S : Stg) (i : Nat) : Int := intAt (canAt H.cans i).hs (intAt S.hs i).toNat

theorem canopyPlane_any {w : World} {b : Nat} {H : Hal} {S : Stg} (hR : Room w b H S) (i : Nat) (hi : i < H.cans.length) (hi' : i < S.hs.length) (h0 : 0 ≤ intAt S.hs i) (h1 : intAt S.hs i < (canAt H.cans i).hs.length) :
 Calls Tryz.prog 158 #[.pointer (some ⟨b, 0, none⟩), .int .i64 i] w (RetX w (.agg #[.int .i64 2, .int .i64 (canZ H S i)])) := by
 obtain ⟨v4, v5, v6, v7, v8, v9, v10, hR⟩ := hR
 obtain ⟨A, c, rfl, hS⟩ := slc_form hR.hal.cans
 obtain ⟨g, o, rfl, hg, hcs⟩ := can_at hS hi
 obtain ⟨A2, c2, rfl, hS2⟩ := slc_form hR.hs
 obtain ⟨g2, o2, rfl, hg2, hcs2⟩ := int_at hS2 hi'
 obtain ⟨_, _, _, _, _, _, A3, c3, hcell3, hS3⟩ := hcs i hi
 have k2 := hcs2 i hi'
 have hl := hS.1
 have hl2 := hS2.1
 have hl3 := hS3.1
 have h7 := hR.c7
 have h9 := hR.c9
 have hb := hR.has
 unfold canZ
 generalize intAt S.hs i = q at *
 obtain ⟨q, rfl⟩ := Int.eq_ofNat_of_zero_le h0
 have hq : q < (canAt H.cans i).hs.length := by omega
 obtain ⟨g3, o3, rfl, hg3, hcs3⟩ := int_at hS3 hq
 have k3 := hcs3 q hq
 rw [Int.toNat_natCast]
 clear hR hcs hS hcs2 hS2 hcs3 hS3
 generalize intAt (canAt H.cans i).hs q = r at *
 generalize (canAt H.cans i).hs.length = n3 at *
 generalize H.cans.length = n at *
 generalize S.hs.length = n2 at *
 have nb : b ≠ w.heap.size := Nat.ne_of_lt hb
 have ng : g ≠ w.heap.size := Nat.ne_of_lt hg
 have ng2 : g2 ≠ w.heap.size := Nat.ne_of_lt hg2
 have ng3 : g3 ≠ w.heap.size := Nat.ne_of_lt hg3
 go_enter Tryz.func158, Tryz.ntmps158
 go_wp2
 (refine wp_region_tameH (w.heap.size) (by kernel_rfl) (by kernel_rfl) ?_); (repeat (first | (refine tmS rfl ?_; simp only [Act.put, List.setIfInBounds_toArray, List.set_cons_succ, List.set_cons_zero]) | (refine tmP rfl rfl rfl (fun K hK => ?_); go_big_quiet_op; refine hK _ ?_; clear hK K) | (refine tmE rfl rfl (fun K hK => ?_); go_big_op; (first | fail | skip); (refine hK _ _ rfl (hole_of (by (repeat' (first | (with_reducible exact HoleRel.refl _ _ _) | (with_reducible assumption) | (with_reducible refine HoleRel.swap ?_ _ _) | (with_reducible refine HoleRel.drew ?_) | (with_reducible refine HoleRel.drewN ?_ _) | (with_reducible refine HoleRel.setCell ?_ ?_ _) | (with_reducible refine HoleRel.putObj ?_ ?_ _) | (with_reducible refine HoleRel.alloc ?_ ?_ _) | (with_reducible refine HoleRel.ext ?_ ?_ _) | (exact Or.inl rfl) | (simp; done) | (simp; omega))))) ?_; clear hK K)))); (refine tmN ?_)
 go_wp2
 refine bodyPost_ret (v := .agg #[.int .i64 2, .int .i64 r]) (by simp [results, Tryz.results158, go_sem]) rfl (retX rfl ?_)
 (repeat' first | with_reducible (first | apply bz0 | assumption | apply bz1 | apply bz2 | apply bz3 | apply bz4 | apply bz5) | (simp <;> omega))

end Go.Proofs.YtekieoamelahkaaGreat
