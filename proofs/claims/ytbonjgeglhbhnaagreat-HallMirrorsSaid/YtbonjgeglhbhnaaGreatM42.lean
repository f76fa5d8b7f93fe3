/- surface, at a wall; at the floor. -/
import Derived.Test.YtbonjgeglhbhnaaGreatM41
import Derived.Test.YtbonjgeglhbhnaaGreatM38
import Derived.WalkKit
set_option linter.unusedVariables false
set_option linter.unusedSimpArgs false
namespace Go.Proofs.YtbonjgeglhbhnaaGreat
open Go.RowKit Go.Shelf
attribute [local go_sem] Oper.semAt_some

theorem Seven.kept {W W' : World} {B : Nat} (h : Seven W B) (hb : Below W.heap.size W W') : Seven W' B := by
  obtain ⟨h0, h1, h2, h3, h4, h5, h6, hf⟩ := h
  have m := Sim.of_below (D := 0) hb
  exact ⟨m.cell h0, m.cell h1, m.cell h2, m.cell h3, m.cell h4, m.cell h5, m.cell h6, fun i => (World.frozen?_of_block (w := W) (hb.block B (has_of_cell h0))).trans (hf i)⟩
theorem Seven.new (w : World) : Seven (w.alloc (.cells #[.int .i64 0, .int .i64 0, .string ⟨#[]⟩, .int .i64 0, .int .i64 0, .int .i64 0, .nilFunc] 131)) w.heap.size := by constructor <;> simp [go_sem]

set_option maxRecDepth 100000 in set_option maxHeartbeats 1000000 in
theorem surface_wall {w : World} {bp : Nat} {H : Hal} {S : Stg} (hR : Room w bp H S) (i : Nat) (hi : i < H.wals.length) (K A lo hi' sd : Int) (mt : ByteArray) (Q : Array Value → World → Prop)
    (hW : ∀ W, Below w.heap.size w W → Calls Tryz.prog 109 #[.pointer (some ⟨bp, 0, none⟩), .int .i64 i] W (fun e w' => Below W.heap.size W w' ∧ ∃ cap, e = .returned (surfV K A mt lo hi' sd (.func (.func 146) #[] cap)) ∧ Q cap w')) :
    Calls Tryz.prog 83 #[.pointer (some ⟨bp, 0, none⟩), .int .i64 i] w (fun e w' => Below w.heap.size w w' ∧ ∃ cap W, e = .returned (surfV K A mt lo hi' sd (.func (.func 146) #[] cap)) ∧ Q cap W ∧ Seven W w.heap.size ∧ w' = set7 W w.heap.size K A mt lo hi' sd (.func (.func 146) #[] cap)) := by
  have HW := hidden hW
  clear hW
  obtain ⟨v4, v5, v6, v7, v8, u9, u10, hR⟩ := hR
  obtain ⟨A6, c6, rfl, hS6⟩ := slc_form hR.hal.wals
  have l6 := hS6.1
  have h6 := hR.c6
  have hbp := hR.has
  clear hR hS6
  have e1 : IntKind.i64.wrap ((H.wals.length : Int) + 1) = (H.wals.length : Int) + 1 := IntWalk.i64_in _ (by omega)
  have q1 : ((i : Int) == (H.wals.length : Int)) = false := by simp; omega
  have q2 : ((i : Int) == (H.wals.length : Int) + 1) = false := by simp; omega
  have q3 : decide ((i : Int) < (H.wals.length : Int)) = true := by simp; omega
  generalize H.wals.length = nw at *
  unfold surfV at *
  refine (callsIn_wide (n := 10)).1 ?_
  refine callsIn_of_wp Tryz.func83 rfl trivial ?_ rfl
  simp only [Tryz.ntmps83, List.size_toArray, List.length_cons, List.length_nil, Nat.reduceAdd, Nat.reduceSub, Array.replicate_succ, Array.replicate_zero, List.push_toArray, List.append_toArray, List.nil_append, List.cons_append]
  gi_wp2
  (refine ⟨trivial, ?_⟩; ((with_reducible refine (callsIn_wide.2 (HW.out _ ?hk)).mono ?_); (case hk => (repeat' (first | (with_reducible exact Below.refl _ _) | (with_reducible assumption) | (with_reducible refine Below.drew ?_) | (with_reducible refine Below.drewNStep ?_ _) | (with_reducible refine Below.alloc ?_ ?_ _) | (with_reducible refine Below.setCell ?_ ?_ _) | (with_reducible refine Below.extStep ?_ ?_ _) | (simp; done) | (simp; omega)))); rintro e w1 ⟨hB1, cap, rfl, hQ⟩))
  have h7 := (Seven.new w).kept hB1
  have hBx : Below w.heap.size w w1 := (show Below w.heap.size w _ by (repeat' (first | (with_reducible exact Below.refl _ _) | (with_reducible assumption) | (with_reducible refine Below.drew ?_) | (with_reducible refine Below.drewNStep ?_ _) | (with_reducible refine Below.alloc ?_ ?_ _) | (with_reducible refine Below.setCell ?_ ?_ _) | (with_reducible refine Below.extStep ?_ ?_ _) | (simp; done) | (simp; omega)))).trans (hB1.lower (by simp))
  gi_wp2_with (refine Oper.wpIn_store rfl (store_surf _ _ _ _ _ _ _ _ _ _ _ h7) ?_)
  obtain ⟨z0, z1, z2, z3, z4, z5, z6⟩ := set7_cells K A mt lo hi' sd 146 #[] cap h7
  refine bodyPost_ret (v := .agg #[.int .i64 K, .int .i64 A, .string mt, .int .i64 lo, .int .i64 hi', .int .i64 sd, .func (.func 146) #[] cap]) ?_ rfl ⟨set7_below hBx (Nat.le_refl _), cap, w1, rfl, hQ, h7, rfl⟩
  simp [results, Tryz.results83, go_sem, z0, z1, z2, z3, z4, z5, z6]
end Go.Proofs.YtbonjgeglhbhnaaGreat

/- curtains. -/
namespace Go.Proofs.YtbonjgeglhbhnaaGreat
open Go.RowKit Go.Shelf

theorem u_ints : Tryz.prog.underlying 45 = some (.slice 3) := by kernel_rfl
theorem info_int : (Tryz.prog.info? 3).map (fun i => (i.zero, i.size, i.bytes)) = some (some (.int .i64 0), 1, 8) := by kernel_rfl
def curL (H : Hal) (k : Nat) : List Int := ((List.range k).filter (fun j => decide ((walAt H.wals j).cur.size ≠ 0))).map Int.ofNat
theorem curL_hit {H : Hal} {k : Nat} (h : (walAt H.wals k).cur.size ≠ 0) : curL H (k + 1) = curL H k ++ [(k : Int)] := by
  unfold curL
  rw [List.range_succ, List.filter_append, List.map_append, List.filter_cons_of_pos (p := fun j => decide ((walAt H.wals j).cur.size ≠ 0)) (a := k) (decide_eq_true h), List.filter_nil]
  rfl
theorem curL_miss {H : Hal} {k : Nat} (h : (walAt H.wals k).cur.size = 0) : curL H (k + 1) = curL H k := by
  unfold curL
  rw [List.range_succ, List.filter_append, List.map_append, List.filter_cons_of_neg (by rw [decide_eq_true_eq]; omega), List.filter_nil, List.map_nil, List.append_nil]
theorem curL_le (H : Hal) (k : Nat) : (curL H k).length ≤ k := by
  unfold curL
  simpa using List.length_filter_le (fun j => decide ((walAt H.wals j).cur.size ≠ 0)) (List.range k)
theorem curL_keep {B : Nat} {H : Hal} {k : Nat} {w wr w1 : World} {u v' : Value} {o o' : Obj} (hk : (walAt H.wals k).cur.size ≠ 0)
    (hown : wr.ownsRow B 3 1 u (curL H k).length ((curL H k).map (Value.int .i64))) (hB : Below B w wr)
    (hown' : w1.ownsRow B 3 1 v' ((curL H k).length + 1) ((curL H k).map (Value.int .i64) ++ [.int .i64 k])) (hgrow : ((wr.alloc o).alloc o').grownBy w1 u.ownBlock) (hs : B ≤ wr.heap.size) :
    w1.ownsRow B 3 1 v' (curL H (k + 1)).length ((curL H (k + 1)).map (Value.int .i64)) ∧ Below B w w1 := by
  refine ⟨by rw [curL_hit hk]; simpa using hown', (((hB.alloc (by omega) o).alloc (by simp; omega) o').grown hgrow (by simp; omega) (fun j hj => by have := (hown.lt j hj).1; omega))⟩

set_option maxRecDepth 100000 in set_option maxHeartbeats 1000000 in
theorem curtains_any {w : World} {b : Nat} {H : Hal} {S : Stg} (hR : Room w b H S) :
    Calls Tryz.prog 100 #[.pointer (some ⟨b, 0, none⟩)] w (fun e w' => Below w.heap.size w w' ∧ ∃ v, e = .returned v ∧ w'.ownsRow w.heap.size 3 1 v (curL H H.wals.length).length ((curL H H.wals.length).map (Value.int .i64)) ∧ (curL H H.wals.length = [] → v = .slice none 0 0)) := by
  obtain ⟨v4, v5, v6, v7, v8, u9, u10, hR⟩ := hR
  obtain ⟨A6, c6, rfl, hS6⟩ := slc_form hR.hal.wals
  have l6 := hS6.1
  have h6 := hR.c6
  have hb := hR.has
  clear hR
  obtain ⟨i0, hi, hz0, hz1, hz2⟩ := info_parts info_int
  go_enter Tryz.func100, Tryz.ntmps100
  go_wp2
  go_loopw [3, 12] (fun v i wr => ∃ k : Nat, k ≤ H.wals.length ∧ i = .int .i64 k ∧ wr.ownsRow w.heap.size 3 1 v (curL H k).length ((curL H k).map (Value.int .i64)) ∧ Below w.heap.size w wr ∧ (curL H k = [] → v = .slice none 0 0)) (fun _ i _ => H.wals.length - (intOf i).toNat)
  case atStart => exact ⟨0, Nat.zero_le _, rfl, World.ownsRow_nil _ _ _ _, Below.refl _ _, fun _ => rfl⟩
  case round =>
    obtain ⟨k, hk, rfl, hown, hB, hnil⟩ := hrel
    have hgs := hB.size
    have hkl := curL_le H k
    rcases Nat.lt_or_ge k H.wals.length with hlt | hge
    · obtain ⟨g, o, rfl, hg, hcs⟩ := wal_at (hS6.below hB) hlt
      obtain ⟨k0, k1, k2⟩ := hcs k hlt
      have hem := empty_iff (walAt H.wals k).cur
      clear hcs hS6 h6
      cases q : decide ((walAt H.wals k).cur.size = 0) with
      | true =>
        rw [q] at hem
        have hm := curL_miss (H := H) (k := k) (by simpa using q)
        rw [← hm] at hown hnil
        clear hm
        generalize hL : curL H (k + 1) = L at *
        go_wp2
        exact ⟨⟨k + 1, by omega, by simp, by rw [hL]; exact hown.alloc _, by (repeat' (first | (with_reducible exact Below.refl _ _) | (with_reducible assumption) | (with_reducible refine Below.drew ?_) | (with_reducible refine Below.drewNStep ?_ _) | (with_reducible refine Below.alloc ?_ ?_ _) | (with_reducible refine Below.setCell ?_ ?_ _) | (with_reducible refine Below.extStep ?_ ?_ _) | (simp; done) | (simp; omega))), by rw [hL]; exact hnil⟩, by simp [intOf]; omega⟩
      | false =>
        rw [q] at hem
        go_wp2_with (first
          | (at_builtin; refine wpList_append_own _ rfl _ _ 45 rfl w.heap.size 3 i0 (.int .i64 0) 1 8 u_ints hi hz0 hz1 hz2 rfl (by decide) _ _ _ rfl ((hown.alloc _).alloc _) ⟨wr.heap.size + 1, 0, none⟩ 1 1 [.int .i64 k] rfl rfl ?c1 ?c2 ?c3 ?c4 ?c5 ?_))
        case c1 =>
          intro j u hj
          match j, hj with
          | 0, hj => simp at hj; subst hj; simp [go_sem, Addr.add]
        case c2 => intro u hu; simp at hu; subst hu; rfl
        case c3 => unfold maxLen; omega
        case c4 => omega
        case c5 => simp; omega
        intro v' w1 hown' hgrow _
        have R := curL_keep (by simpa using q) hown hB hown' hgrow hgs
        clear hown' hgrow hown hB
        generalize hL : curL H (k + 1) = L at *
        have hne : L ≠ [] := by rw [← hL, curL_hit (by simpa using q)]; simp
        go_wp2
        exact ⟨⟨k + 1, by omega, by simp, by rw [hL]; exact R.1, R.2, fun h => absurd (hL.symm.trans h) hne⟩, by simp [intOf]; omega⟩
    · obtain rfl : k = H.wals.length := by omega
      go_wp2
      go_ret
      exact ⟨hB, _, rfl, hown, hnil⟩
end Go.Proofs.YtbonjgeglhbhnaaGreat

/- countSettings. -/
namespace Go.Proofs.YtbonjgeglhbhnaaGreat
open Go.RowKit Go.Shelf
attribute [local go_sem] Oper.semAt_some

theorem own_form {w : World} {base : Nat} {e : TypeId} {size : Nat} {v : Value} {n : Nat} {xs : List Value} (h : w.ownsRow base e size v n xs) : ∃ A c, v = .slice A n c := by
  obtain ⟨_, ⟨rfl, rfl⟩ | ⟨g, cap, cur, rfl, _⟩⟩ := h
  · exact ⟨none, 0, rfl⟩
  · exact ⟨_, _, rfl⟩
theorem own_slc {w : World} {base : Nat} {e : TypeId} {v : Value} {xs : List Int} (h : w.ownsRow base e 1 v xs.length (xs.map (Value.int .i64))) (hl : xs.length ≤ 1000000) : SlcAt encInt w v xs := by
  refine ⟨hl, ?_⟩
  by_cases h0 : xs.length = 0
  · obtain ⟨A, c, rfl⟩ := own_form h
    exact ⟨A, c, rfl, fun hp => by omega⟩
  · obtain ⟨g, cap, cur, rfl, hb, hg, _⟩ : ∃ g cap cur, v = .slice (some ⟨g, 0, none⟩) xs.length cap ∧ base ≤ g ∧ w.heap[g]? = some (.cells cur e (0, 0)) ∧ True := by
      obtain ⟨_, ⟨rfl, h1⟩ | ⟨g, cap, cur, rfl, hb, hg, _⟩⟩ := h
      · exact absurd h1 h0
      · exact ⟨g, cap, cur, rfl, hb, hg, trivial⟩
    refine ⟨_, cap, rfl, fun _ => ⟨g, 0, rfl, ?_, ?_⟩⟩
    · rcases Nat.lt_or_ge g w.heap.size with h' | h'
      · exact h'
      · rw [Array.getElem?_eq_none h'] at hg; cases hg
    · intro i x hx j hj
      obtain rfl : j = 0 := by have : j < 1 := hj; omega
      have hi : i < xs.length := by
        rcases Nat.lt_or_ge i xs.length with h' | h'
        · exact h'
        · rw [List.getElem?_eq_none h'] at hx; cases hx
      refine ⟨.int .i64 x, ?_, rfl⟩
      have := h.cellAt i (by omega)
      show w.cell? ⟨g, 0 + i * 1 + 0, none⟩ = _
      rw [show 0 + i * 1 + 0 = i by omega, this, List.getElem?_map, hx]
      rfl
theorem wrap_pow (m : Nat) (h : m ≤ 12) : wrap64 ((2 : Int) ^ m) = ((2 ^ m : Nat) : Int) := by
  have : m = 0 ∨ m = 1 ∨ m = 2 ∨ m = 3 ∨ m = 4 ∨ m = 5 ∨ m = 6 ∨ m = 7 ∨ m = 8 ∨ m = 9 ∨ m = 10 ∨ m = 11 ∨ m = 12 := by omega
  rcases this with rfl | rfl | rfl | rfl | rfl | rfl | rfl | rfl | rfl | rfl | rfl | rfl | rfl <;> first | rfl | (simp [wrap64]) | (exact (IntWalk.i64_in _ (by simp)).trans (by simp))
def cntTo (H : Hal) : Nat → Int | 0 => ((2 ^ (curL H H.wals.length).length : Nat) : Int) | k + 1 => cntTo H k * (canAt H.cans k).hs.length
def cntE (H : Hal) : Int × Int := if 1000 < cntTo H H.cans.length then (0, 8) else (cntTo H H.cans.length, 0)

set_option maxRecDepth 100000 in set_option maxHeartbeats 1000000 in
theorem countSettings_any {w : World} {b : Nat} {H : Hal} {S : Stg} (hR : Room w b H S) (hm : (curL H H.wals.length).length ≤ 12) (hc : ∀ k, k ≤ H.cans.length → 0 ≤ cntTo H k ∧ cntTo H k ≤ 1000000000) :
    Calls Tryz.prog 64 #[.pointer (some ⟨b, 0, none⟩)] w (RetX w (.tuple #[.int .i64 (cntE H).1, .int .i64 (cntE H).2])) := by
  have HC := hidden (fun (W : World) (hW : Below w.heap.size w W) => curtains_any (hR.below hW))
  obtain ⟨v4, v5, v6, v7, v8, u9, u10, hR⟩ := hR
  obtain ⟨A7, c7, rfl, hS7⟩ := slc_form hR.hal.cans
  have l7 := hS7.1
  have h7 := hR.c7
  have hb := hR.has
  clear hR
  refine (callsIn_wide (n := 10)).1 ?_
  refine callsIn_of_wp Tryz.func64 rfl trivial ?_ rfl
  simp only [Tryz.ntmps64, List.size_toArray, List.length_cons, List.length_nil, Nat.reduceAdd, Nat.reduceSub, Array.replicate_succ, Array.replicate_zero, List.push_toArray, List.append_toArray, List.nil_append, List.cons_append]
  gi_wp2
  (refine ⟨trivial, ?_⟩; ((with_reducible refine (callsIn_wide.2 (HC.out _ ?hk)).mono ?_); (case hk => (repeat' (first | (with_reducible exact Below.refl _ _) | (with_reducible assumption) | (with_reducible refine Below.drew ?_) | (with_reducible refine Below.drewNStep ?_ _) | (with_reducible refine Below.alloc ?_ ?_ _) | (with_reducible refine Below.setCell ?_ ?_ _) | (with_reducible refine Below.extStep ?_ ?_ _) | (simp; done) | (simp; omega)))); rintro e X ⟨hBX, v, rfl, hown, hnil⟩))
  have BX : Below w.heap.size w X := hBX
  obtain ⟨Av, cv, rfl⟩ := own_form hown
  have h0 : Hid (cntTo H 0 = ((2 ^ (curL H H.wals.length).length : Nat) : Int)) := rfl
  clear hown hnil hBX HC
  generalize (curL H H.wals.length).length = m at *
  replace h7 := cell_below BX hb h7
  replace hb := has_of_cell h7
  gi_wp2
  gi_loopw [4, 17] (fun c i wr => ∃ k : Nat, c = .int .i64 (cntTo H k) ∧ i = .int .i64 k ∧ k ≤ H.cans.length ∧ Below w.heap.size w wr) (fun _ i _ => H.cans.length - (intOf i).toNat)
  case atStart => exact ⟨0, by rw [h0.out, wrap_pow m hm], rfl, Nat.zero_le _, BX⟩
  case round =>
    obtain ⟨k, rfl, rfl, hk, hB⟩ := hrel
    have hgs := hB.size
    rcases Nat.lt_or_ge k H.cans.length with hlt | hge
    · obtain ⟨g, o, rfl, hg, hcs⟩ := can_at (hS7.below hB) hlt
      obtain ⟨k0, k1, k2, k3, k4, k5, A', c', k6, hk6⟩ := hcs k hlt
      have hw := hc (k + 1) (by omega)
      have hw0 := hc k (by omega)
      have hs1 : Hid (cntTo H (k + 1) = cntTo H k * (canAt H.cans k).hs.length) := rfl
      rw [hs1.out] at hw
      have e1 : IntKind.i64.wrap (cntTo H k * ((canAt H.cans k).hs.length : Int)) = cntTo H k * (canAt H.cans k).hs.length := IntWalk.i64_in _ (by omega)
      clear hcs hk6 hc
      generalize hcn1 : cntTo H (k + 1) = v1 at *
      generalize hcn : cntTo H k = v0 at *
      generalize canAt H.cans k = C at *
      obtain ⟨Cn, Cm, Cf, Ct, Ch⟩ := C
      simp only at *
      generalize H.cans.length = N at *
      gi_wp2
      exact ⟨⟨k + 1, by rw [hcn1, hs1.out], by simp, by omega, hB.trans ((show Below wr.heap.size wr _ by (repeat' (first | (with_reducible exact Below.refl _ _) | (with_reducible assumption) | (with_reducible refine Below.drew ?_) | (with_reducible refine Below.drewNStep ?_ _) | (with_reducible refine Below.alloc ?_ ?_ _) | (with_reducible refine Below.setCell ?_ ?_ _) | (with_reducible refine Below.extStep ?_ ?_ _) | (simp; done) | (simp; omega)))).lower hB.size)⟩, by simp [intOf]; omega⟩
    · obtain rfl : k = H.cans.length := by omega
      have hE : Hid (cntE H = if 1000 < cntTo H H.cans.length then (0, 8) else (cntTo H H.cans.length, 0)) := rfl
      cases q : decide (1000 < cntTo H H.cans.length) with
      | true =>
        have hq : cntE H = (0, 8) := by rw [hE.out, if_pos (by simpa using q)]
        generalize cntTo H H.cans.length = v at *
        gi_wp2
        refine bodyPost_ret (v := .tuple #[.int .i64 0, .int .i64 8]) (by simp [results, Tryz.results64, go_sem]) rfl (retX (by rw [hq]) (hB.trans (by (repeat' (first | (with_reducible exact Below.refl _ _) | (with_reducible assumption) | (with_reducible refine Below.drew ?_) | (with_reducible refine Below.drewNStep ?_ _) | (with_reducible refine Below.alloc ?_ ?_ _) | (with_reducible refine Below.setCell ?_ ?_ _) | (with_reducible refine Below.extStep ?_ ?_ _) | (simp; done) | (simp; omega))))))
      | false =>
        have hq : cntE H = (cntTo H H.cans.length, 0) := by rw [hE.out, if_neg (by simpa using q)]
        generalize cntTo H H.cans.length = v at *
        gi_wp2
        refine bodyPost_ret (v := .tuple #[.int .i64 v, .int .i64 0]) (by simp [results, Tryz.results64, go_sem]) rfl (retX (by rw [hq]) (hB.trans (by (repeat' (first | (with_reducible exact Below.refl _ _) | (with_reducible assumption) | (with_reducible refine Below.drew ?_) | (with_reducible refine Below.drewNStep ?_ _) | (with_reducible refine Below.alloc ?_ ?_ _) | (with_reducible refine Below.setCell ?_ ?_ _) | (with_reducible refine Below.extStep ?_ ?_ _) | (simp; done) | (simp; omega))))))
end Go.Proofs.YtbonjgeglhbhnaaGreat

/- What a wall tells of a point: wall$1, where only the height of the room is known. -/
namespace Go.Proofs.YtbonjgeglhbhnaaGreat
open Go.RowKit Go.Shelf
attribute [local go_sem] Oper.semAt_some

set_option maxRecDepth 100000 in set_option maxHeartbeats 1000000 in
theorem isBetween_h {w : World} {b : Nat} {h : Int} (h1 : w.cell? ⟨b, 1, none⟩ = some (.int .i64 h)) (hh : -5000 ≤ h ∧ h ≤ 5000) (x y z n : Int) (hn : 0 ≤ n ∧ n ≤ 100000000000000) :
    Calls Tryz.prog 112 #[.pointer (some ⟨b, 0, none⟩), .agg #[.int .i64 x, .int .i64 y, .int .i64 z, .int .i64 n]] w (RetX w (.bool (betweenB h z n))) := by
  have hb := has_of_cell h1
  have m1 := mul_bd hh hn (by omega)
  have nb : b ≠ w.heap.size := Nat.ne_of_lt hb
  have hd : decide (0 < z) = true ∨ decide (0 < z) = false := by cases decide (0 < z) <;> simp
  rcases hd with hd | hd
  all_goals
    go_enter Tryz.func112, Tryz.ntmps112
    go_wp2
    (refine wp_region_tameX (by kernel_rfl) (by kernel_rfl) ?_); (repeat (first | (refine wpTame_skip rfl ?_; simp only [Act.put, List.setIfInBounds_toArray, List.set_cons_succ, List.set_cons_zero]) | (refine wpTame_pure rfl rfl rfl (fun K hK => ?_); go_big_quiet_op; refine hK _ ?_; clear hK K) | (refine wpTame_eff rfl rfl (fun K hK => ?_); go_big_op; (first | fail | skip); (refine hK _ _ rfl (ext_of_below (by (repeat' (first | (with_reducible exact Below.refl _ _) | (with_reducible assumption) | (with_reducible refine Below.drew ?_) | (with_reducible refine Below.drewNStep ?_ _) | (with_reducible refine Below.alloc ?_ ?_ _) | (with_reducible refine Below.setCell ?_ ?_ _) | (with_reducible refine Below.extStep ?_ ?_ _) | (simp; done) | (simp; omega))))) ?_; clear hK K)))); (refine wpTame_nil ?_)
    go_wp2
    go_ret
    refine retX_bool (by rw [Bool.eq_iff_iff]; simp at hd; simp [betweenB]; omega) ?_
    (repeat' (first | (with_reducible exact Below.refl _ _) | (with_reducible assumption) | (with_reducible refine Below.drew ?_) | (with_reducible refine Below.drewNStep ?_ _) | (with_reducible refine Below.alloc ?_ ?_ _) | (with_reducible refine Below.setCell ?_ ?_ _) | (with_reducible refine Below.extStep ?_ ?_ _) | (simp; done) | (simp; omega)))

set_option maxRecDepth 100000 in set_option maxHeartbeats 1000000 in
theorem wallHolds_any {w : World} {b : Nat} {h : Int} (h1 : w.cell? ⟨b, 1, none⟩ = some (.int .i64 h)) (hh : -5000 ≤ h ∧ h ≤ 5000) (c1 c2 : Nat) (p q r s : Int) (h0 : w.cell? ⟨c1, 0, none⟩ = some (.pointer (some ⟨b, 0, none⟩))) (h4 : Four p q r s c2 w)
    (hp : -5000 ≤ p ∧ p ≤ 5000) (hq : -5000 ≤ q ∧ q ≤ 5000) (hr : -5000 ≤ r ∧ r ≤ 5000) (hs : -5000 ≤ s ∧ s ≤ 5000) (x y z n : Int) (hn : 0 ≤ n ∧ n ≤ 100000000000000) :
    Calls Tryz.prog 146 #[.agg #[.int .i64 x, .int .i64 y, .int .i64 z, .int .i64 n], .pointer (some ⟨c1, 0, none⟩), .pointer (some ⟨c2, 0, none⟩)] w (RetX w (.bool (betweenB h z n && holdsWellB p q r s x y n))) := by
  have HB := hidden (fun (W : World) (hW : Below w.heap.size w W) => isBetween_h (cell_below hW (has_of_cell h1) h1) hh x y z n hn)
  have HW := hidden (fun W => holdsWell_any p q r s x y z n W hp hq hr hs ⟨hn.1, by omega⟩)
  obtain ⟨f0, f1, f2, f3⟩ := h4
  have g1 := has_of_cell h0
  have g2 := has_of_cell f0
  clear h1 hh hp hq hr hs hn
  generalize betweenB h z n = u at *
  generalize holdsWellB p q r s x y n = v at *
  cases u
  all_goals
    go_enter Tryz.func146, Tryz.ntmps146
    go_wp2_with (first | (go_at_call 112; refine (HB.out _ (by (repeat' (first | (with_reducible exact Below.refl _ _) | (with_reducible assumption) | (with_reducible refine Below.drew ?_) | (with_reducible refine Below.drewNStep ?_ _) | (with_reducible refine Below.alloc ?_ ?_ _) | (with_reducible refine Below.setCell ?_ ?_ _) | (with_reducible refine Below.extStep ?_ ?_ _) | (simp; done) | (simp; omega))))).mono ?_; rintro e w' ⟨rfl, x1, rfl⟩) | (go_at_call 147; refine (HW.out _).mono ?_; rintro e w' ⟨rfl, x2, rfl⟩))
    go_ret
    refine retX_bool (by simp) ?_
    (repeat' (first | (with_reducible exact Below.refl _ _) | (with_reducible assumption) | (with_reducible refine Below.drew ?_) | (with_reducible refine Below.drewNStep ?_ _) | (with_reducible refine Below.alloc ?_ ?_ _) | (with_reducible refine Below.setCell ?_ ?_ _) | (with_reducible refine Below.extStep ?_ ?_ _) | (simp; done) | (simp; omega)))

/-- what a wall's function captured is as it was, behind the store of a surface -/
theorem wallQ_set7 {W : World} {B b c1 c2 : Nat} {p q r s K A lo hi sd : Int} {mt : ByteArray} {f : Value} (h7 : Seven W B) (h0 : W.cell? ⟨c1, 0, none⟩ = some (.pointer (some ⟨b, 0, none⟩))) (h4 : Four p q r s c2 W) :
    (set7 W B K A mt lo hi sd f).cell? ⟨c1, 0, none⟩ = some (.pointer (some ⟨b, 0, none⟩)) ∧ Four p q r s c2 (set7 W B K A mt lo hi sd f) := by
  have n1 : c1 ≠ B := by rintro rfl; rw [h7.c0] at h0; cases h0
  have n2 : c2 ≠ B := by rintro rfl; have := h4.c2; rw [h7.c2] at this; cases this
  refine ⟨by rw [set7_other _ _ _ _ _ _ _ n1]; exact h0, ?_⟩
  constructor
  · rw [set7_other _ _ _ _ _ _ _ n2]; exact h4.c0
  · rw [set7_other _ _ _ _ _ _ _ n2]; exact h4.c1
  · rw [set7_other _ _ _ _ _ _ _ n2]; exact h4.c2
  · rw [set7_other _ _ _ _ _ _ _ n2]; exact h4.c3
end Go.Proofs.YtbonjgeglhbhnaaGreat

/- surface, at the floor, the ceiling, a canopy. -/
namespace Go.Proofs.YtbonjgeglhbhnaaGreat
open Go.RowKit Go.Shelf
attribute [local go_sem] Oper.semAt_some


set_option maxRecDepth 100000 in set_option maxHeartbeats 1000000 in
theorem surface_floor {w : World} {bp : Nat} {H : Hal} {S : Stg} (hR : Room w bp H S) (hC : CorsIn H) (hN : H.cors.length ≤ 20) (hA : 0 < areaTo H H.cors.length) :
    Calls Tryz.prog 83 #[.pointer (some ⟨bp, 0, none⟩), .int .i64 H.wals.length] w (RetX w (surfV 2 0 H.floor (areaTo H H.cors.length / 2) ((areaTo H H.cors.length + 1) / 2) 1 (.func (.func 113) #[.pointer (some ⟨bp, 0, none⟩)] #[]))) := by
  have HW := hidden (fun (W : World) (hW : Below w.heap.size w W) => level_room (hR.below hW) hC hN hA 0 H.floor)
  obtain ⟨v4, v5, v6, v7, v8, u9, u10, hR⟩ := hR
  obtain ⟨A6, c6, rfl, hS6⟩ := slc_form hR.hal.wals
  have l6 := hS6.1
  have h6 := hR.c6
  have h2 := hR.c2
  have hbp := hR.has
  clear hR hS6
  have q1 : ((H.wals.length : Int) == (H.wals.length : Int)) = true := by simp
  generalize H.floor = m at *
  generalize (areaTo H H.cors.length + 1) / 2 = hi at *
  generalize areaTo H H.cors.length / 2 = lo at *
  unfold surfV at *
  refine (callsIn_wide (n := 10)).1 ?_; refine callsIn_of_wp Tryz.func83 rfl trivial ?_ rfl; simp only [Tryz.ntmps83, List.size_toArray, List.length_cons, List.length_nil, Nat.reduceAdd, Nat.reduceSub, Array.replicate_succ, Array.replicate_zero, List.push_toArray, List.append_toArray, List.nil_append, List.cons_append]
  gi_wp2
  (refine ⟨trivial, ?_⟩; ((with_reducible refine (callsIn_wide.2 (HW.out _ ?hk)).mono ?_); (case hk => (repeat' (first | (with_reducible exact Below.refl _ _) | (with_reducible assumption) | (with_reducible refine Below.drew ?_) | (with_reducible refine Below.drewNStep ?_ _) | (with_reducible refine Below.alloc ?_ ?_ _) | (with_reducible refine Below.setCell ?_ ?_ _) | (with_reducible refine Below.extStep ?_ ?_ _) | (simp; done) | (simp; omega)))); rintro e w1 ⟨rfl, x1, rfl⟩))
  have h7 := (Seven.new w).kept (W' := (w.alloc (.cells #[.int .i64 0, .int .i64 0, .string ⟨#[]⟩, .int .i64 0, .int .i64 0, .int .i64 0, .nilFunc] 131)).ext x1) (by (repeat' (first | (with_reducible exact Below.refl _ _) | (with_reducible assumption) | (with_reducible refine Below.drew ?_) | (with_reducible refine Below.drewNStep ?_ _) | (with_reducible refine Below.alloc ?_ ?_ _) | (with_reducible refine Below.setCell ?_ ?_ _) | (with_reducible refine Below.extStep ?_ ?_ _) | (simp; done) | (simp; omega))))
  gi_wp2_with (refine Oper.wpIn_store rfl (store_surf _ _ _ _ _ _ _ _ _ _ _ h7) ?_)
  obtain ⟨z0, z1, z2, z3, z4, z5, z6⟩ := set7_cells 2 0 m lo hi 1 113 #[.pointer (some ⟨bp, 0, none⟩)] #[] h7
  refine bodyPost_ret (v := .agg #[.int .i64 2, .int .i64 0, .string m, .int .i64 lo, .int .i64 hi, .int .i64 1, .func (.func 113) #[.pointer (some ⟨bp, 0, none⟩)] #[]]) ?_ rfl (retX rfl (set7_below (by (repeat' (first | (with_reducible exact Below.refl _ _) | (with_reducible assumption) | (with_reducible refine Below.drew ?_) | (with_reducible refine Below.drewNStep ?_ _) | (with_reducible refine Below.alloc ?_ ?_ _) | (with_reducible refine Below.setCell ?_ ?_ _) | (with_reducible refine Below.extStep ?_ ?_ _) | (simp; done) | (simp; omega)))) (Nat.le_refl _)))
  simp [results, Tryz.results83, go_sem, z0, z1, z2, z3, z4, z5, z6]

set_option maxRecDepth 100000 in set_option maxHeartbeats 1000000 in
theorem surface_ceil {w : World} {bp : Nat} {H : Hal} {S : Stg} (hR : Room w bp H S) (hC : CorsIn H) (hN : H.cors.length ≤ 20) (hA : 0 < areaTo H H.cors.length) :
    Calls Tryz.prog 83 #[.pointer (some ⟨bp, 0, none⟩), .int .i64 ((H.wals.length : Int) + 1)] w (RetX w (surfV 2 H.height H.ceil (areaTo H H.cors.length / 2) ((areaTo H H.cors.length + 1) / 2) 1 (.func (.func 113) #[.pointer (some ⟨bp, 0, none⟩)] #[]))) := by
  have HW := hidden (fun (W : World) (hW : Below w.heap.size w W) => level_room (hR.below hW) hC hN hA H.height H.ceil)
  obtain ⟨v4, v5, v6, v7, v8, u9, u10, hR⟩ := hR
  obtain ⟨A6, c6, rfl, hS6⟩ := slc_form hR.hal.wals
  have l6 := hS6.1
  have h6 := hR.c6
  have h1 := hR.c1
  have h3 := hR.c3
  have hbp := hR.has
  clear hR hS6
  have e1 : IntKind.i64.wrap ((H.wals.length : Int) + 1) = (H.wals.length : Int) + 1 := IntWalk.i64_in _ (by omega)
  have q1 : ((H.wals.length : Int) + 1 == (H.wals.length : Int)) = false := by simp; omega
  have q2 : ((H.wals.length : Int) + 1 == (H.wals.length : Int) + 1) = true := by simp
  have nne : bp ≠ w.heap.size := Nat.ne_of_lt hbp
  generalize H.ceil = m at *
  generalize H.height = z at *
  generalize (areaTo H H.cors.length + 1) / 2 = hi at *
  generalize areaTo H H.cors.length / 2 = lo at *
  generalize H.wals.length = nw at *
  unfold surfV at *
  refine (callsIn_wide (n := 10)).1 ?_; refine callsIn_of_wp Tryz.func83 rfl trivial ?_ rfl; simp only [Tryz.ntmps83, List.size_toArray, List.length_cons, List.length_nil, Nat.reduceAdd, Nat.reduceSub, Array.replicate_succ, Array.replicate_zero, List.push_toArray, List.append_toArray, List.nil_append, List.cons_append]
  gi_wp2
  refine wpIn_wide.2 ?_
  (refine wp_region_tameH (w.heap.size) (by kernel_rfl) (by kernel_rfl) ?_); (repeat (first | (refine wpTame_eff rfl rfl (fun K hK => ?_); refine Oper.wp_store (W' := ?Wn) rfl ?st ?_; (case st => (refine store_surf _ _ _ _ _ _ _ _ _ _ _ ?_; (constructor <;> simp [go_sem]))); (refine hK _ _ rfl (hole_of (by (repeat' (first | (with_reducible exact HoleRel.refl _ _ _) | (with_reducible assumption) | (with_reducible refine HoleRel.swap ?_ _ _) | (with_reducible refine HoleRel.drew ?_) | (with_reducible refine HoleRel.drewN ?_ _) | (with_reducible refine HoleRel.setCell ?_ ?_ _) | (with_reducible refine HoleRel.putObj ?_ ?_ _) | (with_reducible refine HoleRel.alloc ?_ ?_ _) | (with_reducible refine HoleRel.ext ?_ ?_ _) | (exact Or.inl rfl) | (simp; done) | (simp; omega))))) ?_; clear hK K)) | (refine wpTame_skip rfl ?_; simp only [Act.put, List.setIfInBounds_toArray, List.set_cons_succ, List.set_cons_zero]) | (refine wpTame_pure rfl rfl rfl (fun K hK => ?_); go_big_quiet_op; refine hK _ ?_; clear hK K) | (refine wpTame_eff rfl rfl (fun K hK => ?_); go_big_op; (first | (go_at_call 108; refine (HW.out _ (by (repeat' (first | (with_reducible exact Below.refl _ _) | (with_reducible assumption) | (with_reducible refine Below.drew ?_) | (with_reducible refine Below.drewNStep ?_ _) | (with_reducible refine Below.alloc ?_ ?_ _) | (with_reducible refine Below.setCell ?_ ?_ _) | (with_reducible refine Below.extStep ?_ ?_ _) | (simp; done) | (simp; omega))))).mono ?_; rintro e w' ⟨rfl, x1, rfl⟩) | skip); (refine hK _ _ rfl (hole_of (by (repeat' (first | (with_reducible exact HoleRel.refl _ _ _) | (with_reducible assumption) | (with_reducible refine HoleRel.swap ?_ _ _) | (with_reducible refine HoleRel.drew ?_) | (with_reducible refine HoleRel.drewN ?_ _) | (with_reducible refine HoleRel.setCell ?_ ?_ _) | (with_reducible refine HoleRel.putObj ?_ ?_ _) | (with_reducible refine HoleRel.alloc ?_ ?_ _) | (with_reducible refine HoleRel.ext ?_ ?_ _) | (exact Or.inl rfl) | (simp; done) | (simp; omega))))) ?_; clear hK K)))); (refine wpTame_nil ?_)
  generalize hX : set7 _ _ _ _ _ _ _ _ _ = X
  have BX : Below w.heap.size w X := by rw [← hX]; exact set7_below (by (repeat' (first | (with_reducible exact Below.refl _ _) | (with_reducible assumption) | (with_reducible refine Below.drew ?_) | (with_reducible refine Below.drewNStep ?_ _) | (with_reducible refine Below.alloc ?_ ?_ _) | (with_reducible refine Below.setCell ?_ ?_ _) | (with_reducible refine Below.extStep ?_ ?_ _) | (simp; done) | (simp; omega)))) (Nat.le_refl _)
  have zz : X.cell? ⟨w.heap.size, 0, none⟩ = some (.int .i64 2) ∧ X.cell? ⟨w.heap.size, 1, none⟩ = some (.int .i64 z) ∧ X.cell? ⟨w.heap.size, 2, none⟩ = some (.string m) ∧ X.cell? ⟨w.heap.size, 3, none⟩ = some (.int .i64 lo) ∧ X.cell? ⟨w.heap.size, 4, none⟩ = some (.int .i64 hi) ∧ X.cell? ⟨w.heap.size, 5, none⟩ = some (.int .i64 1) ∧ X.cell? ⟨w.heap.size, 6, none⟩ = some (.func (.func 113) #[.pointer (some ⟨bp, 0, none⟩)] #[]) := by
    rw [← hX]
    exact set7_cells _ _ _ _ _ _ _ _ _ (by constructor <;> simp [go_sem])
  obtain ⟨z0, z1, z2, z3, z4, z5, z6⟩ := zz
  clear hX
  gi_wp2
  refine bodyPost_ret (v := .agg #[.int .i64 2, .int .i64 z, .string m, .int .i64 lo, .int .i64 hi, .int .i64 1, .func (.func 113) #[.pointer (some ⟨bp, 0, none⟩)] #[]]) ?_ rfl (retX rfl BX)
  simp [results, Tryz.results83, go_sem, z0, z1, z2, z3, z4, z5, z6]
end Go.Proofs.YtbonjgeglhbhnaaGreat
