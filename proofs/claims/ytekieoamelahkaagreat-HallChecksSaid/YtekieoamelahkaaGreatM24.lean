/- IsFree. -/
import Derived.Test.YtekieoamelahkaaGreatM23
import Derived.Test.YtekieoamelahkaaGreatM19
import Derived.WalkKit
set_option maxRecDepth 100000
set_option maxHeartbeats 1000000
set_option linter.unusedVariables false
set_option linter.unusedSimpArgs false
namespace Go.Proofs.YtekieoamelahkaaGreat
open Go.RowKit

theorem setE_parts {H : Hal} {S : Stg} (h : setE H S = 0) : S.hs.length = H.cans.length ∧ (∀ j, j < S.hs.length → sthE H S j = 0) ∧ (∀ j, j < S.dr.length → stdE H S j = 0) := by
 unfold setE at h
 split at h
 · exact absurd h (by decide)
 · rename_i h1
   split at h
   · rename_i h2; exact absurd h h2
   · rename_i h2
     have h2 : firstE (sthE H S) S.hs.length = 0 := by simpa using h2
     exact ⟨by omega, firstE_zero h2, firstE_zero h⟩
theorem inE_parts {H : Hal} {S : Stg} (h : inE H S = 0) : (hallF H).2.2 = 0 ∧ setE H S = 0 := by
 unfold inE at h
 by_cases h0 : (hallF H).2.2 = 0
 · rw [if_neg (by simp [h0])] at h; exact ⟨h0, h⟩
 · rw [if_pos h0] at h; exact absurd h h0
theorem canZ_in {H : Hal} {S : Stg} (hi : inE H S = 0) : ∀ i, i < H.cans.length → i < S.hs.length ∧ 0 ≤ intAt S.hs i ∧ intAt S.hs i < (canAt H.cans i).hs.length ∧ -10000 ≤ canZ H S i ∧ canZ H S i ≤ 10000 := by
 obtain ⟨h0, hs⟩ := inE_parts hi
 have hok := hall_ok h0
 obtain ⟨p1, p2, p3⟩ := setE_parts hs
 intro i hlt
 have hc := hok.can hlt
 have h1 := p2 i (by omega)
 unfold sthE at h1
 split at h1
 · exact absurd h1 (by decide)
 split at h1
 · exact absurd h1 (by decide)
 have h5 := hok.h5
 have hz := hc.hz (intAt S.hs i).toNat (by omega)
 refine ⟨by omega, by omega, by omega, ?_, ?_⟩ <;> (unfold canZ; omega)
end Go.Proofs.YtekieoamelahkaaGreat

/- curtains, of a hall without. -/
namespace Go.Proofs.YtekieoamelahkaaGreat
open Go.RowKit Go.Shelf
attribute [local go_sem] Oper.semAt_some

theorem curtains_none {w : World} {b : Nat} {H : Hal} {S : Stg} (hR : Room w b H S) (hno : ∀ k, k < H.wals.length → (walAt H.wals k).cur = ⟨#[]⟩) :
 Calls Tryz.prog 144 #[.pointer (some ⟨b, 0, none⟩)] w (RetX w (.slice none 0 0)) := by
 obtain ⟨v4, v5, v6, v7, v8, u9, u10, hR⟩ := hR
 obtain ⟨A6, c6, rfl, hS6⟩ := slc_form hR.hal.wals
 have l6 := hS6.1
 have h6 := hR.c6
 have hb := hR.has
 clear hR
 refine (callsIn_wide (n := 10)).1 ?_
 refine callsIn_of_wp Tryz.func144 rfl trivial ?_ rfl
 simp only [Tryz.ntmps144, nt, Nat.reduceAdd, Nat.reduceSub]
 gi_wp2
 gi_loopw [3, 12] (fun l i wr => l = .slice none 0 0 ∧ ∃ k : Nat, i = .int .i64 k ∧ k ≤ H.wals.length ∧ Below w.heap.size w wr) (fun _ i _ => H.wals.length - (intOf i).toNat)
 case atStart => exact ⟨rfl, 0, rfl, Nat.zero_le _, Below.refl _ _⟩
 case round =>
  obtain ⟨rfl, k, rfl, hk, hB⟩ := hrel
  have hgs := hB.size
  rcases Nat.lt_or_ge k H.wals.length with hlt | hge
  · obtain ⟨g, o, rfl, hg, hcs⟩ := wal_at (hS6.below hB) hlt
    obtain ⟨k0, k1, k2⟩ := hcs k hlt
    rw [hno k hlt] at k2
    clear hcs hS6 h6 hno
    generalize (walAt H.wals k).name = n0 at *
    generalize (walAt H.wals k).mat = n1 at *
    generalize H.wals.length = N at *
    gi_wp2
    exact ⟨⟨rfl, k + 1, by simp, by omega, hB.trans ((show Below wr.heap.size wr _ by (repeat' first | with_reducible (first | apply bz0 | assumption | apply bz1 | apply bz2 | apply bz3 | apply bz4 | apply bz5) | (simp <;> omega))).lower hB.size)⟩, by simp [intOf]; omega⟩
  · obtain rfl : k = H.wals.length := by omega
    gi_wp2
    refine bodyPost_ret (v := .slice none 0 0) (by simp [results, Tryz.results144, go_sem]) rfl (retX rfl (hB.trans (by (repeat' first | with_reducible (first | apply bz0 | assumption | apply bz1 | apply bz2 | apply bz3 | apply bz4 | apply bz5) | (simp <;> omega)))))
end Go.Proofs.YtekieoamelahkaaGreat

/- curtains. -/
namespace Go.Proofs.YtekieoamelahkaaGreat
open Go.RowKit Go.Shelf

theorem u_ints : Tryz.prog.underlying 51 = some (.slice 3) := by kernel_rfl
theorem info_int : (Tryz.prog.info? 3).map (fun i => (i.zero, i.size, i.bytes)) = some (some (.int .i64 0), 1, 8) := by kernel_rfl
def curL (H : Hal) (k : Nat) : List Int := ((List.range k).filter (fun j => decide ((walAt H.wals j).cur.size ≠ 0))).map Int.ofNat
theorem curL_hit {H : Hal} {k : Nat} (h : (walAt H.wals k).cur.size ≠ 0) : curL H (k + 1) = curL H k ++ [(k : Int)] := by
 unfold curL
 rw [List.range_succ, List.filter_append, List.map_append, List.filter_cons_of_pos (p := fun j => decide ((walAt H.wals j).cur.size ≠ 0)) (a := k) (decide_eq_true h), List.filter_nil]
 rfl
theorem curL_miss {H : Hal} {k : Nat} (h : (walAt H.wals k).cur.size = 0) : curL H (k + 1) = curL H k := by
 unfold curL
 rw [List.range_succ, List.filter_append, List.map_append, List.filter_cons_of_neg (by rw [decide_eq_true_eq]; omega), List.filter_nil, List.map_nil, List.append_nil]
theorem curL_le (H : Hal) (k : Nat) : (curL H k).length ≤ k := by
 unfold curL
 simpa using List.length_filter_le (fun j => decide ((walAt H.wals j).cur.size ≠ 0)) (List.range k)
theorem curL_keep {B : Nat} {H : Hal} {k : Nat} {w wr w1 : World} {u v' : Value} {o o' : Obj} (hk : (walAt H.wals k).cur.size ≠ 0)
 (hown : wr.ownsRow B 3 1 u (curL H k).length ((curL H k).map (Value.int .i64))) (hB : Below B w wr)
 (hown' : w1.ownsRow B 3 1 v' ((curL H k).length + 1) ((curL H k).map (Value.int .i64) ++ [.int .i64 k])) (hgrow : ((wr.alloc o).alloc o').grownBy w1 u.ownBlock) (hs : B ≤ wr.heap.size) :
 w1.ownsRow B 3 1 v' (curL H (k + 1)).length ((curL H (k + 1)).map (Value.int .i64)) ∧ Below B w w1 := by
 refine ⟨by rw [curL_hit hk]; simpa using hown', (((hB.alloc (by omega) o).alloc (by simp; omega) o').grown hgrow (by simp; omega) (fun j hj => by have := (hown.lt j hj).1; omega))⟩

theorem curtains_any {w : World} {b : Nat} {H : Hal} {S : Stg} (hR : Room w b H S) :
 Calls Tryz.prog 144 #[.pointer (some ⟨b, 0, none⟩)] w (fun e w' => Below w.heap.size w w' ∧ ∃ v, e = .returned v ∧ w'.ownsRow w.heap.size 3 1 v (curL H H.wals.length).length ((curL H H.wals.length).map (Value.int .i64)) ∧ (curL H H.wals.length = [] → v = .slice none 0 0)) := by
 obtain ⟨v4, v5, v6, v7, v8, u9, u10, hR⟩ := hR
 obtain ⟨A6, c6, rfl, hS6⟩ := slc_form hR.hal.wals
 have l6 := hS6.1
 have h6 := hR.c6
 have hb := hR.has
 clear hR
 obtain ⟨i0, hi, hz0, hz1, hz2⟩ := info_parts info_int
 go_enter Tryz.func144, Tryz.ntmps144
 go_wp2
 go_loopw [3, 12] (fun v i wr => ∃ k : Nat, k ≤ H.wals.length ∧ i = .int .i64 k ∧ wr.ownsRow w.heap.size 3 1 v (curL H k).length ((curL H k).map (Value.int .i64)) ∧ Below w.heap.size w wr ∧ (curL H k = [] → v = .slice none 0 0)) (fun _ i _ => H.wals.length - (intOf i).toNat)
 case atStart => exact ⟨0, Nat.zero_le _, rfl, World.ownsRow_nil _ _ _ _, Below.refl _ _, fun _ => rfl⟩
 case round =>
  obtain ⟨k, hk, rfl, hown, hB, hnil⟩ := hrel
  have hgs := hB.size
  have hkl := curL_le H k
  rcases Nat.lt_or_ge k H.wals.length with hlt | hge
  · obtain ⟨g, o, rfl, hg, hcs⟩ := wal_at (hS6.below hB) hlt
    obtain ⟨k0, k1, k2⟩ := hcs k hlt
    have hem := empty_iff (walAt H.wals k).cur
    clear hcs hS6 h6
    cases q : decide ((walAt H.wals k).cur.size = 0) with
    | true =>
     rw [q] at hem
     have hm := curL_miss (H := H) (k := k) (by simpa using q)
     rw [← hm] at hown hnil
     clear hm
     generalize hL : curL H (k + 1) = L at *
     go_wp2
     exact ⟨⟨k + 1, by omega, by simp, by rw [hL]; exact hown.alloc _, by (repeat' first | with_reducible (first | apply bz0 | assumption | apply bz1 | apply bz2 | apply bz3 | apply bz4 | apply bz5) | (simp <;> omega)), by rw [hL]; exact hnil⟩, by simp [intOf]; omega⟩
    | false =>
     rw [q] at hem
     go_wp2_with (first
      | (at_builtin; refine wpList_append_own _ rfl _ _ 51 rfl w.heap.size 3 i0 (.int .i64 0) 1 8 u_ints hi hz0 hz1 hz2 rfl (by decide) _ _ _ rfl ((hown.alloc _).alloc _) ⟨wr.heap.size + 1, 0, none⟩ 1 1 [.int .i64 k] rfl rfl ?c1 ?c2 ?c3 ?c4 ?c5 ?_))
     case c1 =>
      intro j u hj
      match j, hj with
      | 0, hj => simp at hj; subst hj; simp [go_sem, Addr.add]
     case c2 => intro u hu; simp at hu; subst hu; rfl
     case c3 => unfold maxLen; omega
     case c4 => omega
     case c5 => simp; omega
     intro v' w1 hown' hgrow _
     have R := curL_keep (by simpa using q) hown hB hown' hgrow hgs
     clear hown' hgrow hown hB
     generalize hL : curL H (k + 1) = L at *
     have hne : L ≠ [] := by rw [← hL, curL_hit (by simpa using q)]; simp
     go_wp2
     exact ⟨⟨k + 1, by omega, by simp, by rw [hL]; exact R.1, R.2, fun h => absurd (hL.symm.trans h) hne⟩, by simp [intOf]; omega⟩
  · obtain rfl : k = H.wals.length := by omega
    go_wp2
    go_ret
    exact ⟨hB, _, rfl, hown, hnil⟩
end Go.Proofs.YtekieoamelahkaaGreat

/- countSettings. -/
namespace Go.Proofs.YtekieoamelahkaaGreat
open Go.RowKit Go.Shelf
attribute [local go_sem] Oper.semAt_some

theorem own_form {w : World} {base : Nat} {e : TypeId} {size : Nat} {v : Value} {n : Nat} {xs : List Value} (h : w.ownsRow base e size v n xs) : ∃ A c, v = .slice A n c := by
 obtain ⟨_, ⟨rfl, rfl⟩ | ⟨g, cap, cur, rfl, _⟩⟩ := h
 · exact ⟨none, 0, rfl⟩
 · exact ⟨_, _, rfl⟩
theorem own_slc {w : World} {base : Nat} {e : TypeId} {v : Value} {xs : List Int} (h : w.ownsRow base e 1 v xs.length (xs.map (Value.int .i64))) (hl : xs.length ≤ 1000000) : SlcAt encInt w v xs := by
 refine ⟨hl, ?_⟩
 by_cases h0 : xs.length = 0
 · obtain ⟨A, c, rfl⟩ := own_form h
   exact ⟨A, c, rfl, fun hp => by omega⟩
 · obtain ⟨g, cap, cur, rfl, hb, hg, _⟩ : ∃ g cap cur, v = .slice (some ⟨g, 0, none⟩) xs.length cap ∧ base ≤ g ∧ w.heap[g]? = some (.cells cur e (0, 0)) ∧ True := by
    obtain ⟨_, ⟨rfl, h1⟩ | ⟨g, cap, cur, rfl, hb, hg, _⟩⟩ := h
    · exact absurd h1 h0
    · exact ⟨g, cap, cur, rfl, hb, hg, trivial⟩
   refine ⟨_, cap, rfl, fun _ => ⟨g, 0, rfl, ?_, ?_⟩⟩
   · rcases Nat.lt_or_ge g w.heap.size with h' | h'
     · exact h'
     · rw [Array.getElem?_eq_none h'] at hg; cases hg
   · intro i x hx j hj
     obtain rfl : j = 0 := by have : j < 1 := hj; omega
     have hi : i < xs.length := by
      rcases Nat.lt_or_ge i xs.length with h' | h'
      · exact h'
      · rw [List.getElem?_eq_none h'] at hx; cases hx
     refine ⟨.int .i64 x, ?_, rfl⟩
     have := h.cellAt i (by omega)
     show w.cell? ⟨g, 0 + i * 1 + 0, none⟩ = _
     rw [show 0 + i * 1 + 0 = i by omega, this, List.getElem?_map, hx]
     rfl
theorem wrap_pow (m : Nat) (h : m ≤ 12) : wrap64 ((2 : Int) ^ m) = ((2 ^ m : Nat) : Int) := by
 have : m = 0 ∨ m = 1 ∨ m = 2 ∨ m = 3 ∨ m = 4 ∨ m = 5 ∨ m = 6 ∨ m = 7 ∨ m = 8 ∨ m = 9 ∨ m = 10 ∨ m = 11 ∨ m = 12 := by omega
 rcases this with rfl | rfl | rfl | rfl | rfl | rfl | rfl | rfl | rfl | rfl | rfl | rfl | rfl <;> first | rfl | (simp [wrap64]) | (exact (IntWalk.i64_in _ (by simp)).trans (by simp))
def cntTo (H : Hal) : Nat → Int | 0 => ((2 ^ (curL H H.wals.length).length : Nat) : Int) | k + 1 => cntTo H k * (canAt H.cans k).hs.length
def cntE (H : Hal) : Int × Int := if 1000 < cntTo H H.cans.length then (0, 8) else (cntTo H H.cans.length, 0)

theorem countSettings_any {w : World} {b : Nat} {H : Hal} {S : Stg} (hR : Room w b H S) (hm : (curL H H.wals.length).length ≤ 12) (hc : ∀ k, k ≤ H.cans.length → 0 ≤ cntTo H k ∧ cntTo H k ≤ 1000000000) :
 Calls Tryz.prog 88 #[.pointer (some ⟨b, 0, none⟩)] w (RetX w (.tuple #[.int .i64 (cntE H).1, .int .i64 (cntE H).2])) := by
 have HC := hidden (fun (W : World) (hW : Below w.heap.size w W) => curtains_any (hR.below hW))
 obtain ⟨v4, v5, v6, v7, v8, u9, u10, hR⟩ := hR
 obtain ⟨A7, c7, rfl, hS7⟩ := slc_form hR.hal.cans
 have l7 := hS7.1
 have h7 := hR.c7
 have hb := hR.has
 clear hR
 refine (callsIn_wide (n := 10)).1 ?_
 refine callsIn_of_wp Tryz.func88 rfl trivial ?_ rfl
 simp only [Tryz.ntmps88, nt, Nat.reduceAdd, Nat.reduceSub]
 gi_wp2
 (refine ⟨trivial, ?_⟩; ((with_reducible refine (callsIn_wide.2 (HC.out _ ?hk)).mono ?_); (case hk => (repeat' first | with_reducible (first | apply bz0 | assumption | apply bz1 | apply bz2 | apply bz3 | apply bz4 | apply bz5) | (simp <;> omega))); rintro e X ⟨hBX, v, rfl, hown, hnil⟩))
 have BX : Below w.heap.size w X := hBX
 obtain ⟨Av, cv, rfl⟩ := own_form hown
 have h0 : Hid (cntTo H 0 = ((2 ^ (curL H H.wals.length).length : Nat) : Int)) := rfl
 clear hown hnil hBX HC
 generalize (curL H H.wals.length).length = m at *
 replace h7 := cell_below BX hb h7
 replace hb := has_of_cell h7
 gi_wp2
 gi_loopw [4, 17] (fun c i wr => ∃ k : Nat, c = .int .i64 (cntTo H k) ∧ i = .int .i64 k ∧ k ≤ H.cans.length ∧ Below w.heap.size w wr) (fun _ i _ => H.cans.length - (intOf i).toNat)
 case atStart => exact ⟨0, by rw [h0.out, wrap_pow m hm], rfl, Nat.zero_le _, BX⟩
 case round =>
  obtain ⟨k, rfl, rfl, hk, hB⟩ := hrel
  have hgs := hB.size
  rcases Nat.lt_or_ge k H.cans.length with hlt | hge
  · obtain ⟨g, o, rfl, hg, hcs⟩ := can_at (hS7.below hB) hlt
    obtain ⟨k0, k1, k2, k3, k4, k5, A', c', k6, hk6⟩ := hcs k hlt
    have hw := hc (k + 1) (by omega)
    have hw0 := hc k (by omega)
    have hs1 : Hid (cntTo H (k + 1) = cntTo H k * (canAt H.cans k).hs.length) := rfl
    rw [hs1.out] at hw
    have e1 : IntKind.i64.wrap (cntTo H k * ((canAt H.cans k).hs.length : Int)) = cntTo H k * (canAt H.cans k).hs.length := IntWalk.i64_in _ (by omega)
    clear hcs hk6 hc
    generalize hcn1 : cntTo H (k + 1) = v1 at *
    generalize hcn : cntTo H k = v0 at *
    generalize canAt H.cans k = C at *
    obtain ⟨Cn, Cm, Cf, Ct, Ch⟩ := C
    simp only at *
    generalize H.cans.length = N at *
    gi_wp2
    exact ⟨⟨k + 1, by rw [hcn1, hs1.out], by simp, by omega, hB.trans ((show Below wr.heap.size wr _ by (repeat' first | with_reducible (first | apply bz0 | assumption | apply bz1 | apply bz2 | apply bz3 | apply bz4 | apply bz5) | (simp <;> omega))).lower hB.size)⟩, by simp [intOf]; omega⟩
  · obtain rfl : k = H.cans.length := by omega
    have hE : Hid (cntE H = if 1000 < cntTo H H.cans.length then (0, 8) else (cntTo H H.cans.length, 0)) := rfl
    cases q : decide (1000 < cntTo H H.cans.length) with
    | true =>
     have hq : cntE H = (0, 8) := by rw [hE.out, if_pos (by simpa using q)]
     generalize cntTo H H.cans.length = v at *
     gi_wp2
     refine bodyPost_ret (v := .tuple #[.int .i64 0, .int .i64 8]) (by simp [results, Tryz.results88, go_sem]) rfl (retX (by rw [hq]) (hB.trans (by (repeat' first | with_reducible (first | apply bz0 | assumption | apply bz1 | apply bz2 | apply bz3 | apply bz4 | apply bz5) | (simp <;> omega)))))
    | false =>
     have hq : cntE H = (cntTo H H.cans.length, 0) := by rw [hE.out, if_neg (by simpa using q)]
     generalize cntTo H H.cans.length = v at *
     gi_wp2
     refine bodyPost_ret (v := .tuple #[.int .i64 v, .int .i64 0]) (by simp [results, Tryz.results88, go_sem]) rfl (retX (by rw [hq]) (hB.trans (by (repeat' first | with_reducible (first | apply bz0 | assumption | apply bz1 | apply bz2 | apply bz3 | apply bz4 | apply bz5) | (simp <;> omega)))))
end Go.Proofs.YtekieoamelahkaaGreat
