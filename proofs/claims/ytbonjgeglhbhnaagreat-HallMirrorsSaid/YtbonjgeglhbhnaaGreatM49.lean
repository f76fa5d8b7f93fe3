/- settingAt, of the hall of the examples. -/
import Derived.Test.YtbonjgeglhbhnaaGreatM47
import Derived.Deep.RegionLawGrows
import Derived.LoopN
set_option linter.unusedVariables false
set_option linter.unusedSimpArgs false
namespace Go.Proofs.YtbonjgeglhbhnaaGreat
open Go.RowKit Go.Shelf
attribute [local go_sem] Oper.semAt_some

theorem own_cell {w : World} {base : Nat} {e : TypeId} {v x : Value} (h : w.ownsRow base e 1 v 1 [x]) : ∃ g cap, v = .slice (some ⟨g, 0, none⟩) 1 cap ∧ base ≤ g ∧ w.cell? ⟨g, 0, none⟩ = some x := by
  have hc := fun (g cap : Nat) (hv : v = .slice (some ⟨g, 0, none⟩) 1 cap) => (hv ▸ h : w.ownsRow base e 1 (.slice (some ⟨g, 0, none⟩) 1 cap) 1 [x]).cellAt 0 (by decide)
  obtain ⟨_, ⟨rfl, h1⟩ | ⟨g, cap, cur, rfl, hb, hg, _⟩⟩ := h
  · exact absurd h1 (by decide)
  · exact ⟨g, cap, rfl, hb, hc g cap rfl⟩
theorem slc_one {W : World} {B c : Nat} {x : Int} (h0 : W.cell? ⟨B, 0, none⟩ = some (.int .i64 x)) : SlcAt encInt W (.slice (some ⟨B, 0, none⟩) 1 c) [x] := by
  refine ⟨by simp, _, _, rfl, fun _ => ⟨B, 0, rfl, has_of_cell h0, fun i v hi j hj => ?_⟩⟩
  have hj0 : j = 0 := by have : j < 1 := hj; omega
  subst hj0
  rcases i with _ | i
  · simp at hi; subst hi; exact ⟨_, h0, rfl⟩
  · simp at hi
theorem cell_grown {w w' : World} {p : Addr} {v : Value} (hg : w.grownBy w' none) (h : w.cell? p = some v) (hp : p.block < w.heap.size) : w'.cell? p = some v :=
  (World.cell?_of_block (w := w) (hg.block p.block hp (by simp))).trans h

theorem box_cans_len : boxH.cans.length = 1 := rfl
theorem box_hs0 : (canAt boxH.cans 0).hs.length = 2 := rfl

set_option maxRecDepth 100000 in set_option maxHeartbeats 1000000 in
theorem box_settingAt {w : World} {b : Nat} {S : Stg} (hR : Room w b boxH S) :
    Calls Tryz.prog 65 #[.pointer (some ⟨b, 0, none⟩), .int .i64 1, .int .i64 4] w (fun e w' => Below w.heap.size w w' ∧ ∃ g1 c1 g3 c3, e = .returned (.agg #[.slice (some ⟨g1, 0, none⟩) 1 c1, .slice (some ⟨g3, 0, none⟩) 1 c3]) ∧ w.heap.size ≤ g1 ∧ w.heap.size ≤ g3 ∧ w'.cell? ⟨g1, 0, none⟩ = some (.int .i64 0) ∧ w'.cell? ⟨g3, 0, none⟩ = some (.int .i64 1)) := by
  have HC := hidden (fun (W : World) (hW : Below w.heap.size w W) => curtains_any (hR.below hW))
  rw [box_curt] at HC
  obtain ⟨v4, v5, v6, v7, v8, u9, u10, hR⟩ := hR
  obtain ⟨A7, c7, rfl, hS7⟩ := slc_form hR.hal.cans
  have l7 := hS7.1
  have h7 := hR.c7
  have hb := hR.has
  obtain ⟨g, o, rfl, hg, hcs⟩ := can_at hS7 (show 0 < boxH.cans.length by decide)
  obtain ⟨k0, k1, k2, k3, k4, k5, A', c', k6, hk6⟩ := hcs 0 (by decide)
  rw [box_hs0] at k6
  simp only [Nat.zero_mul, Nat.add_zero] at k0 k1 k2 k3 k4 k5 k6
  clear hcs hk6 hR hS7
  generalize canAt boxH.cans 0 = C at *
  obtain ⟨Cn, Cm, Cf, Ct, Ch⟩ := C
  simp only at *
  rw [box_cans_len] at *
  have nb : b ≠ w.heap.size := Nat.ne_of_lt hb
  have nb1 : b ≠ w.heap.size + 1 := by have := hb; unfold World.Has at this; omega
  obtain ⟨i0, hi, hz0, hz1, hz2⟩ := info_parts info_int
  go_enter Tryz.func65, Tryz.ntmps65
  go_wp2
  refine wp_loop_rounds 2 ?_
  rw [rounds_succ]
  go_wp2
  generalize hX : World.alloc _ _ = X
  have x0 : X.cell? ⟨w.heap.size + 1, 0, none⟩ = some (.slice none 0 0) := by rw [← hX]; simp [go_sem]
  have x1 : X.cell? ⟨w.heap.size + 1, 1, none⟩ = some (.slice none 0 0) := by rw [← hX]; simp [go_sem]
  have xr : X.cell? ⟨w.heap.size, 0, none⟩ = some (.slice none 0 0) := by rw [← hX]; simp [go_sem]
  have xs : X.cell? ⟨w.heap.size, 1, none⟩ = some (.slice none 0 0) := by rw [← hX]; simp [go_sem]
  have xf : ∀ i, X.frozen? ⟨w.heap.size + 1, i, none⟩ = false := by intro i; rw [← hX]; simp [go_sem]
  have xg : ∀ i, X.frozen? ⟨w.heap.size, i, none⟩ = false := by intro i; rw [← hX]; simp [go_sem]
  have BX : Below w.heap.size w X := by rw [← hX]; (repeat' (first | (with_reducible exact Below.refl _ _) | (with_reducible assumption) | (with_reducible refine Below.drew ?_) | (with_reducible refine Below.drewNStep ?_ _) | (with_reducible refine Below.alloc ?_ ?_ _) | (with_reducible refine Below.setCell ?_ ?_ _) | (with_reducible refine Below.extStep ?_ ?_ _) | (simp; done) | (simp; omega)))
  have xh := has_of_cell x0
  have xl : w.heap.size + 1 < X.heap.size := xh
  go_region_law (refine step_append_grows rfl (.tmp 28) (.tmp 32) 45 rfl 3 i0 (.int .i64 0) 1 8 u_ints hi hz0 hz1 hz2 rfl (by decide) none 0 0 [] (by simp [Act.eval, Act.put]) (fun _ => ⟨rfl, rfl⟩) rfl (fun b h => by cases h) _ 1 1 [.int .i64 0] (by simp [Act.eval, Act.put]; rfl) rfl (by intro j u hj; match j, hj with | 0, hj => (simp at hj; subst hj; simp [go_sem, Addr.add] <;> rfl)) (by intro u hu; simp at hu; subst hu; rfl) (by decide) (by decide) (by decide) ?_; intro v' w1 hown hgrow; obtain ⟨g1, cap1, rfl, hg1, hc1⟩ := own_cell hown; have s0 := cell_grown (p := ⟨w.heap.size + 1, 0, none⟩) (v := .slice none 0 0) hgrow (by simp [go_sem, x0, xh]) (by simp; omega); have sf : w1.frozen? ⟨w.heap.size + 1, 0, none⟩ = false := (World.frozen?_of_block (hgrow.block (w.heap.size + 1) (by simp; omega) (by simp))).trans (by simp [go_sem, xf, xh]))
  all_goals
    have p1 := cell_grown (p := ⟨w.heap.size + 1, 1, none⟩) (v := .slice none 0 0) hgrow (by simp [go_sem, x1, xh]) (by simp; omega)
    have xh' : X.Has w.heap.size := has_of_cell xr
    have pr := cell_grown (p := ⟨w.heap.size, 0, none⟩) (v := .slice none 0 0) hgrow (by simp [go_sem, xr, xh']) (by simp; omega)
    have ps := cell_grown (p := ⟨w.heap.size, 1, none⟩) (v := .slice none 0 0) hgrow (by simp [go_sem, xs, xh']) (by simp; omega)
    have pf : ∀ i, w1.frozen? ⟨w.heap.size + 1, i, none⟩ = false := fun i => (World.frozen?_of_block (hgrow.block (w.heap.size + 1) (by simp; omega) (by simp))).trans (by simp [go_sem, xf, xh])
    have pg : ∀ i, w1.frozen? ⟨w.heap.size, i, none⟩ = false := fun i => (World.frozen?_of_block (hgrow.block w.heap.size (by simp; omega) (by simp))).trans (by simp [go_sem, xg, xh'])
    have hxs : (X.alloc (Obj.cells #[Value.int IntKind.i64 (IntKind.i64.wrap 0)] 3)).drew.heap.size = X.heap.size + 1 := by simp
    rw [hxs] at hg1
    have xle : w.heap.size ≤ X.heap.size := by omega
    have BX1 : Below w.heap.size w w1 := Below.grown (BX.trans (show Below w.heap.size X _ by (repeat' (first | (with_reducible exact Below.refl _ _) | (with_reducible assumption) | (with_reducible refine Below.drew ?_) | (with_reducible refine Below.drewNStep ?_ _) | (with_reducible refine Below.alloc ?_ ?_ _) | (with_reducible refine Below.setCell ?_ ?_ _) | (with_reducible refine Below.extStep ?_ ?_ _) | (simp; done) | (simp; omega))))) hgrow (by simp; omega) (by simp)
    have gn1 : g1 ≠ w.heap.size + 1 := by omega
    have gn0 : g1 ≠ w.heap.size := by omega
    have gl1 : w.heap.size ≤ g1 := by omega
    clear hgrow hown hxs hX x0 x1 xr xs xf xg
    have ph := has_of_cell s0
    have pc := has_of_cell hc1
    generalize hY : World.setCell w1 _ _ = Y
    have y0 : Y.cell? ⟨w.heap.size + 1, 0, none⟩ = some (.slice (some ⟨g1, 0, none⟩) 1 cap1) := by rw [← hY]; simp [go_sem, s0, sf]
    have y1 : Y.cell? ⟨w.heap.size + 1, 1, none⟩ = some (.slice none 0 0) := by rw [← hY]; simp [go_sem, p1]
    have yr : Y.cell? ⟨w.heap.size, 0, none⟩ = some (.slice none 0 0) := by rw [← hY]; simp [go_sem, pr]
    have ys : Y.cell? ⟨w.heap.size, 1, none⟩ = some (.slice none 0 0) := by rw [← hY]; simp [go_sem, ps]
    have yc : Y.cell? ⟨g1, 0, none⟩ = some (.int .i64 0) := by rw [← hY]; simp [go_sem, hc1, gn1]
    have yf : ∀ i, Y.frozen? ⟨w.heap.size + 1, i, none⟩ = false := by intro i; rw [← hY]; simp [go_sem, pf]
    have yg : ∀ i, Y.frozen? ⟨w.heap.size, i, none⟩ = false := by intro i; rw [← hY]; simp [go_sem, pg]
    have BY : Below w.heap.size w Y := by rw [← hY]; exact BX1.setCell (by simp) _
    clear hY BX BX1 s0 p1 pr ps hc1 pf pg
    go_wp2
    rw [rounds_succ]
    go_wp2_with (go_at_call 100; refine (HC.out _ BY).mono ?_; rintro e Z ⟨hBZ, v, rfl, hown, _⟩; obtain ⟨g2, cap2, rfl, hg2, zc2⟩ := own_cell hown)
    have BZ : Below w.heap.size w Z := BY.trans (hBZ.lower BY.size)
    have z0 := cell_below hBZ (has_of_cell y0) y0
    have z1 := cell_below hBZ (has_of_cell y1) y1
    have zr := cell_below hBZ (has_of_cell yr) yr
    have zs := cell_below hBZ (has_of_cell ys) ys
    have zc := cell_below hBZ (has_of_cell yc) yc
    have zf : ∀ i, Z.frozen? ⟨w.heap.size + 1, i, none⟩ = false := fun i => (World.frozen?_of_block (w := Y) (hBZ.block (w.heap.size + 1) (has_of_cell y0))).trans (yf i)
    have zg : ∀ i, Z.frozen? ⟨w.heap.size, i, none⟩ = false := fun i => (World.frozen?_of_block (w := Y) (hBZ.block w.heap.size (has_of_cell yr))).trans (yg i)
    clear hown hBZ hg2 y0 y1 yr ys yc yf yg BY HC
    have zh := has_of_cell z0
    have zh2 := has_of_cell zc2
    refine wp_loop_rounds 2 ?_
    rw [rounds_succ]
    go_wp2_with (first | (at_builtin; refine wpList_append_own _ rfl _ _ 45 rfl Z.heap.size 3 i0 (.int .i64 0) 1 8 u_ints hi hz0 hz1 hz2 rfl (by decide) _ _ _ rfl (World.ownsRow_nil _ _ _ _) ⟨Z.heap.size, 0, none⟩ 1 1 [.int .i64 1] rfl rfl ?c1 ?c2 ?c3 ?c4 ?c5 ?_))
    case c1 =>
      intro j u hj
      match j, hj with
      | 0, hj => simp at hj; subst hj; simp [go_sem, Addr.add]
    case c2 => intro u hu; simp at hu; subst hu; rfl
    case c3 => decide
    case c4 => decide
    case c5 => simp
    intro v' w1 hown hgrow _
    obtain ⟨g3, cap3, rfl, hg3, hc3⟩ := own_cell hown
    replace hgrow : (Z.alloc (Obj.cells #[Value.int IntKind.i64 1] 3)).grownBy w1 none := hgrow
    have zl : w.heap.size + 1 < Z.heap.size := zh
    have zg1 : g1 < Z.heap.size := has_of_cell zc
    have zh1 := has_of_cell zc
    have zh0 := has_of_cell zr
    have q0 := cell_grown (p := ⟨w.heap.size + 1, 0, none⟩) (v := .slice (some ⟨g1, 0, none⟩) 1 cap1) hgrow (by simp [go_sem, z0, zh]) (by simp; omega)
    have q1 := cell_grown (p := ⟨w.heap.size + 1, 1, none⟩) (v := .slice none 0 0) hgrow (by simp [go_sem, z1, zh]) (by simp; omega)
    have qr := cell_grown (p := ⟨w.heap.size, 0, none⟩) (v := .slice none 0 0) hgrow (by simp [go_sem, zr, zh0]) (by simp; omega)
    have qs := cell_grown (p := ⟨w.heap.size, 1, none⟩) (v := .slice none 0 0) hgrow (by simp [go_sem, zs, zh0]) (by simp; omega)
    have qc := cell_grown (p := ⟨g1, 0, none⟩) (v := .int .i64 0) hgrow (by simp [go_sem, zc, zh1]) (by simp; omega)
    have qf : ∀ i, w1.frozen? ⟨w.heap.size + 1, i, none⟩ = false := fun i => (World.frozen?_of_block (hgrow.block (w.heap.size + 1) (by simp; omega) (by simp))).trans (by simp [go_sem, zf, zh])
    have qg : ∀ i, w1.frozen? ⟨w.heap.size, i, none⟩ = false := fun i => (World.frozen?_of_block (hgrow.block w.heap.size (by simp; omega) (by simp))).trans (by simp [go_sem, zg, zh0])
    have zle : w.heap.size ≤ Z.heap.size := by omega
    have BW : Below w.heap.size w w1 := Below.grown (BZ.trans (show Below w.heap.size Z _ by (repeat' (first | (with_reducible exact Below.refl _ _) | (with_reducible assumption) | (with_reducible refine Below.drew ?_) | (with_reducible refine Below.drewNStep ?_ _) | (with_reducible refine Below.alloc ?_ ?_ _) | (with_reducible refine Below.setCell ?_ ?_ _) | (with_reducible refine Below.extStep ?_ ?_ _) | (simp; done) | (simp; omega))))) hgrow (by simp; omega) (by simp)
    have n31 : g3 ≠ w.heap.size + 1 := by omega
    have n30 : g3 ≠ w.heap.size := by omega
    have gl3 : w.heap.size ≤ g3 := by omega
    clear hown hgrow hg3 zc2 z0 z1 zr zs zc zf zg BZ zh zh2
    go_wp2
    rw [rounds_succ]
    go_wp2
    generalize hU : w1.setCell ⟨w.heap.size + 1, 1, none⟩ _ = U
    have u0 : U.cell? ⟨w.heap.size, 0, none⟩ = some (.slice none 0 0) := by rw [← hU]; simp [go_sem, qr]
    have u1 : U.cell? ⟨w.heap.size, 1, none⟩ = some (.slice none 0 0) := by rw [← hU]; simp [go_sem, qs]
    have uc : U.cell? ⟨g1, 0, none⟩ = some (.int .i64 0) := by rw [← hU]; simp [go_sem, gn1, qc]
    have ud : U.cell? ⟨g3, 0, none⟩ = some (.int .i64 1) := by rw [← hU]; simp [go_sem, n31, hc3]
    have BU : Below w.heap.size w U := by rw [← hU]; exact BW.setCell (by simp) _
    clear hU
    generalize hT : U.setCell ⟨w.heap.size, 0, none⟩ _ = T
    have t0 : T.cell? ⟨w.heap.size, 0, none⟩ = some (.slice (some ⟨g1, 0, none⟩) 1 cap1) := by rw [← hT]; simp [go_sem, u0]
    have t1 : T.cell? ⟨w.heap.size, 1, none⟩ = some (.slice none 0 0) := by rw [← hT]; simp [go_sem, u1]
    have tc : T.cell? ⟨g1, 0, none⟩ = some (.int .i64 0) := by rw [← hT]; simp [go_sem, gn0, uc]
    have td : T.cell? ⟨g3, 0, none⟩ = some (.int .i64 1) := by rw [← hT]; simp [go_sem, n30, ud]
    have BT : Below w.heap.size w T := by rw [← hT]; exact BU.setCell (by simp) _
    clear hT
    generalize hF : T.setCell ⟨w.heap.size, 1, none⟩ _ = F
    have f0 : F.cell? ⟨w.heap.size, 0, none⟩ = some (.slice (some ⟨g1, 0, none⟩) 1 cap1) := by rw [← hF]; simp [go_sem, t0]
    have f1 : F.cell? ⟨w.heap.size, 1, none⟩ = some (.slice (some ⟨g3, 0, none⟩) 1 cap3) := by rw [← hF]; simp [go_sem, t1]
    have fc : F.cell? ⟨g1, 0, none⟩ = some (.int .i64 0) := by rw [← hF]; simp [go_sem, gn0, tc]
    have fd : F.cell? ⟨g3, 0, none⟩ = some (.int .i64 1) := by rw [← hF]; simp [go_sem, n30, td]
    have BF : Below w.heap.size w F := by rw [← hF]; exact BT.setCell (by simp) _
    clear hF
    refine bodyPost_ret (v := .agg #[.slice (some ⟨g1, 0, none⟩) 1 cap1, .slice (some ⟨g3, 0, none⟩) 1 cap3]) (by simp [results, Tryz.results65, go_sem, f0, f1]) rfl ⟨BF, _, _, _, _, rfl, gl1, gl3, fc, fd⟩
end Go.Proofs.YtbonjgeglhbhnaaGreat

/- SettingAt, of the hall of the examples. -/
namespace Go.Proofs.YtbonjgeglhbhnaaGreat
open Go.RowKit Go.Shelf
attribute [local go_sem] Oper.semAt_some

set_option maxRecDepth 100000 in set_option maxHeartbeats 1000000 in
theorem box_SettingAt {w : World} {v4 v5 v6 v7 v8 : Value} (hV : HalVs w v4 v5 v6 v7 v8 boxH) :
    Calls Tryz.prog 23 #[halV boxH v4 v5 v6 v7 v8, .int .i64 1] w (fun e w' => Below w.heap.size w w' ∧ ∃ g1 c1 g3 c3, e = .returned (.tuple #[.agg #[.slice (some ⟨g1, 0, none⟩) 1 c1, .slice (some ⟨g3, 0, none⟩) 1 c3], .int .i64 0]) ∧ w.heap.size ≤ g1 ∧ w.heap.size ≤ g3 ∧ w'.cell? ⟨g1, 0, none⟩ = some (.int .i64 0) ∧ w'.cell? ⟨g3, 0, none⟩ = some (.int .i64 1)) := by
  have HC := hidden (fun (W : World) (hW : Below w.heap.size w W) => visit_good (hV.below hW) box_ok)
  have HN := hidden (fun (W : World) (b : Nat) (hR : Room W b boxH ⟨[], []⟩) => countSettings_any hR (by rw [box_curt]; decide) (by
    intro k hk
    have hk : k ≤ 1 := hk
    obtain rfl | rfl : k = 0 ∨ k = 1 := by omega
    all_goals decide +kernel))
  rw [box_count] at HN
  have HS := hidden (fun (W : World) (b : Nat) (hR : Room W b boxH ⟨[], []⟩) => box_settingAt hR)
  obtain ⟨_, g4, g5, g6, g7, g8⟩ := hV
  obtain ⟨A4, c4, rfl, _⟩ := slc_form g4
  obtain ⟨A5, c5, rfl, _⟩ := slc_form g5
  obtain ⟨A6, c6, rfl, _⟩ := slc_form g6
  obtain ⟨A7, c7, rfl, _⟩ := slc_form g7
  obtain ⟨A8, c8, rfl, _⟩ := slc_form g8
  clear g4 g5 g6 g7 g8
  unfold halV at *
  refine (callsIn_wide (n := 10)).1 ?_
  refine callsIn_of_wp Tryz.func23 rfl trivial ?_ rfl
  simp only [Tryz.ntmps23, List.size_toArray, List.length_cons, List.length_nil, Nat.reduceAdd, Nat.reduceSub, Array.replicate_succ, Array.replicate_zero, List.push_toArray, List.append_toArray, List.nil_append, List.cons_append]
  generalize boxH.mats.length = n4 at *
  generalize boxH.cors.length = n5 at *
  generalize boxH.wals.length = n6 at *
  generalize boxH.cans.length = n7 at *
  generalize boxH.seas.length = n8 at *
  gi_wp2
  (refine ⟨trivial, ?_⟩; ((with_reducible refine (callsIn_wide.2 (HC.out _ ?hk)).mono ?_); (case hk => (repeat' (first | (with_reducible exact Below.refl _ _) | (with_reducible assumption) | (with_reducible refine Below.drew ?_) | (with_reducible refine Below.drewNStep ?_ _) | (with_reducible refine Below.alloc ?_ ?_ _) | (with_reducible refine Below.setCell ?_ ?_ _) | (with_reducible refine Below.extStep ?_ ?_ _) | (simp; done) | (simp; omega)))); rintro e w1 ⟨hB1, b, hb1, rfl, ⟨u9, u10, hR0⟩, _⟩))
  have hR1 : Room w1 b boxH ⟨[], []⟩ := ⟨_, _, _, _, _, _, _, hR0⟩
  clear hR0
  generalize hY : World.alloc _ _ = Y at *
  have y0 : Y.cell? ⟨w.heap.size + 1, 0, none⟩ = some (.slice none 0 0) := by rw [← hY]; simp [go_sem]
  have y1 : Y.cell? ⟨w.heap.size + 1, 1, none⟩ = some (.slice none 0 0) := by rw [← hY]; simp [go_sem]
  have yf : ∀ i, Y.frozen? ⟨w.heap.size + 1, i, none⟩ = false := by intro i; rw [← hY]; simp [go_sem]
  have BY : Below w.heap.size w Y := by rw [← hY]; (repeat' (first | (with_reducible exact Below.refl _ _) | (with_reducible assumption) | (with_reducible refine Below.drew ?_) | (with_reducible refine Below.drewNStep ?_ _) | (with_reducible refine Below.alloc ?_ ?_ _) | (with_reducible refine Below.setCell ?_ ?_ _) | (with_reducible refine Below.extStep ?_ ?_ _) | (simp; done) | (simp; omega)))
  have gy := has_of_cell y0
  replace yf : ∀ i, w1.frozen? ⟨w.heap.size + 1, i, none⟩ = false := fun i => (World.frozen?_of_block (w := Y) (hB1.block (w.heap.size + 1) gy)).trans (yf i)
  replace y0 := cell_below hB1 gy y0
  replace y1 := cell_below hB1 gy y1
  replace gy := has_of_cell y0
  have BX : Below w.heap.size w w1 := BY.trans (hB1.lower BY.size)
  have hgs := BX.size
  have hlt : w.heap.size + 1 < w1.heap.size := gy
  clear hY HC
  gi_wp2
  (refine ⟨trivial, ?_⟩; ((with_reducible refine (callsIn_wide.2 (HN.out _ _ hR1)).mono ?_); rintro e w2 ⟨rfl, x2, rfl⟩))
  gi_wp2
  (refine ⟨trivial, ?_⟩; ((with_reducible refine (callsIn_wide.2 (HS.out _ _ (hR1.below ?hk))).mono ?_); (case hk => (repeat' (first | (with_reducible exact Below.refl _ _) | (with_reducible assumption) | (with_reducible refine Below.drew ?_) | (with_reducible refine Below.drewNStep ?_ _) | (with_reducible refine Below.alloc ?_ ?_ _) | (with_reducible refine Below.setCell ?_ ?_ _) | (with_reducible refine Below.extStep ?_ ?_ _) | (simp; done) | (simp; omega)))); rintro e w3 ⟨hB3, g1, k1, g3, k3, rfl, l1, l3, q1, q3⟩))
  have B3 : Below w1.heap.size w1 w3 := (show Below w1.heap.size w1 (w1.ext x2) by (repeat' (first | (with_reducible exact Below.refl _ _) | (with_reducible assumption) | (with_reducible refine Below.drew ?_) | (with_reducible refine Below.drewNStep ?_ _) | (with_reducible refine Below.alloc ?_ ?_ _) | (with_reducible refine Below.setCell ?_ ?_ _) | (with_reducible refine Below.extStep ?_ ?_ _) | (simp; done) | (simp; omega)))).trans (hB3.lower (by simp))
  have hle : w1.heap.size ≤ (w1.ext x2).heap.size := by simp
  replace yf : ∀ i, w3.frozen? ⟨w.heap.size + 1, i, none⟩ = false := fun i => (World.frozen?_of_block (w := w1) (B3.block (w.heap.size + 1) gy)).trans (yf i)
  replace y0 := cell_below B3 gy y0
  replace y1 := cell_below B3 gy y1
  have BZ : Below w.heap.size w w3 := BX.trans (B3.lower BX.size)
  have n1 : g1 ≠ w.heap.size + 1 := by omega
  have n3 : g3 ≠ w.heap.size + 1 := by omega
  have m1 : w.heap.size ≤ g1 := by omega
  have m3 : w.heap.size ≤ g3 := by omega
  clear HN HS hR1 hB1 hB3 B3
  gi_wp2
  generalize hT : w3.setCell ⟨w.heap.size + 1, 0, none⟩ _ = T
  have t0 : T.cell? ⟨w.heap.size + 1, 0, none⟩ = some (.slice (some ⟨g1, 0, none⟩) 1 k1) := by rw [← hT]; simp [go_sem, y0]
  have t1 : T.cell? ⟨w.heap.size + 1, 1, none⟩ = some (.slice none 0 0) := by rw [← hT]; simp [go_sem, y1]
  have tc : T.cell? ⟨g1, 0, none⟩ = some (.int .i64 0) := by rw [← hT]; simp [go_sem, n1, q1]
  have td : T.cell? ⟨g3, 0, none⟩ = some (.int .i64 1) := by rw [← hT]; simp [go_sem, n3, q3]
  have BT : Below w.heap.size w T := by rw [← hT]; exact BZ.setCell (by simp) _
  clear hT
  generalize hF : T.setCell ⟨w.heap.size + 1, 1, none⟩ _ = F
  have f0 : F.cell? ⟨w.heap.size + 1, 0, none⟩ = some (.slice (some ⟨g1, 0, none⟩) 1 k1) := by rw [← hF]; simp [go_sem, t0]
  have f1 : F.cell? ⟨w.heap.size + 1, 1, none⟩ = some (.slice (some ⟨g3, 0, none⟩) 1 k3) := by rw [← hF]; simp [go_sem, t1]
  have fc : F.cell? ⟨g1, 0, none⟩ = some (.int .i64 0) := by rw [← hF]; simp [go_sem, n1, tc]
  have fd : F.cell? ⟨g3, 0, none⟩ = some (.int .i64 1) := by rw [← hF]; simp [go_sem, n3, td]
  have BF : Below w.heap.size w F := by rw [← hF]; exact BT.setCell (by simp) _
  clear hF
  refine bodyPost_ret (v := .tuple #[.agg #[.slice (some ⟨g1, 0, none⟩) 1 k1, .slice (some ⟨g3, 0, none⟩) 1 k3], .int .i64 0]) (by simp [results, Tryz.results23, go_sem, f0, f1]) rfl ⟨BF, _, _, _, _, rfl, m1, m3, fc, fd⟩
end Go.Proofs.YtbonjgeglhbhnaaGreat
