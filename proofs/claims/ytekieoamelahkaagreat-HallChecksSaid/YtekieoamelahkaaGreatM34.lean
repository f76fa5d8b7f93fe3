/- settingAt, of the hall of the examples. -/
import Derived.Test.YtekieoamelahkaaGreatM33
import Derived.Deep.RegionLawGrows
import Derived.LoopN
import Derived.Test.YtekieoamelahkaaGreatM23
import Derived.Test.YtekieoamelahkaaGreatM26
import Derived.Test.YtekieoamelahkaaGreatM29
import Derived.Test.YtekieoamelahkaaGreatM15
set_option maxRecDepth 100000
set_option maxHeartbeats 1000000
set_option linter.unusedVariables false
set_option linter.unusedSimpArgs false
namespace Go.Proofs.YtekieoamelahkaaGreat
open Go.RowKit Go.Shelf
attribute [local go_sem] Oper.semAt_some

theorem own_cell {w : World} {base : Nat} {e : TypeId} {v x : Value} (h : w.ownsRow base e 1 v 1 [x]) : ∃ g cap, v = .slice (some ⟨g, 0, none⟩) 1 cap ∧ base ≤ g ∧ w.cell? ⟨g, 0, none⟩ = some x := by
 have hc := fun (g cap : Nat) (hv : v = .slice (some ⟨g, 0, none⟩) 1 cap) => (hv ▸ h : w.ownsRow base e 1 (.slice (some ⟨g, 0, none⟩) 1 cap) 1 [x]).cellAt 0 (by decide)
 obtain ⟨_, ⟨rfl, h1⟩ | ⟨g, cap, cur, rfl, hb, hg, _⟩⟩ := h
 · exact absurd h1 (by decide)
 · exact ⟨g, cap, rfl, hb, hc g cap rfl⟩
theorem slc_one {W : World} {B c : Nat} {x : Int} (h0 : W.cell? ⟨B, 0, none⟩ = some (.int .i64 x)) : SlcAt encInt W (.slice (some ⟨B, 0, none⟩) 1 c) [x] := by
 refine ⟨by simp, _, _, rfl, fun _ => ⟨B, 0, rfl, has_of_cell h0, fun i v hi j hj => ?_⟩⟩
 have hj0 : j = 0 := by have : j < 1 := hj; omega
 subst hj0
 rcases i with _ | i
 · simp at hi; subst hi; exact ⟨_, h0, rfl⟩
 · simp at hi
theorem cell_grown {w w' : World} {p : Addr} {v : Value} (hg : w.grownBy w' none) (h : w.cell? p = some v) (hp : p.block < w.heap.size) : w'.cell? p = some v :=
 (World.cell?_of_block (w := w) (hg.block p.block hp (by simp))).trans h

theorem box_cans_len : boxH.cans.length = 1 := rfl
theorem box_hs0 : (canAt boxH.cans 0).hs.length = 2 := rfl

theorem box_settingAt {w : World} {b : Nat} {S : Stg} (hR : Room w b boxH S) :
 Calls Tryz.prog 89 #[.pointer (some ⟨b, 0, none⟩), .int .i64 1, .int .i64 4] w (fun e w' => Below w.heap.size w w' ∧ ∃ g1 c1 g3 c3, e = .returned (.agg #[.slice (some ⟨g1, 0, none⟩) 1 c1, .slice (some ⟨g3, 0, none⟩) 1 c3]) ∧ w.heap.size ≤ g1 ∧ w.heap.size ≤ g3 ∧ w'.cell? ⟨g1, 0, none⟩ = some (.int .i64 0) ∧ w'.cell? ⟨g3, 0, none⟩ = some (.int .i64 1)) := by
 have HC := hidden (fun (W : World) (hW : Below w.heap.size w W) => curtains_any (hR.below hW))
 rw [box_curt] at HC
 obtain ⟨v4, v5, v6, v7, v8, u9, u10, hR⟩ := hR
 obtain ⟨A7, c7, rfl, hS7⟩ := slc_form hR.hal.cans
 have l7 := hS7.1
 have h7 := hR.c7
 have hb := hR.has
 obtain ⟨g, o, rfl, hg, hcs⟩ := can_at hS7 (show 0 < boxH.cans.length by decide)
 obtain ⟨k0, k1, k2, k3, k4, k5, A', c', k6, hk6⟩ := hcs 0 (by decide)
 rw [box_hs0] at k6
 simp only [Nat.zero_mul, Nat.add_zero] at k0 k1 k2 k3 k4 k5 k6
 clear hcs hk6 hR hS7
 generalize canAt boxH.cans 0 = C at *
 obtain ⟨Cn, Cm, Cf, Ct, Ch⟩ := C
 simp only at *
 rw [box_cans_len] at *
 have nb : b ≠ w.heap.size := Nat.ne_of_lt hb
 have nb1 : b ≠ w.heap.size + 1 := by have := hb; unfold World.Has at this; omega
 obtain ⟨i0, hi, hz0, hz1, hz2⟩ := info_parts info_int
 go_enter Tryz.func89, Tryz.ntmps89
 go_wp2
 refine wp_loop_rounds 2 ?_
 rw [rounds_succ]
 go_wp2
 generalize hX : World.alloc _ _ = X
 have x0 : X.cell? ⟨w.heap.size + 1, 0, none⟩ = some (.slice none 0 0) := by rw [← hX]; simp [go_sem]
 have x1 : X.cell? ⟨w.heap.size + 1, 1, none⟩ = some (.slice none 0 0) := by rw [← hX]; simp [go_sem]
 have xr : X.cell? ⟨w.heap.size, 0, none⟩ = some (.slice none 0 0) := by rw [← hX]; simp [go_sem]
 have xs : X.cell? ⟨w.heap.size, 1, none⟩ = some (.slice none 0 0) := by rw [← hX]; simp [go_sem]
 have xf : ∀ i, X.frozen? ⟨w.heap.size + 1, i, none⟩ = false := by intro i; rw [← hX]; simp [go_sem]
 have xg : ∀ i, X.frozen? ⟨w.heap.size, i, none⟩ = false := by intro i; rw [← hX]; simp [go_sem]
 have BX : Below w.heap.size w X := by rw [← hX]; (repeat' first | with_reducible (first | apply bz0 | assumption | apply bz1 | apply bz2 | apply bz3 | apply bz4 | apply bz5) | (simp <;> omega))
 have xh := has_of_cell x0
 have xl : w.heap.size + 1 < X.heap.size := xh
 go_region_law (refine step_append_grows rfl (.tmp 28) (.tmp 32) 51 rfl 3 i0 (.int .i64 0) 1 8 u_ints hi hz0 hz1 hz2 rfl (by decide) none 0 0 [] (by simp [Act.eval, Act.put]) (fun _ => ⟨rfl, rfl⟩) rfl (fun b h => by cases h) _ 1 1 [.int .i64 0] (by simp [Act.eval, Act.put]; rfl) rfl (by intro j u hj; match j, hj with | 0, hj => (simp at hj; subst hj; simp [go_sem, Addr.add] <;> rfl)) (by intro u hu; simp at hu; subst hu; rfl) (by decide) (by decide) (by decide) ?_; intro v' w1 hown hgrow; obtain ⟨g1, cap1, rfl, hg1, hc1⟩ := own_cell hown; have s0 := cell_grown (p := ⟨w.heap.size + 1, 0, none⟩) (v := .slice none 0 0) hgrow (by simp [go_sem, x0, xh]) (by simp; omega); have sf : w1.frozen? ⟨w.heap.size + 1, 0, none⟩ = false := (World.frozen?_of_block (hgrow.block (w.heap.size + 1) (by simp; omega) (by simp))).trans (by simp [go_sem, xf, xh]))
 all_goals
  have p1 := cell_grown (p := ⟨w.heap.size + 1, 1, none⟩) (v := .slice none 0 0) hgrow (by simp [go_sem, x1, xh]) (by simp; omega)
  have xh' : X.Has w.heap.size := has_of_cell xr
  have pr := cell_grown (p := ⟨w.heap.size, 0, none⟩) (v := .slice none 0 0) hgrow (by simp [go_sem, xr, xh']) (by simp; omega)
  have ps := cell_grown (p := ⟨w.heap.size, 1, none⟩) (v := .slice none 0 0) hgrow (by simp [go_sem, xs, xh']) (by simp; omega)
  have pf : ∀ i, w1.frozen? ⟨w.heap.size + 1, i, none⟩ = false := fun i => (World.frozen?_of_block (hgrow.block (w.heap.size + 1) (by simp; omega) (by simp))).trans (by simp [go_sem, xf, xh])
  have pg : ∀ i, w1.frozen? ⟨w.heap.size, i, none⟩ = false := fun i => (World.frozen?_of_block (hgrow.block w.heap.size (by simp; omega) (by simp))).trans (by simp [go_sem, xg, xh'])
  have hxs : (X.alloc (Obj.cells #[Value.int IntKind.i64 (IntKind.i64.wrap 0)] 3)).drew.heap.size = X.heap.size + 1 := by simp
  rw [hxs] at hg1
  have xle : w.heap.size ≤ X.heap.size := by omega
  have BX1 : Below w.heap.size w w1 := Below.grown (BX.trans (show Below w.heap.size X _ by (repeat' first | with_reducible (first | apply bz0 | assumption | apply bz1 | apply bz2 | apply bz3 | apply bz4 | apply bz5) | (simp <;> omega)))) hgrow (by simp; omega) (by simp)
  have gn1 : g1 ≠ w.heap.size + 1 := by omega
  have gn0 : g1 ≠ w.heap.size := by omega
  have gl1 : w.heap.size ≤ g1 := by omega
  clear hgrow hown hxs hX x0 x1 xr xs xf xg
  have ph := has_of_cell s0
  have pc := has_of_cell hc1
  generalize hY : World.setCell w1 _ _ = Y
  have y0 : Y.cell? ⟨w.heap.size + 1, 0, none⟩ = some (.slice (some ⟨g1, 0, none⟩) 1 cap1) := by rw [← hY]; simp [go_sem, s0, sf]
  have y1 : Y.cell? ⟨w.heap.size + 1, 1, none⟩ = some (.slice none 0 0) := by rw [← hY]; simp [go_sem, p1]
  have yr : Y.cell? ⟨w.heap.size, 0, none⟩ = some (.slice none 0 0) := by rw [← hY]; simp [go_sem, pr]
  have ys : Y.cell? ⟨w.heap.size, 1, none⟩ = some (.slice none 0 0) := by rw [← hY]; simp [go_sem, ps]
  have yc : Y.cell? ⟨g1, 0, none⟩ = some (.int .i64 0) := by rw [← hY]; simp [go_sem, hc1, gn1]
  have yf : ∀ i, Y.frozen? ⟨w.heap.size + 1, i, none⟩ = false := by intro i; rw [← hY]; simp [go_sem, pf]
  have yg : ∀ i, Y.frozen? ⟨w.heap.size, i, none⟩ = false := by intro i; rw [← hY]; simp [go_sem, pg]
  have BY : Below w.heap.size w Y := by rw [← hY]; exact BX1.setCell (by simp) _
  clear hY BX BX1 s0 p1 pr ps hc1 pf pg
  go_wp2
  rw [rounds_succ]
  go_wp2_with (go_at_call 144; refine (HC.out _ BY).mono ?_; rintro e Z ⟨hBZ, v, rfl, hown, _⟩; obtain ⟨g2, cap2, rfl, hg2, zc2⟩ := own_cell hown)
  have BZ : Below w.heap.size w Z := BY.trans (hBZ.lower BY.size)
  have z0 := cell_below hBZ (has_of_cell y0) y0
  have z1 := cell_below hBZ (has_of_cell y1) y1
  have zr := cell_below hBZ (has_of_cell yr) yr
  have zs := cell_below hBZ (has_of_cell ys) ys
  have zc := cell_below hBZ (has_of_cell yc) yc
  have zf : ∀ i, Z.frozen? ⟨w.heap.size + 1, i, none⟩ = false := fun i => (World.frozen?_of_block (w := Y) (hBZ.block (w.heap.size + 1) (has_of_cell y0))).trans (yf i)
  have zg : ∀ i, Z.frozen? ⟨w.heap.size, i, none⟩ = false := fun i => (World.frozen?_of_block (w := Y) (hBZ.block w.heap.size (has_of_cell yr))).trans (yg i)
  clear hown hBZ hg2 y0 y1 yr ys yc yf yg BY HC
  have zh := has_of_cell z0
  have zh2 := has_of_cell zc2
  refine wp_loop_rounds 2 ?_
  rw [rounds_succ]
  go_wp2_with (first | (at_builtin; refine wpList_append_own _ rfl _ _ 51 rfl Z.heap.size 3 i0 (.int .i64 0) 1 8 u_ints hi hz0 hz1 hz2 rfl (by decide) _ _ _ rfl (World.ownsRow_nil _ _ _ _) ⟨Z.heap.size, 0, none⟩ 1 1 [.int .i64 1] rfl rfl ?c1 ?c2 ?c3 ?c4 ?c5 ?_))
  case c1 =>
   intro j u hj
   match j, hj with
   | 0, hj => simp at hj; subst hj; simp [go_sem, Addr.add]
  case c2 => intro u hu; simp at hu; subst hu; rfl
  case c3 => decide
  case c4 => decide
  case c5 => simp
  intro v' w1 hown hgrow _
  obtain ⟨g3, cap3, rfl, hg3, hc3⟩ := own_cell hown
  replace hgrow : (Z.alloc (Obj.cells #[Value.int IntKind.i64 1] 3)).grownBy w1 none := hgrow
  have zl : w.heap.size + 1 < Z.heap.size := zh
  have zg1 : g1 < Z.heap.size := has_of_cell zc
  have zh1 := has_of_cell zc
  have zh0 := has_of_cell zr
  have q0 := cell_grown (p := ⟨w.heap.size + 1, 0, none⟩) (v := .slice (some ⟨g1, 0, none⟩) 1 cap1) hgrow (by simp [go_sem, z0, zh]) (by simp; omega)
  have q1 := cell_grown (p := ⟨w.heap.size + 1, 1, none⟩) (v := .slice none 0 0) hgrow (by simp [go_sem, z1, zh]) (by simp; omega)
  have qr := cell_grown (p := ⟨w.heap.size, 0, none⟩) (v := .slice none 0 0) hgrow (by simp [go_sem, zr, zh0]) (by simp; omega)
  have qs := cell_grown (p := ⟨w.heap.size, 1, none⟩) (v := .slice none 0 0) hgrow (by simp [go_sem, zs, zh0]) (by simp; omega)
  have qc := cell_grown (p := ⟨g1, 0, none⟩) (v := .int .i64 0) hgrow (by simp [go_sem, zc, zh1]) (by simp; omega)
  have qf : ∀ i, w1.frozen? ⟨w.heap.size + 1, i, none⟩ = false := fun i => (World.frozen?_of_block (hgrow.block (w.heap.size + 1) (by simp; omega) (by simp))).trans (by simp [go_sem, zf, zh])
  have qg : ∀ i, w1.frozen? ⟨w.heap.size, i, none⟩ = false := fun i => (World.frozen?_of_block (hgrow.block w.heap.size (by simp; omega) (by simp))).trans (by simp [go_sem, zg, zh0])
  have zle : w.heap.size ≤ Z.heap.size := by omega
  have BW : Below w.heap.size w w1 := Below.grown (BZ.trans (show Below w.heap.size Z _ by (repeat' first | with_reducible (first | apply bz0 | assumption | apply bz1 | apply bz2 | apply bz3 | apply bz4 | apply bz5) | (simp <;> omega)))) hgrow (by simp; omega) (by simp)
  have n31 : g3 ≠ w.heap.size + 1 := by omega
  have n30 : g3 ≠ w.heap.size := by omega
  have gl3 : w.heap.size ≤ g3 := by omega
  clear hown hgrow hg3 zc2 z0 z1 zr zs zc zf zg BZ zh zh2
  go_wp2
  rw [rounds_succ]
  go_wp2
  generalize hU : w1.setCell ⟨w.heap.size + 1, 1, none⟩ _ = U
  have u0 : U.cell? ⟨w.heap.size, 0, none⟩ = some (.slice none 0 0) := by rw [← hU]; simp [go_sem, qr]
  have u1 : U.cell? ⟨w.heap.size, 1, none⟩ = some (.slice none 0 0) := by rw [← hU]; simp [go_sem, qs]
  have uc : U.cell? ⟨g1, 0, none⟩ = some (.int .i64 0) := by rw [← hU]; simp [go_sem, gn1, qc]
  have ud : U.cell? ⟨g3, 0, none⟩ = some (.int .i64 1) := by rw [← hU]; simp [go_sem, n31, hc3]
  have BU : Below w.heap.size w U := by rw [← hU]; exact BW.setCell (by simp) _
  clear hU
  generalize hT : U.setCell ⟨w.heap.size, 0, none⟩ _ = T
  have t0 : T.cell? ⟨w.heap.size, 0, none⟩ = some (.slice (some ⟨g1, 0, none⟩) 1 cap1) := by rw [← hT]; simp [go_sem, u0]
  have t1 : T.cell? ⟨w.heap.size, 1, none⟩ = some (.slice none 0 0) := by rw [← hT]; simp [go_sem, u1]
  have tc : T.cell? ⟨g1, 0, none⟩ = some (.int .i64 0) := by rw [← hT]; simp [go_sem, gn0, uc]
  have td : T.cell? ⟨g3, 0, none⟩ = some (.int .i64 1) := by rw [← hT]; simp [go_sem, n30, ud]
  have BT : Below w.heap.size w T := by rw [← hT]; exact BU.setCell (by simp) _
  clear hT
  generalize hF : T.setCell ⟨w.heap.size, 1, none⟩ _ = F
  have f0 : F.cell? ⟨w.heap.size, 0, none⟩ = some (.slice (some ⟨g1, 0, none⟩) 1 cap1) := by rw [← hF]; simp [go_sem, t0]
  have f1 : F.cell? ⟨w.heap.size, 1, none⟩ = some (.slice (some ⟨g3, 0, none⟩) 1 cap3) := by rw [← hF]; simp [go_sem, t1]
  have fc : F.cell? ⟨g1, 0, none⟩ = some (.int .i64 0) := by rw [← hF]; simp [go_sem, gn0, tc]
  have fd : F.cell? ⟨g3, 0, none⟩ = some (.int .i64 1) := by rw [← hF]; simp [go_sem, n30, td]
  have BF : Below w.heap.size w F := by rw [← hF]; exact BT.setCell (by simp) _
  clear hF
  refine bodyPost_ret (v := .agg #[.slice (some ⟨g1, 0, none⟩) 1 cap1, .slice (some ⟨g3, 0, none⟩) 1 cap3]) (by simp [results, Tryz.results89, go_sem, f0, f1]) rfl ⟨BF, _, _, _, _, rfl, gl1, gl3, fc, fd⟩
end Go.Proofs.YtekieoamelahkaaGreat

/- Small helpers of the references: Size, Floor, Ceil, Has, CopyInts. -/
namespace Go.Proofs.YtekieoamelahkaaGreat
open Go.RowKit Go.Shelf
attribute [local go_sem] Oper.semAt_some

def sizeI (n : Int) : Int := if n < 0 then -n else n
theorem Size_any (n : Int) (w : World) (hn : -4611686018427387904 ≤ n ∧ n ≤ 4611686018427387904) : Calls Tryz.prog 96 #[.int .i64 n] w (RetX w (.int .i64 (sizeI n))) := by
 have HS : Hid (sizeI n = if n < 0 then -n else n) := rfl
 go_enter Tryz.func96, Tryz.ntmps96
 go_wp2
 all_goals
  go_ret
  refine retX_int (by rw [HS.out]; split <;> omega) ?_
  (repeat' first | with_reducible (first | apply bz0 | assumption | apply bz1 | apply bz2 | apply bz3 | apply bz4 | apply bz5) | (simp <;> omega))

theorem floor_eq {n b : Int} (hb : 0 < b) : n / b = if n.tmod b < 0 then n.tdiv b - 1 else n.tdiv b := by
 have h1 := Int.tmod_add_mul_tdiv n b
 have h2 := Int.tmod_lt_of_pos n hb
 have h3 := Int.lt_tmod_of_pos n hb
 split
 · exact ((Int.ediv_emod_unique (r := n.tmod b + b) (q := n.tdiv b - 1) hb).2 ⟨by rw [Int.mul_sub]; omega, by omega, by omega⟩).1
 · exact ((Int.ediv_emod_unique (r := n.tmod b) (q := n.tdiv b) hb).2 ⟨h1, by omega, h2⟩).1
theorem tdiv_bd {n b B : Int} (h : -B ≤ n ∧ n ≤ B) : -B ≤ n.tdiv b ∧ n.tdiv b ≤ B := by
 have := Int.natAbs_tdiv_le_natAbs n b
 omega
theorem Floor_any (n b : Int) (w : World) (hb : 0 < b) (hn : -4611686018427387904 ≤ n ∧ n ≤ 4611686018427387904) : Calls Tryz.prog 94 #[.int .i64 n, .int .i64 b] w (RetX w (.int .i64 (n / b))) := by
 have HF := hidden (floor_eq (n := n) hb)
 have hq := tdiv_bd (b := b) hn
 have b0 : b ≠ 0 := by omega
 have b1 : b ≠ -1 := by omega
 have b2 : (b == 0) = false := by simp [b0]
 cases q : decide (n.tmod b < 0) with
 | true =>
  have hz : n / b = n.tdiv b - 1 := by rw [HF.out, if_pos (of_decide_eq_true q)]
  rw [hz]
  clear HF hz
  go_enter Tryz.func94, Tryz.ntmps94
  go_wp2
  go_ret
  refine retX_int (by simp) ?_
  (repeat' first | with_reducible (first | apply bz0 | assumption | apply bz1 | apply bz2 | apply bz3 | apply bz4 | apply bz5) | (simp <;> omega))
 | false =>
  have hz : n / b = n.tdiv b := by rw [HF.out, if_neg (of_decide_eq_false q)]
  rw [hz]
  clear HF hz
  go_enter Tryz.func94, Tryz.ntmps94
  go_wp2
  go_ret
  refine retX_int (by simp) ?_
  (repeat' first | with_reducible (first | apply bz0 | assumption | apply bz1 | apply bz2 | apply bz3 | apply bz4 | apply bz5) | (simp <;> omega))
theorem Ceil_any (n b : Int) (w : World) (hb : 0 < b) (hn : -4611686018427387904 ≤ n ∧ n ≤ 4611686018427387904) : Calls Tryz.prog 95 #[.int .i64 n, .int .i64 b] w (RetX w (.int .i64 (-((-n) / b)))) := by
 have HF := hidden (fun W => Floor_any (-n) b W hb (by omega))
 have hd := hidden (floor_eq (n := -n) hb)
 have hq := tdiv_bd (n := -n) (b := b) (B := 4611686018427387904) (by omega)
 have hb2 : -4611686018427387905 ≤ (-n) / b ∧ (-n) / b ≤ 4611686018427387905 := by rw [hd.out]; split <;> omega
 clear hd hq
 generalize (-n) / b = z at *
 go_enter Tryz.func95, Tryz.ntmps95
 go_wp2_with (go_at_call 94; refine (HF.out _).mono ?_; rintro e w' ⟨rfl, x1, rfl⟩)
 go_ret
 refine retX_int (by simp) ?_
 (repeat' first | with_reducible (first | apply bz0 | assumption | apply bz1 | apply bz2 | apply bz3 | apply bz4 | apply bz5) | (simp <;> omega))

def hasL (xs : List Int) (n : Int) : Bool := xs.any (fun x => x == n)
theorem hasL_stop {xs : List Int} {n : Int} {k : Nat} (hk : k < xs.length) (h : (intAt xs k == n) = true) : hasL xs n = true := by
 unfold hasL
 rw [List.any_eq_true]
 rw [intAt_get hk] at h
 exact ⟨_, List.getElem_mem hk, h⟩
theorem hasL_end {xs : List Int} {n : Int} (h : ∀ k, k < xs.length → (intAt xs k == n) = false) : hasL xs n = false := by
 unfold hasL
 rw [List.any_eq_false]
 intro x hx
 obtain ⟨k, hk, rfl⟩ := List.getElem_of_mem hx
 have := h k hk
 rw [intAt_get hk] at this
 simp [this]
theorem Has_any (xs : List Int) (n : Int) (A : Option Addr) (c : Nat) (w : World) (hX : SlcAt encInt w (.slice A xs.length c) xs) :
 Calls Tryz.prog 102 #[.slice A xs.length c, .int .i64 n] w (RetX w (.bool (hasL xs n))) := by
 have hl := hX.1
 refine (callsIn_wide (n := 10)).1 ?_
 refine callsIn_of_wp Tryz.func102 rfl trivial ?_ rfl
 simp only [Tryz.ntmps102, nt, Nat.reduceAdd, Nat.reduceSub]
 gi_wp2
 gi_loopw [5] (fun i wr => ∃ k : Nat, i = .int .i64 k ∧ k ≤ xs.length ∧ Below w.heap.size w wr ∧ ∀ j, j < k → (intAt xs j == n) = false) (fun i _ => xs.length - (intOf i).toNat)
 case atStart => exact ⟨0, rfl, Nat.zero_le _, Below.refl _ _, fun j hj => absurd hj (Nat.not_lt_zero j)⟩
 case round =>
  obtain ⟨k, rfl, hk, hB, hno⟩ := hrel
  have hgs := hB.size
  rcases Nat.lt_or_ge k xs.length with hlt | hge
  · obtain ⟨g, o, rfl, hg, hcs⟩ := int_at (hX.below hB) hlt
    have k0 := hcs k hlt
    have hst := hidden (fun h => hasL_stop (xs := xs) (n := n) hlt h)
    have hgo : Hid ((intAt xs k == n) = false → ∀ j, j < k + 1 → (intAt xs j == n) = false) := fun he j hj => by
     rcases Nat.lt_or_ge j k with h | h
     · exact hno j h
     · obtain rfl : j = k := by omega
       exact he
    clear hcs hX hno
    generalize intAt xs k = a at *
    generalize xs.length = N at *
    cases q : (a == n) with
    | true =>
     have hz := hidden (hst.out q)
     gi_wp2
     refine bodyPost_ret (v := .bool true) (by simp [results, Tryz.results102, go_sem]) rfl (retX (by rw [hz.out]) (hB.trans (by (repeat' first | with_reducible (first | apply bz0 | assumption | apply bz1 | apply bz2 | apply bz3 | apply bz4 | apply bz5) | (simp <;> omega)))))
    | false =>
     have hz := hidden (hgo.out q)
     gi_wp2
     exact ⟨⟨k + 1, by simp, by omega, hB.trans ((show Below wr.heap.size wr _ by (repeat' first | with_reducible (first | apply bz0 | assumption | apply bz1 | apply bz2 | apply bz3 | apply bz4 | apply bz5) | (simp <;> omega))).lower hB.size), hz.out⟩, by simp [intOf]; omega⟩
  · obtain rfl : k = xs.length := by omega
    have hz := hidden (hasL_end hno)
    gi_wp2
    refine bodyPost_ret (v := .bool false) (by simp [results, Tryz.results102, go_sem]) rfl (retX (by rw [hz.out]) hB)
end Go.Proofs.YtekieoamelahkaaGreat

/- Gcd. -/
namespace Go.Proofs.YtekieoamelahkaaGreat
open Go.RowKit Go.Shelf
attribute [local go_sem] Oper.semAt_some

theorem Gcd_any (a b : Int) (w : World) (ha : -4611686018427387904 ≤ a ∧ a ≤ 4611686018427387904) (hb : -4611686018427387904 ≤ b ∧ b ≤ 4611686018427387904) :
 Calls Tryz.prog 113 #[.int .i64 a, .int .i64 b] w (RetX w (.int .i64 (Int.gcd a b))) := by
 have HS := hidden (fun (W : World) (n : Int) (hn : -4611686018427387904 ≤ n ∧ n ≤ 4611686018427387904) => Size_any n W hn)
 refine (callsIn_wide (n := 10)).1 ?_
 refine callsIn_of_wp Tryz.func113 rfl trivial ?_ rfl
 simp only [Tryz.ntmps113, nt, Nat.reduceAdd, Nat.reduceSub]
 gi_wp2
 gi_loopw [0, 1] (fun u v wr => ∃ x y : Int, u = .int .i64 x ∧ v = .int .i64 y ∧ Int.gcd x y = Int.gcd a b ∧ (-4611686018427387904 ≤ x ∧ x ≤ 4611686018427387904) ∧ (-4611686018427387904 ≤ y ∧ y ≤ 4611686018427387904) ∧ Below w.heap.size w wr) (fun _ v _ => (intOf v).natAbs)
 case atStart => exact ⟨a, b, rfl, rfl, rfl, ha, hb, Below.refl _ _⟩
 case round =>
  obtain ⟨x, y, rfl, rfl, hg, hx, hy, hB⟩ := hrel
  have hgs := hB.size
  cases q : (y != 0) with
  | true =>
   have y0 : y ≠ 0 := by simpa using q
   have y2 : (y == 0) = false := by simp [y0]
   have hm : (x.tmod y).natAbs < y.natAbs := by rw [Int.natAbs_tmod]; exact Nat.mod_lt _ (by omega)
   have hG := hidden (show Int.gcd y (x.tmod y) = Int.gcd a b from by
    rw [← hg]
    unfold Int.gcd
    rw [Int.natAbs_tmod, Nat.gcd_comm, ← Nat.gcd_rec, Nat.gcd_comm])
   have hM := hidden hm
   have ht : -4611686018427387904 ≤ x.tmod y ∧ x.tmod y ≤ 4611686018427387904 := by omega
   clear hg hm
   gi_wp2
   refine wpIn_wide.2 ?_
   (refine tmX (by kernel_rfl) (by kernel_rfl) ?_); (repeat (first | (refine tmS rfl ?_; simp only [Act.put, List.setIfInBounds_toArray, List.set_cons_succ, List.set_cons_zero]) | (refine tmP rfl rfl rfl (fun K hK => ?_); go_big_quiet_op; refine hK _ ?_; clear hK K) | (refine tmE rfl rfl (fun K hK => ?_); go_big_op; (first | fail | skip); (refine hK _ _ rfl (ext_of_below (by (repeat' first | with_reducible (first | apply bz0 | assumption | apply bz1 | apply bz2 | apply bz3 | apply bz4 | apply bz5) | (simp <;> omega)))) ?_; clear hK K)))); (refine tmN ?_)
   gi_wp2
   exact ⟨⟨y, x.tmod y, rfl, rfl, hG.out, hy, ht, hB.trans ((show Below wr.heap.size wr _ by (repeat' first | with_reducible (first | apply bz0 | assumption | apply bz1 | apply bz2 | apply bz3 | apply bz4 | apply bz5) | (simp <;> omega))).lower hB.size)⟩, by simpa [intOf] using hM.out⟩
  | false =>
   obtain rfl : y = 0 := by simpa using q
   have hz := hidden (show sizeI x = (Int.gcd a b : Int) from by
    rw [← hg, Int.gcd_zero_right]
    unfold sizeI
    split <;> omega)
   gi_wp2
   (refine ⟨trivial, ?_⟩; ((with_reducible refine (callsIn_wide.2 (HS.out _ _ hx)).mono ?_); rintro e w' ⟨rfl, x1, rfl⟩))
   gi_wp2
   refine bodyPost_ret (v := .int .i64 (sizeI x)) (by simp [results, Tryz.results113, go_sem]) rfl (retX (by rw [hz.out]) (hB.trans (by (repeat' first | with_reducible (first | apply bz0 | assumption | apply bz1 | apply bz2 | apply bz3 | apply bz4 | apply bz5) | (simp <;> omega)))))
end Go.Proofs.YtekieoamelahkaaGreat

/- The reference's check of a hall: its small functions. -/
namespace Go.Proofs.YtekieoamelahkaaGreat
open Go.RowKit Go.Shelf
attribute [local go_sem] Oper.semAt_some

theorem isPlace_any (n : Int) (w : World) : Calls Tryz.prog 81 #[.int .i64 n] w (RetX w (.bool (wiB n (-5000) 5000))) := by
 go_enter Tryz.func81, Tryz.ntmps81
 go_wp2_with (go_at_call 45; refine (Within_any _ _ _ _).mono ?_; rintro e w' ⟨rfl, x1, rfl⟩)
 go_ret
 refine retX_bool rfl ?_
 (repeat' first | with_reducible (first | apply bz0 | assumption | apply bz1 | apply bz2 | apply bz3 | apply bz4 | apply bz5) | (simp <;> omega))
def signI (n : Int) : Int := if n < 0 then -1 else if 0 < n then 1 else 0
theorem sign_any (n : Int) (w : World) : Calls Tryz.prog 121 #[.int .i64 n] w (RetX w (.int .i64 (signI n))) := by
 have HS : Hid (signI n = if n < 0 then -1 else if 0 < n then 1 else 0) := rfl
 go_enter Tryz.func121, Tryz.ntmps121
 go_wp2
 all_goals
  go_ret
  refine retX_int (by rw [HS.out]; (repeat' split) <;> omega) ?_
  (repeat' first | with_reducible (first | apply bz0 | assumption | apply bz1 | apply bz2 | apply bz3 | apply bz4 | apply bz5) | (simp <;> omega))
theorem wrong_any (l n e : Int) (w : World) : Calls Tryz.prog 79 #[.int .i64 l, .int .i64 n, .int .i64 e] w (RetX w (.tuple #[.agg #[.int .i64 l, .int .i64 n], .int .i64 e])) := by
 go_enter Tryz.func79, Tryz.ntmps79
 go_wp2
 refine bodyPost_ret (v := .tuple #[.agg #[.int .i64 l, .int .i64 n], .int .i64 e]) (by simp [results, Tryz.results79, go_sem]) rfl (retX rfl ?_)
 (repeat' first | with_reducible (first | apply bz0 | assumption | apply bz1 | apply bz2 | apply bz3 | apply bz4 | apply bz5) | (simp <;> omega))

def matI (H : Hal) (nm : ByteArray) : Int := match (List.range H.mats.length).find? (fun k => (matAt H.mats k).name.toList == nm.toList) with | none => -1 | some k => (k : Int)
theorem matI_stop {H : Hal} {nm : ByteArray} {k : Nat} (hk : k < H.mats.length) (he : ((matAt H.mats k).name.toList == nm.toList) = true) (h : ∀ j, j < k → ((matAt H.mats j).name.toList == nm.toList) = false) : matI H nm = k := by
 unfold matI
 have : (List.range H.mats.length).find? (fun k => (matAt H.mats k).name.toList == nm.toList) = some k := by
  rw [List.find?_range_eq_some]
  exact ⟨he, by simpa using hk, fun j hj => by rw [h j hj]; rfl⟩
 rw [this]
theorem matI_end {H : Hal} {nm : ByteArray} (h : ∀ j, j < H.mats.length → ((matAt H.mats j).name.toList == nm.toList) = false) : matI H nm = -1 := by
 unfold matI
 have : (List.range H.mats.length).find? (fun k => (matAt H.mats k).name.toList == nm.toList) = none := by
  rw [List.find?_eq_none]
  intro k hk
  rw [h k (by simpa using hk)]
  simp
 rw [this]
theorem refMaterial_any {w : World} {H : Hal} {v4 v5 v6 v7 v8 : Value} (hV : HalVs w v4 v5 v6 v7 v8 H) (nm : ByteArray) :
 Calls Tryz.prog 80 #[halV H v4 v5 v6 v7 v8, .string nm] w (RetX w (.int .i64 (matI H nm))) := by
 obtain ⟨_, g4, g5, g6, g7, g8⟩ := hV
 obtain ⟨A4, c4, rfl, hS4⟩ := slc_form g4
 obtain ⟨A5, c5, rfl, _⟩ := slc_form g5
 obtain ⟨A6, c6, rfl, _⟩ := slc_form g6
 obtain ⟨A7, c7, rfl, _⟩ := slc_form g7
 obtain ⟨A8, c8, rfl, _⟩ := slc_form g8
 have l4 := hS4.1
 clear g4 g5 g6 g7 g8
 unfold halV
 refine (callsIn_wide (n := 10)).1 ?_
 refine callsIn_of_wp Tryz.func80 rfl trivial ?_ rfl
 simp only [Tryz.ntmps80, nt, Nat.reduceAdd, Nat.reduceSub]
 gi_wp2
 generalize hw1 : World.alloc _ _ = w1
 have hB1 : Below w.heap.size w w1 := by rw [← hw1]; (repeat' first | with_reducible (first | apply bz0 | assumption | apply bz1 | apply bz2 | apply bz3 | apply bz4 | apply bz5) | (simp <;> omega))
 have r4 : w1.cell? ⟨w.heap.size, 4, none⟩ = some (.slice A4 H.mats.length c4) := by rw [← hw1]; simp [go_sem]
 have gw := has_of_cell r4
 clear hw1
 gi_loopw [5] (fun i wr => ∃ k : Nat, i = .int .i64 k ∧ k ≤ H.mats.length ∧ Below w1.heap.size w1 wr ∧ ∀ j, j < k → ((matAt H.mats j).name.toList == nm.toList) = false) (fun i _ => H.mats.length - (intOf i).toNat)
 case atStart => exact ⟨0, rfl, Nat.zero_le _, Below.refl _ _, fun j hj => absurd hj (Nat.not_lt_zero j)⟩
 case round =>
  obtain ⟨k, rfl, hk, hB, hno⟩ := hrel
  have hBw : Below w.heap.size w wr := hB1.trans (hB.lower hB1.size)
  have hgs := hBw.size
  replace r4 := cell_below hB gw r4
  replace gw := has_of_cell r4
  rcases Nat.lt_or_ge k H.mats.length with hlt | hge
  · obtain ⟨g, o, rfl, hg, hcs⟩ := mat_at (hS4.below hBw) hlt
    obtain ⟨k0, k1, k2, k3, k4, k5⟩ := hcs k hlt
    have hst : Hid (((matAt H.mats k).name.toList == nm.toList) = true → matI H nm = k) := fun h => matI_stop hlt h hno
    have hgo : Hid (((matAt H.mats k).name.toList == nm.toList) = false → ∀ j, j < k + 1 → ((matAt H.mats j).name.toList == nm.toList) = false) := fun he j hj => by
     rcases Nat.lt_or_ge j k with h' | h'
     · exact hno j h'
     · obtain rfl : j = k := by omega
       exact he
    clear hcs hS4 hno hB1 k1 k2 k3 k4 k5
    generalize (matAt H.mats k).name = n0 at *
    generalize H.mats.length = N at *
    cases q : (n0.toList == nm.toList) with
    | true =>
     have hz := hidden (hst.out q)
     gi_wp2
     refine bodyPost_ret (v := .int .i64 k) (by simp [results, Tryz.results80, go_sem]) rfl (retX (by rw [hz.out]) (hBw.trans (by (repeat' first | with_reducible (first | apply bz0 | assumption | apply bz1 | apply bz2 | apply bz3 | apply bz4 | apply bz5) | (simp <;> omega)))))
    | false =>
     have hz := hidden (hgo.out q)
     gi_wp2
     exact ⟨⟨k + 1, by simp, by omega, hB.trans ((show Below wr.heap.size wr _ by (repeat' first | with_reducible (first | apply bz0 | assumption | apply bz1 | apply bz2 | apply bz3 | apply bz4 | apply bz5) | (simp <;> omega))).lower hB.size), hz.out⟩, by simp [intOf]; omega⟩
  · obtain rfl : k = H.mats.length := by omega
    have hz := hidden (matI_end hno)
    gi_wp2
    refine bodyPost_ret (v := .int .i64 (-1)) (by simp [results, Tryz.results80, go_sem]) rfl (retX (by rw [hz.out]) hBw)
end Go.Proofs.YtekieoamelahkaaGreat
