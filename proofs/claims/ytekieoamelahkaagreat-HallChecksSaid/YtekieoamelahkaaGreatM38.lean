/- The reference's InPlan. -/
import Derived.Test.YtekieoamelahkaaGreatM36
import Derived.Test.YtekieoamelahkaaGreatM33
import Derived.Test.YtekieoamelahkaaGreatM37
import Derived.Test.YtekieoamelahkaaGreatM25
set_option linter.unusedVariables false
set_option linter.unusedSimpArgs false
namespace Go.Proofs.YtekieoamelahkaaGreat
open Go.RowKit Go.Shelf
attribute [local go_sem] Oper.semAt_some

theorem undef_ne (b : Bool) : ¬ (some undef = some (Value.bool b)) := by intro h; cases h
def lnHas (H : Hal) (px py d : Int) (i : Nat) : Bool := hasP (lnX H i) (lnY H i) (lnDX H i) (lnDY H i) px py d
def lnBes (H : Hal) (px py d : Int) (i : Nat) : Int := besI (lnX H i) (lnY H i) (signI (lnDX H i)) (signI (lnDY H i)) px py d
def lowP (H : Hal) (py d : Int) (i : Nat) : Bool := decide (lnY H i * d ≤ py)
def highP (H : Hal) (py d : Int) (i : Nat) : Bool := decide ((lnY H i + lnDY H i) * d ≤ py)
def flipP (H : Hal) (px py d : Int) (i : Nat) : Bool := (lowP H py d i && !highP H py d i && decide (0 < lnBes H px py d i)) || (!lowP H py d i && highP H py d i && decide (lnBes H px py d i < 0))
def inpTo (H : Hal) (px py d : Int) : Nat → Bool | 0 => false | k + 1 => if flipP H px py d k = true then !inpTo H px py d k else inpTo H px py d k
def inplB (H : Hal) (px py d : Int) : Bool := (List.range H.cors.length).all (fun k => !lnHas H px py d k) && inpTo H px py d H.cors.length
def LinesOk (H : Hal) : Prop := ∀ i, i < H.cors.length → LineOk (lnDX H i) (lnDY H i)
theorem inplB_stop {H : Hal} {px py d : Int} {k : Nat} (hk : k < H.cors.length) (h : lnHas H px py d k = true) : inplB H px py d = false := by
 unfold inplB
 have : (List.range H.cors.length).all (fun k => !lnHas H px py d k) = false := by rw [List.all_eq_false]; exact ⟨k, by simpa using hk, by simp [h]⟩
 rw [this]; rfl
theorem inplB_end {H : Hal} {px py d : Int} (h : ∀ k, k < H.cors.length → lnHas H px py d k = false) : inplB H px py d = inpTo H px py d H.cors.length := by
 unfold inplB
 have : (List.range H.cors.length).all (fun k => !lnHas H px py d k) = true := by rw [List.all_eq_true]; intro k hk; rw [h k (by simpa using hk)]; rfl
 rw [this]; rfl
theorem ln_bd {H : Hal} (hC : CorsIn H) {i : Nat} (hi : i < H.cors.length) : (-5000 ≤ lnX H i ∧ lnX H i ≤ 5000) ∧ (-5000 ≤ lnY H i ∧ lnY H i ≤ 5000) ∧ (-5000 ≤ lnY H i + lnDY H i ∧ lnY H i + lnDY H i ≤ 5000) ∧ (-5000 ≤ lnX H i + lnDX H i ∧ lnX H i + lnDX H i ≤ 5000) := by
 have b1 := hC i hi
 have b2 := hC _ (nxt_lt hi)
 unfold lnX lnY lnDX lnDY
 omega
set_option maxRecDepth 100000 in set_option maxHeartbeats 4000000 in
theorem InPlan_any {w : World} {H : Hal} {v4 v5 v6 v7 v8 : Value} (hV : HalVs w v4 v5 v6 v7 v8 H) (hC : CorsIn H) (hL : LinesOk H) (hN : H.wals.length = H.cors.length)
 (px py pz d : Int) (hp : -1000000000000000 ≤ px ∧ px ≤ 1000000000000000) (hq : -1000000000000000 ≤ py ∧ py ≤ 1000000000000000) (hd : 0 ≤ d ∧ d ≤ 100000000000) :
 Calls Tryz.prog 114 #[halV H v4 v5 v6 v7 v8, .agg #[.int .i64 px, .int .i64 py, .int .i64 pz, .int .i64 d]] w (RetX w (.bool (inplB H px py d))) := by
 have HN := hidden (fun (W : World) (hW : Below w.heap.size w W) (i : Nat) (hi : i < H.cors.length) => LineOf_any (hV.below hW) hC i hi)
 have HH := hidden (fun (W : World) (i : Nat) (hi : i < H.cors.length) => Has_line (lnX H i) (lnY H i) (lnDX H i) (lnDY H i) W (hL i hi) px py pz d (ln_bd hC hi).1 (ln_bd hC hi).2.1 hp hq hd)
 have HB := hidden (fun (W : World) (i : Nat) (hi : i < H.cors.length) => Beside_any (lnX H i) (lnY H i) (lnDX H i) (lnDY H i) W (hL i hi) px py pz d (ln_bd hC hi).1 (ln_bd hC hi).2.1 hp hq hd)
 have HD := hidden (fun (i : Nat) (hi : i < H.cors.length) => ln_bd hC hi)
 clear hC hL
 obtain ⟨_, g4, g5, g6, g7, g8⟩ := hV
 have l6 := g6.1
 obtain ⟨A4, c4, rfl, _⟩ := slc_form g4
 obtain ⟨A5, c5, rfl, _⟩ := slc_form g5
 obtain ⟨A6, c6, rfl, _⟩ := slc_form g6
 obtain ⟨A7, c7, rfl, _⟩ := slc_form g7
 obtain ⟨A8, c8, rfl, _⟩ := slc_form g8
 clear g4 g5 g6 g7 g8
 rw [hN] at l6
 unfold halV at *
 rw [hN] at *
 clear hN
 refine (callsIn_wide (n := 10)).1 ?_
 refine callsIn_of_wp Tryz.func114 rfl trivial ?_ rfl
 simp only [Tryz.ntmps114, nt, Nat.reduceAdd, Nat.reduceSub]
 gi_wp2
 generalize hX : World.alloc _ _ = X
 have x0 : X.cell? ⟨w.heap.size, 0, none⟩ = some (.string H.name) := by rw [← hX]; simp [go_sem]
 have x1 : X.cell? ⟨w.heap.size, 1, none⟩ = some (.int .i64 H.height) := by rw [← hX]; simp [go_sem]
 have x2 : X.cell? ⟨w.heap.size, 2, none⟩ = some (.string H.floor) := by rw [← hX]; simp [go_sem]
 have x3 : X.cell? ⟨w.heap.size, 3, none⟩ = some (.string H.ceil) := by rw [← hX]; simp [go_sem]
 have x4 : X.cell? ⟨w.heap.size, 4, none⟩ = some (.slice A4 H.mats.length c4) := by rw [← hX]; simp [go_sem]
 have x5 : X.cell? ⟨w.heap.size, 5, none⟩ = some (.slice A5 H.cors.length c5) := by rw [← hX]; simp [go_sem]
 have x6 : X.cell? ⟨w.heap.size, 6, none⟩ = some (.slice A6 H.cors.length c6) := by rw [← hX]; simp [go_sem]
 have x7 : X.cell? ⟨w.heap.size, 7, none⟩ = some (.slice A7 H.cans.length c7) := by rw [← hX]; simp [go_sem]
 have x8 : X.cell? ⟨w.heap.size, 8, none⟩ = some (.slice A8 H.seas.length c8) := by rw [← hX]; simp [go_sem]
 have y0 : X.cell? ⟨w.heap.size + 1, 0, none⟩ = some (.int .i64 px) := by rw [← hX]; simp [go_sem]
 have y1 : X.cell? ⟨w.heap.size + 1, 1, none⟩ = some (.int .i64 py) := by rw [← hX]; simp [go_sem]
 have y2 : X.cell? ⟨w.heap.size + 1, 2, none⟩ = some (.int .i64 pz) := by rw [← hX]; simp [go_sem]
 have y3 : X.cell? ⟨w.heap.size + 1, 3, none⟩ = some (.int .i64 d) := by rw [← hX]; simp [go_sem]
 have BX : Below w.heap.size w X := by rw [← hX]; (repeat' first | with_reducible (first | apply bz0 | assumption | apply bz1 | apply bz2 | apply bz3 | apply bz4 | apply bz5) | (simp <;> omega))
 have gx := has_of_cell x0
 have gy := has_of_cell y0
 clear hX
 gi_loopw [5, 6] (fun u i wr => ∃ k : Nat, u = .bool (inpTo H px py d k) ∧ i = .int .i64 k ∧ k ≤ H.cors.length ∧ Below X.heap.size X wr ∧ ∀ j, j < k → lnHas H px py d j = false) (fun _ i _ => H.cors.length - (intOf i).toNat)
 case atStart => exact ⟨0, rfl, rfl, Nat.zero_le _, Below.refl _ _, fun j hj => absurd hj (Nat.not_lt_zero j)⟩
 case round =>
  obtain ⟨k, rfl, rfl, hk, hB, hno⟩ := hrel
  have hBw : Below w.heap.size w wr := BX.trans (hB.lower BX.size)
  have hgs := hBw.size
  replace x0 := cell_below hB gx x0
  replace x1 := cell_below hB gx x1
  replace x2 := cell_below hB gx x2
  replace x3 := cell_below hB gx x3
  replace x4 := cell_below hB gx x4
  replace x5 := cell_below hB gx x5
  replace x6 := cell_below hB gx x6
  replace x7 := cell_below hB gx x7
  replace x8 := cell_below hB gx x8
  replace y0 := cell_below hB gy y0
  replace y1 := cell_below hB gy y1
  replace y2 := cell_below hB gy y2
  replace y3 := cell_below hB gy y3
  replace gx := has_of_cell x0
  replace gy := has_of_cell y0
  rcases Nat.lt_or_ge k H.cors.length with hlt | hge
  · have hst := hidden (fun h => inplB_stop (H := H) (px := px) (py := py) (d := d) hlt h)
    have hgo : Hid (lnHas H px py d k = false → ∀ j, j < k + 1 → lnHas H px py d j = false) := fun he j hj => by
     rcases Nat.lt_or_ge j k with h' | h'
     · exact hno j h'
     · obtain rfl : j = k := by omega
       exact he
    have HNk := hidden (fun (W : World) (hW : Below w.heap.size w W) => HN.out W hW k hlt)
    have HHk := hidden (fun (W : World) => HH.out W k hlt)
    have HBk := hidden (fun (W : World) => HB.out W k hlt)
    obtain ⟨d1, d2, d3, d4⟩ := HD.out k hlt
    have hI : Hid (inpTo H px py d (k + 1) = if flipP H px py d k = true then !inpTo H px py d k else inpTo H px py d k) := rfl
    have hF : Hid (flipP H px py d k = ((lowP H py d k && !highP H py d k && decide (0 < lnBes H px py d k)) || (!lowP H py d k && highP H py d k && decide (lnBes H px py d k < 0)))) := rfl
    have hlo : Hid (lowP H py d k = decide (lnY H k * d ≤ py)) := rfl
    have hhi : Hid (highP H py d k = decide ((lnY H k + lnDY H k) * d ≤ py)) := rfl
    change Hid (∀ W, Calls _ _ _ _ (RetX W (.bool (lnHas H px py d k)))) at HHk
    change Hid (∀ W, Calls _ _ _ _ (RetX W (.int .i64 (lnBes H px py d k)))) at HBk
    have m1 := mul_bd d2 hd (by omega)
    have m2 := mul_bd d3 hd (by omega)
    clear HN HH HB HD hno
    generalize hs' : inpTo H px py d (k + 1) = s' at *
    generalize inpTo H px py d k = s at *
    generalize flipP H px py d k = fl at *
    generalize lnHas H px py d k = hs at *
    generalize lnBes H px py d k = be at *
    generalize lowP H py d k = lo at *
    generalize highP H py d k = hi at *
    generalize lnX H k = X0 at *
    generalize lnY H k = Y0 at *
    generalize lnDX H k = DX at *
    generalize lnDY H k = DY at *
    have e1 : IntKind.i64.wrap (Y0 * d) = Y0 * d := IntWalk.i64_in _ (by omega)
    have e2 : IntKind.i64.wrap (Y0 + DY) = Y0 + DY := IntWalk.i64_in _ (by omega)
    have e3 : IntKind.i64.wrap ((Y0 + DY) * d) = (Y0 + DY) * d := IntWalk.i64_in _ (by omega)
    cases hs with
    | true =>
     have hz := hidden (hst.out rfl)
     clear hI hF hlo hhi
     gi_wp2
     (refine ⟨trivial, ?_⟩; ((with_reducible refine (callsIn_wide.2 (HNk.out _ ?hk)).mono ?_); (case hk => (repeat' first | with_reducible (first | apply bz0 | assumption | apply bz1 | apply bz2 | apply bz3 | apply bz4 | apply bz5) | (simp <;> omega))); rintro e w' ⟨rfl, z1, rfl⟩))
     gi_wp2
     (refine ⟨trivial, ?_⟩; ((with_reducible refine (callsIn_wide.2 (HHk.out _)).mono ?_); rintro e w' ⟨rfl, z2, rfl⟩))
     gi_wp2
     refine bodyPost_ret (v := .bool false) (by simp [results, Tryz.results114, go_sem]) rfl (retX (by rw [hz.out]) (hBw.trans ((show Below wr.heap.size wr _ by (repeat' first | with_reducible (first | apply bz0 | assumption | apply bz1 | apply bz2 | apply bz3 | apply bz4 | apply bz5) | (simp <;> omega))).lower hgs)))
    | false =>
     have hz := hidden (hgo.out rfl)
     have hlo := hlo.out
     have hhi := hhi.out
     have cs : (lo = true ∧ hi = true ∧ fl = false) ∨ (lo = false ∧ hi = false ∧ fl = false) ∨ (lo = true ∧ hi = false ∧ decide (0 < be) = true ∧ fl = true) ∨ (lo = true ∧ hi = false ∧ decide (0 < be) = false ∧ fl = false) ∨ (lo = false ∧ hi = true ∧ decide (be < 0) = true ∧ fl = true) ∨ (lo = false ∧ hi = true ∧ decide (be < 0) = false ∧ fl = false) := by
      have hF := hF.out
      revert hF
      generalize decide (0 < be) = b1
      generalize decide (be < 0) = b2
      cases lo <;> cases hi <;> cases b1 <;> cases b2 <;> simp <;> (intro h; simp [h])
     clear hF
     rcases cs with ⟨rfl, rfl, rfl⟩ | ⟨rfl, rfl, rfl⟩ | ⟨rfl, rfl, q1, rfl⟩ | ⟨rfl, rfl, q1, rfl⟩ | ⟨rfl, rfl, q1, rfl⟩ | ⟨rfl, rfl, q1, rfl⟩
     · have hs := hidden hI.out
       simp only [if_true, Bool.false_eq_true, if_false] at hs
       clear hI
       replace hlo := hlo.symm
       replace hhi := hhi.symm
       gi_wp2
       (refine ⟨trivial, ?_⟩; ((with_reducible refine (callsIn_wide.2 (HNk.out _ ?hk)).mono ?_); (case hk => (repeat' first | with_reducible (first | apply bz0 | assumption | apply bz1 | apply bz2 | apply bz3 | apply bz4 | apply bz5) | (simp <;> omega))); rintro e w' ⟨rfl, z1, rfl⟩))
       gi_wp2
       (refine ⟨trivial, ?_⟩; ((with_reducible refine (callsIn_wide.2 (HHk.out _)).mono ?_); rintro e w' ⟨rfl, z2, rfl⟩))
       gi_wp2
       refine wpIn_wide.2 ?_
       (refine tmX (by kernel_rfl) (by kernel_rfl) ?_); (repeat (first | (refine tmS rfl ?_; simp only [Act.put, List.setIfInBounds_toArray, List.set_cons_succ, List.set_cons_zero]) | (refine tmP rfl rfl rfl (fun K hK => ?_); go_big_quiet_op; refine hK _ ?_; clear hK K) | (refine tmE rfl rfl (fun K hK => ?_); go_big_op; (first | fail | skip); (refine hK _ _ rfl (ext_of_below (by (repeat' first | with_reducible (first | apply bz0 | assumption | apply bz1 | apply bz2 | apply bz3 | apply bz4 | apply bz5) | (simp <;> omega)))) ?_; clear hK K)))); (refine tmN ?_)
       gi_wp2
       refine ⟨trivial, ?_⟩
       gi_wp2
       refine ⟨trivial, ?_⟩
       gi_wp2
       exact ⟨⟨k + 1, by rw [hs', hs.out], by simp, by omega, hB.trans ((show Below wr.heap.size wr _ by (repeat' first | with_reducible (first | apply bz0 | assumption | apply bz1 | apply bz2 | apply bz3 | apply bz4 | apply bz5) | (simp <;> omega))).lower hB.size), hz.out⟩, by simp [intOf]; omega⟩
     · have hs := hidden hI.out
       simp only [if_true, Bool.false_eq_true, if_false] at hs
       clear hI
       replace hlo := hlo.symm
       replace hhi := hhi.symm
       gi_wp2
       (refine ⟨trivial, ?_⟩; ((with_reducible refine (callsIn_wide.2 (HNk.out _ ?hk)).mono ?_); (case hk => (repeat' first | with_reducible (first | apply bz0 | assumption | apply bz1 | apply bz2 | apply bz3 | apply bz4 | apply bz5) | (simp <;> omega))); rintro e w' ⟨rfl, z1, rfl⟩))
       gi_wp2
       (refine ⟨trivial, ?_⟩; ((with_reducible refine (callsIn_wide.2 (HHk.out _)).mono ?_); rintro e w' ⟨rfl, z2, rfl⟩))
       gi_wp2
       refine wpIn_wide.2 ?_
       (refine tmX (by kernel_rfl) (by kernel_rfl) ?_); (repeat (first | (refine tmS rfl ?_; simp only [Act.put, List.setIfInBounds_toArray, List.set_cons_succ, List.set_cons_zero]) | (refine tmP rfl rfl rfl (fun K hK => ?_); go_big_quiet_op; refine hK _ ?_; clear hK K) | (refine tmE rfl rfl (fun K hK => ?_); go_big_op; (first | fail | skip); (refine hK _ _ rfl (ext_of_below (by (repeat' first | with_reducible (first | apply bz0 | assumption | apply bz1 | apply bz2 | apply bz3 | apply bz4 | apply bz5) | (simp <;> omega)))) ?_; clear hK K)))); (refine tmN ?_)
       gi_wp2
       refine ⟨trivial, ?_⟩
       gi_wp2
       refine ⟨trivial, ?_⟩
       gi_wp2
       exact ⟨⟨k + 1, by rw [hs', hs.out], by simp, by omega, hB.trans ((show Below wr.heap.size wr _ by (repeat' first | with_reducible (first | apply bz0 | assumption | apply bz1 | apply bz2 | apply bz3 | apply bz4 | apply bz5) | (simp <;> omega))).lower hB.size), hz.out⟩, by simp [intOf]; omega⟩
     · have hs := hidden hI.out
       simp only [if_true, Bool.false_eq_true, if_false] at hs
       clear hI
       replace hlo := hlo.symm
       replace hhi := hhi.symm
       gi_wp2
       (refine ⟨trivial, ?_⟩; ((with_reducible refine (callsIn_wide.2 (HNk.out _ ?hk)).mono ?_); (case hk => (repeat' first | with_reducible (first | apply bz0 | assumption | apply bz1 | apply bz2 | apply bz3 | apply bz4 | apply bz5) | (simp <;> omega))); rintro e w' ⟨rfl, z1, rfl⟩))
       gi_wp2
       (refine ⟨trivial, ?_⟩; ((with_reducible refine (callsIn_wide.2 (HHk.out _)).mono ?_); rintro e w' ⟨rfl, z2, rfl⟩))
       gi_wp2
       refine wpIn_wide.2 ?_
       (refine tmX (by kernel_rfl) (by kernel_rfl) ?_); (repeat (first | (refine tmS rfl ?_; simp only [Act.put, List.setIfInBounds_toArray, List.set_cons_succ, List.set_cons_zero]) | (refine tmP rfl rfl rfl (fun K hK => ?_); go_big_quiet_op; refine hK _ ?_; clear hK K) | (refine tmE rfl rfl (fun K hK => ?_); go_big_op; (first | fail | skip); (refine hK _ _ rfl (ext_of_below (by (repeat' first | with_reducible (first | apply bz0 | assumption | apply bz1 | apply bz2 | apply bz3 | apply bz4 | apply bz5) | (simp <;> omega)))) ?_; clear hK K)))); (refine tmN ?_)
       gi_wp2
       (refine ⟨trivial, ?_⟩; ((with_reducible refine (callsIn_wide.2 (HBk.out _)).mono ?_); rintro e w' ⟨rfl, z3, rfl⟩))
       gi_wp2
       all_goals first | (exfalso; exact undef_ne _ (by assumption)) | skip
       refine ⟨trivial, ?_⟩
       gi_wp2
       all_goals first | (exfalso; exact undef_ne _ (by assumption)) | skip
       exact ⟨⟨k + 1, by rw [hs', hs.out], by simp, by omega, hB.trans ((show Below wr.heap.size wr _ by (repeat' first | with_reducible (first | apply bz0 | assumption | apply bz1 | apply bz2 | apply bz3 | apply bz4 | apply bz5) | (simp <;> omega))).lower hB.size), hz.out⟩, by simp [intOf]; omega⟩
     · have hs := hidden hI.out
       simp only [if_true, Bool.false_eq_true, if_false] at hs
       clear hI
       replace hlo := hlo.symm
       replace hhi := hhi.symm
       gi_wp2
       (refine ⟨trivial, ?_⟩; ((with_reducible refine (callsIn_wide.2 (HNk.out _ ?hk)).mono ?_); (case hk => (repeat' first | with_reducible (first | apply bz0 | assumption | apply bz1 | apply bz2 | apply bz3 | apply bz4 | apply bz5) | (simp <;> omega))); rintro e w' ⟨rfl, z1, rfl⟩))
       gi_wp2
       (refine ⟨trivial, ?_⟩; ((with_reducible refine (callsIn_wide.2 (HHk.out _)).mono ?_); rintro e w' ⟨rfl, z2, rfl⟩))
       gi_wp2
       refine wpIn_wide.2 ?_
       (refine tmX (by kernel_rfl) (by kernel_rfl) ?_); (repeat (first | (refine tmS rfl ?_; simp only [Act.put, List.setIfInBounds_toArray, List.set_cons_succ, List.set_cons_zero]) | (refine tmP rfl rfl rfl (fun K hK => ?_); go_big_quiet_op; refine hK _ ?_; clear hK K) | (refine tmE rfl rfl (fun K hK => ?_); go_big_op; (first | fail | skip); (refine hK _ _ rfl (ext_of_below (by (repeat' first | with_reducible (first | apply bz0 | assumption | apply bz1 | apply bz2 | apply bz3 | apply bz4 | apply bz5) | (simp <;> omega)))) ?_; clear hK K)))); (refine tmN ?_)
       gi_wp2
       (refine ⟨trivial, ?_⟩; ((with_reducible refine (callsIn_wide.2 (HBk.out _)).mono ?_); rintro e w' ⟨rfl, z3, rfl⟩))
       gi_wp2
       refine ⟨trivial, ?_⟩
       gi_wp2
       exact ⟨⟨k + 1, by rw [hs', hs.out], by simp, by omega, hB.trans ((show Below wr.heap.size wr _ by (repeat' first | with_reducible (first | apply bz0 | assumption | apply bz1 | apply bz2 | apply bz3 | apply bz4 | apply bz5) | (simp <;> omega))).lower hB.size), hz.out⟩, by simp [intOf]; omega⟩
     · have hs := hidden hI.out
       simp only [if_true, Bool.false_eq_true, if_false] at hs
       clear hI
       replace hlo := hlo.symm
       replace hhi := hhi.symm
       gi_wp2
       (refine ⟨trivial, ?_⟩; ((with_reducible refine (callsIn_wide.2 (HNk.out _ ?hk)).mono ?_); (case hk => (repeat' first | with_reducible (first | apply bz0 | assumption | apply bz1 | apply bz2 | apply bz3 | apply bz4 | apply bz5) | (simp <;> omega))); rintro e w' ⟨rfl, z1, rfl⟩))
       gi_wp2
       (refine ⟨trivial, ?_⟩; ((with_reducible refine (callsIn_wide.2 (HHk.out _)).mono ?_); rintro e w' ⟨rfl, z2, rfl⟩))
       gi_wp2
       refine wpIn_wide.2 ?_
       (refine tmX (by kernel_rfl) (by kernel_rfl) ?_); (repeat (first | (refine tmS rfl ?_; simp only [Act.put, List.setIfInBounds_toArray, List.set_cons_succ, List.set_cons_zero]) | (refine tmP rfl rfl rfl (fun K hK => ?_); go_big_quiet_op; refine hK _ ?_; clear hK K) | (refine tmE rfl rfl (fun K hK => ?_); go_big_op; (first | fail | skip); (refine hK _ _ rfl (ext_of_below (by (repeat' first | with_reducible (first | apply bz0 | assumption | apply bz1 | apply bz2 | apply bz3 | apply bz4 | apply bz5) | (simp <;> omega)))) ?_; clear hK K)))); (refine tmN ?_)
       gi_wp2
       refine ⟨trivial, ?_⟩
       gi_wp2
       (refine ⟨trivial, ?_⟩; ((with_reducible refine (callsIn_wide.2 (HBk.out _)).mono ?_); rintro e w' ⟨rfl, z3, rfl⟩))
       gi_wp2
       exact ⟨⟨k + 1, by rw [hs', hs.out], by simp, by omega, hB.trans ((show Below wr.heap.size wr _ by (repeat' first | with_reducible (first | apply bz0 | assumption | apply bz1 | apply bz2 | apply bz3 | apply bz4 | apply bz5) | (simp <;> omega))).lower hB.size), hz.out⟩, by simp [intOf]; omega⟩
     · have hs := hidden hI.out
       simp only [if_true, Bool.false_eq_true, if_false] at hs
       clear hI
       replace hlo := hlo.symm
       replace hhi := hhi.symm
       gi_wp2
       (refine ⟨trivial, ?_⟩; ((with_reducible refine (callsIn_wide.2 (HNk.out _ ?hk)).mono ?_); (case hk => (repeat' first | with_reducible (first | apply bz0 | assumption | apply bz1 | apply bz2 | apply bz3 | apply bz4 | apply bz5) | (simp <;> omega))); rintro e w' ⟨rfl, z1, rfl⟩))
       gi_wp2
       (refine ⟨trivial, ?_⟩; ((with_reducible refine (callsIn_wide.2 (HHk.out _)).mono ?_); rintro e w' ⟨rfl, z2, rfl⟩))
       gi_wp2
       refine wpIn_wide.2 ?_
       (refine tmX (by kernel_rfl) (by kernel_rfl) ?_); (repeat (first | (refine tmS rfl ?_; simp only [Act.put, List.setIfInBounds_toArray, List.set_cons_succ, List.set_cons_zero]) | (refine tmP rfl rfl rfl (fun K hK => ?_); go_big_quiet_op; refine hK _ ?_; clear hK K) | (refine tmE rfl rfl (fun K hK => ?_); go_big_op; (first | fail | skip); (refine hK _ _ rfl (ext_of_below (by (repeat' first | with_reducible (first | apply bz0 | assumption | apply bz1 | apply bz2 | apply bz3 | apply bz4 | apply bz5) | (simp <;> omega)))) ?_; clear hK K)))); (refine tmN ?_)
       gi_wp2
       refine ⟨trivial, ?_⟩
       gi_wp2
       (refine ⟨trivial, ?_⟩; ((with_reducible refine (callsIn_wide.2 (HBk.out _)).mono ?_); rintro e w' ⟨rfl, z3, rfl⟩))
       gi_wp2
       exact ⟨⟨k + 1, by rw [hs', hs.out], by simp, by omega, hB.trans ((show Below wr.heap.size wr _ by (repeat' first | with_reducible (first | apply bz0 | assumption | apply bz1 | apply bz2 | apply bz3 | apply bz4 | apply bz5) | (simp <;> omega))).lower hB.size), hz.out⟩, by simp [intOf]; omega⟩
  · obtain rfl : k = H.cors.length := by omega
    have hz := hidden (inplB_end hno)
    clear HN HH HB HD
    generalize inpTo H px py d H.cors.length = s at *
    gi_wp2
    refine bodyPost_ret (v := .bool s) (by simp [results, Tryz.results114, go_sem]) rfl (retX (by rw [hz.out]) hBw)
end Go.Proofs.YtekieoamelahkaaGreat

/- The reference's IsInside. -/
namespace Go.Proofs.YtekieoamelahkaaGreat
open Go.RowKit Go.Shelf
attribute [local go_sem] Oper.semAt_some

set_option maxRecDepth 100000 in set_option maxHeartbeats 4000000 in
theorem refIsInside_any {w : World} {H : Hal} {v4 v5 v6 v7 v8 : Value} (hV : HalVs w v4 v5 v6 v7 v8 H) (hC : CorsIn H) (hL : LinesOk H) (hN : H.wals.length = H.cors.length) (hh : -5000 ≤ H.height ∧ H.height ≤ 5000)
 (px py pz d : Int) (hp : -1000000000000000 ≤ px ∧ px ≤ 1000000000000000) (hq : -1000000000000000 ≤ py ∧ py ≤ 1000000000000000) (hd : 0 ≤ d ∧ d ≤ 100000000000) :
 Calls Tryz.prog 54 #[halV H v4 v5 v6 v7 v8, .agg #[.int .i64 px, .int .i64 py, .int .i64 pz, .int .i64 d]] w (RetX w (.bool (betweenB H.height pz d && inplB H px py d))) := by
 have HI := hidden (fun (W : World) (hW : Below w.heap.size w W) => InPlan_any (hV.below hW) hC hL hN px py pz d hp hq hd)
 have m1 := mul_bd hh hd (by omega)
 have HB : Hid (betweenB H.height pz d = (decide (0 < pz) && decide (pz < H.height * d))) := rfl
 clear hC hL hp hq hN
 obtain ⟨_, g4, g5, g6, g7, g8⟩ := hV
 obtain ⟨A4, c4, rfl, _⟩ := slc_form g4
 obtain ⟨A5, c5, rfl, _⟩ := slc_form g5
 obtain ⟨A6, c6, rfl, _⟩ := slc_form g6
 obtain ⟨A7, c7, rfl, _⟩ := slc_form g7
 obtain ⟨A8, c8, rfl, _⟩ := slc_form g8
 clear g4 g5 g6 g7 g8
 unfold halV at *
 have e1 : IntKind.i64.wrap (H.height * d) = H.height * d := IntWalk.i64_in _ (by omega)
 rw [HB.out]
 clear HB
 generalize inplB H px py d = u at *
 cases p0 : decide (0 < pz) with
 | false =>
  go_enter Tryz.func54, Tryz.ntmps54
  go_wp2_with (go_at_call 114; refine (HI.out _ (by (repeat' first | with_reducible (first | apply bz0 | assumption | apply bz1 | apply bz2 | apply bz3 | apply bz4 | apply bz5) | (simp <;> omega)))).mono ?_; rintro e w' ⟨rfl, x1, rfl⟩)
  go_ret
  refine retX_bool (by simp) ?_
  (repeat' first | with_reducible (first | apply bz0 | assumption | apply bz1 | apply bz2 | apply bz3 | apply bz4 | apply bz5) | (simp <;> omega))
 | true =>
  cases p1 : decide (pz < H.height * d) with
  | false =>
   go_enter Tryz.func54, Tryz.ntmps54
   go_wp2_with (go_at_call 114; refine (HI.out _ (by (repeat' first | with_reducible (first | apply bz0 | assumption | apply bz1 | apply bz2 | apply bz3 | apply bz4 | apply bz5) | (simp <;> omega)))).mono ?_; rintro e w' ⟨rfl, x1, rfl⟩)
   go_ret
   refine retX_bool (by simp) ?_
   (repeat' first | with_reducible (first | apply bz0 | assumption | apply bz1 | apply bz2 | apply bz3 | apply bz4 | apply bz5) | (simp <;> omega))
  | true =>
   go_enter Tryz.func54, Tryz.ntmps54
   go_wp2_with (go_at_call 114; refine (HI.out _ (by (repeat' first | with_reducible (first | apply bz0 | assumption | apply bz1 | apply bz2 | apply bz3 | apply bz4 | apply bz5) | (simp <;> omega)))).mono ?_; rintro e w' ⟨rfl, x1, rfl⟩)
   go_ret
   refine retX_bool (by simp) ?_
   (repeat' first | with_reducible (first | apply bz0 | assumption | apply bz1 | apply bz2 | apply bz3 | apply bz4 | apply bz5) | (simp <;> omega))
end Go.Proofs.YtekieoamelahkaaGreat

/- awake of shoeboxlaw01: the six examples. -/
namespace Go.Proofs.YtekieoamelahkaaGreat
open Go.RowKit Go.Shelf
attribute [local go_sem] Oper.semAt_some

theorem ints_one {x : Int} {W : World} {g c g' c' : Nat} (h : W.cell? ⟨g, 0, none⟩ = some (.int .i64 x)) (h' : W.cell? ⟨g', 0, none⟩ = some (.int .i64 x)) :
 Calls Tryz.prog 66 #[.slice (some ⟨g, 0, none⟩) 1 c, .slice (some ⟨g', 0, none⟩) 1 c'] W (RetX W (.bool true)) := by
 have := Ints_any [x] [x] (some ⟨g, 0, none⟩) (some ⟨g', 0, none⟩) c c' W (slc_one h) (slc_one h')
 rw [decide_eq_true rfl] at this
 exact this
set_option maxRecDepth 100000 in set_option maxHeartbeats 4000000 in
theorem awake_true (w : World) : Calls Tryz.prog 15 #[] w (RetX w (.bool true)) := by
 have HB := hidden law_Box
 have HL := hidden law_Low
 have HA := hidden law_at
 refine (callsIn_wide (n := 10)).1 ?_
 refine callsIn_of_wp Tryz.func15 rfl trivial ?_ rfl
 simp only [Tryz.ntmps15, nt, Nat.reduceAdd, Nat.reduceSub]
 gi_wp2
 (refine ⟨trivial, ?_⟩; ((with_reducible refine (callsIn_wide.2 (HB.out _)).mono ?_); rintro e w' ⟨hB, v4, v5, v6, v7, v8, rfl, hV⟩))
 obtain ⟨x1, rfl⟩ := ext_of_below hB
 gi_wp2
 (refine ⟨trivial, ?_⟩; ((with_reducible refine (callsIn_wide.2 (box_TwiceArea hV)).mono ?_); rintro e w' ⟨rfl, x2, rfl⟩))
 gi_wp2
 generalize hW : World.ext _ x2 = W1
 have B1 : Below w.heap.size w W1 := by rw [← hW]; (repeat' first | with_reducible (first | apply bz0 | assumption | apply bz1 | apply bz2 | apply bz3 | apply bz4 | apply bz5) | (simp <;> omega))
 have l1 := B1.size
 clear hW hV hB
 (refine ⟨trivial, ?_⟩; ((with_reducible refine (callsIn_wide.2 (HB.out _)).mono ?_); rintro e w' ⟨hB, v4, v5, v6, v7, v8, rfl, hV⟩))
 obtain ⟨x3, rfl⟩ := ext_of_below hB
 gi_wp2
 (refine ⟨trivial, ?_⟩; ((with_reducible refine (callsIn_wide.2 (box_AbsorptionArea (hV.below ?hk) (slc1 ?h9) (slc1 ?h10))).mono ?_); (case hk => (repeat' first | with_reducible (first | apply bz0 | assumption | apply bz1 | apply bz2 | apply bz3 | apply bz4 | apply bz5) | (simp <;> omega))); (case h9 => simp [go_sem]); (case h10 => simp [go_sem]); rintro e w' ⟨rfl, x4, rfl⟩))
 gi_wp2
 generalize hW : World.alloc _ (Obj.cells #[Value.int IntKind.i64 1288000, Value.int IntKind.i64 1288000] _) = W2
 generalize hP : W1.heap.size + x3.heap.size + 1 + 1 + x4.heap.size = Pa
 have a0 : W2.cell? ⟨Pa, 0, none⟩ = some (.int .i64 1288000) := by rw [← hW, ← hP]; simp [go_sem]
 have a1 : W2.cell? ⟨Pa, 1, none⟩ = some (.int .i64 1288000) := by rw [← hW, ← hP]; simp [go_sem]
 have C2 : Below W1.heap.size W1 W2 := by rw [← hW]; (repeat' first | with_reducible (first | apply bz0 | assumption | apply bz1 | apply bz2 | apply bz3 | apply bz4 | apply bz5) | (simp <;> omega))
 have B2 : Below w.heap.size w W2 := B1.trans (C2.lower l1)
 have l2 := B2.size
 clear hW hP hV hB B1 C2
 (refine ⟨trivial, ?_⟩; ((with_reducible refine (callsIn_wide.2 (box_MirrorIn _)).mono ?_); rintro e w' ⟨rfl, x5, rfl⟩))
 gi_wp2
 generalize hW : World.alloc _ _ = W3
 generalize hP : W2.heap.size + x5.heap.size = Pm
 have m0 : W3.cell? ⟨Pm, 0, none⟩ = some (.int .i64 200) := by rw [← hW, ← hP]; simp [go_sem]
 have m1 : W3.cell? ⟨Pm, 1, none⟩ = some (.int .i64 (-200)) := by rw [← hW, ← hP]; simp [go_sem]
 have m2 : W3.cell? ⟨Pm, 2, none⟩ = some (.int .i64 5) := by rw [← hW, ← hP]; simp [go_sem]
 have C3 : Below W2.heap.size W2 W3 := by rw [← hW]; (repeat' first | with_reducible (first | apply bz0 | assumption | apply bz1 | apply bz2 | apply bz3 | apply bz4 | apply bz5) | (simp <;> omega))
 replace a0 := cell_below C3 (has_of_cell a0) a0
 replace a1 := cell_below C3 (has_of_cell a1) a1
 have B3 : Below w.heap.size w W3 := B2.trans (C3.lower l2)
 have l3 := B3.size
 clear hW hP B2 C3
 (refine ⟨trivial, ?_⟩; ((with_reducible refine (callsIn_wide.2 (HB.out _)).mono ?_); rintro e w' ⟨hB, v4, v5, v6, v7, v8, rfl, hV⟩))
 obtain ⟨x6, rfl⟩ := ext_of_below hB
 gi_wp2
 (refine ⟨trivial, ?_⟩; ((with_reducible refine (callsIn_wide.2 (HL.out _)).mono ?_); rintro e w' ⟨hL, v9, v10, rfl, h9, h10⟩))
 obtain ⟨x7, rfl⟩ := ext_of_below hL
 gi_wp2
 (refine ⟨trivial, ?_⟩; ((with_reducible refine (callsIn_wide.2 (HA.out _ _ _ _)).mono ?_); rintro e w' ⟨rfl, x8, rfl⟩))
 gi_wp2
 (refine ⟨trivial, ?_⟩; ((with_reducible refine (callsIn_wide.2 (HA.out _ _ _ _)).mono ?_); rintro e w' ⟨rfl, x9, rfl⟩))
 gi_wp2
 (refine ⟨trivial, ?_⟩; ((with_reducible refine (callsIn_wide.2 (box_IsFree (hV.below ?k1) (h9.below ?k2) (h10.below ?k3))).mono ?_); (case k1 => (repeat' first | with_reducible (first | apply bz0 | assumption | apply bz1 | apply bz2 | apply bz3 | apply bz4 | apply bz5) | (simp <;> omega))); (case k2 => (repeat' first | with_reducible (first | apply bz0 | assumption | apply bz1 | apply bz2 | apply bz3 | apply bz4 | apply bz5) | (simp <;> omega))); (case k3 => (repeat' first | with_reducible (first | apply bz0 | assumption | apply bz1 | apply bz2 | apply bz3 | apply bz4 | apply bz5) | (simp <;> omega))); rintro e w' ⟨rfl, x10, rfl⟩))
 gi_wp2
 generalize hW : World.ext _ x10 = W4
 have C4 : Below W3.heap.size W3 W4 := by rw [← hW]; (repeat' first | with_reducible (first | apply bz0 | assumption | apply bz1 | apply bz2 | apply bz3 | apply bz4 | apply bz5) | (simp <;> omega))
 replace a0 := cell_below C4 (has_of_cell a0) a0
 replace a1 := cell_below C4 (has_of_cell a1) a1
 replace m0 := cell_below C4 (has_of_cell m0) m0
 replace m1 := cell_below C4 (has_of_cell m1) m1
 replace m2 := cell_below C4 (has_of_cell m2) m2
 have B4 : Below w.heap.size w W4 := B3.trans (C4.lower l3)
 have l4 := B4.size
 clear hW hV hB hL h9 h10 B3 C4
 (refine ⟨trivial, ?_⟩; ((with_reducible refine (callsIn_wide.2 (HB.out _)).mono ?_); rintro e w' ⟨hB, v4, v5, v6, v7, v8, rfl, hV⟩))
 obtain ⟨x11, rfl⟩ := ext_of_below hB
 gi_wp2
 (refine ⟨trivial, ?_⟩; ((with_reducible refine (callsIn_wide.2 (HL.out _)).mono ?_); rintro e w' ⟨hL, v9, v10, rfl, h9, h10⟩))
 obtain ⟨x12, rfl⟩ := ext_of_below hL
 gi_wp2
 (refine ⟨trivial, ?_⟩; ((with_reducible refine (callsIn_wide.2 (HA.out _ _ _ _)).mono ?_); rintro e w' ⟨rfl, x13, rfl⟩))
 gi_wp2
 (refine ⟨trivial, ?_⟩; ((with_reducible refine (callsIn_wide.2 (box_CrossAt (hV.below ?k4) (h9.below ?k5) (h10.below ?k6))).mono ?_); (case k4 => (repeat' first | with_reducible (first | apply bz0 | assumption | apply bz1 | apply bz2 | apply bz3 | apply bz4 | apply bz5) | (simp <;> omega))); (case k5 => (repeat' first | with_reducible (first | apply bz0 | assumption | apply bz1 | apply bz2 | apply bz3 | apply bz4 | apply bz5) | (simp <;> omega))); (case k6 => (repeat' first | with_reducible (first | apply bz0 | assumption | apply bz1 | apply bz2 | apply bz3 | apply bz4 | apply bz5) | (simp <;> omega))); rintro e w' ⟨rfl, x14, rfl⟩))
 gi_wp2
 generalize hW : World.alloc _ _ = W5
 generalize hP : W4.heap.size + x11.heap.size + x12.heap.size + x13.heap.size + x14.heap.size = Pp
 have p0 : W5.cell? ⟨Pp, 0, none⟩ = some (.int .i64 1000) := by rw [← hW, ← hP]; simp [go_sem]
 have p1 : W5.cell? ⟨Pp, 1, none⟩ = some (.int .i64 450) := by rw [← hW, ← hP]; simp [go_sem]
 have p2 : W5.cell? ⟨Pp, 2, none⟩ = some (.int .i64 100) := by rw [← hW, ← hP]; simp [go_sem]
 have p3 : W5.cell? ⟨Pp, 3, none⟩ = some (.int .i64 1) := by rw [← hW, ← hP]; simp [go_sem]
 have C5 : Below W4.heap.size W4 W5 := by rw [← hW]; (repeat' first | with_reducible (first | apply bz0 | assumption | apply bz1 | apply bz2 | apply bz3 | apply bz4 | apply bz5) | (simp <;> omega))
 replace a0 := cell_below C5 (has_of_cell a0) a0
 replace a1 := cell_below C5 (has_of_cell a1) a1
 replace m0 := cell_below C5 (has_of_cell m0) m0
 replace m1 := cell_below C5 (has_of_cell m1) m1
 replace m2 := cell_below C5 (has_of_cell m2) m2
 have B5 : Below w.heap.size w W5 := B4.trans (C5.lower l4)
 have l5 := B5.size
 clear hW hP hV hB hL h9 h10 B4 C5
 (refine ⟨trivial, ?_⟩; ((with_reducible refine (callsIn_wide.2 (HB.out _)).mono ?_); rintro e w' ⟨hB, v4, v5, v6, v7, v8, rfl, hV⟩))
 obtain ⟨x15, rfl⟩ := ext_of_below hB
 gi_wp2
 (refine ⟨trivial, ?_⟩; ((with_reducible refine (callsIn_wide.2 (box_SettingAt hV)).mono ?_); rintro e w' ⟨hB, g1, c1, g3, c3, rfl, _, _, s2, s3⟩))
 obtain ⟨x16, rfl⟩ := ext_of_below hB
 gi_wp2
 generalize hW : World.alloc _ _ = W6
 generalize hP : W5.heap.size + x15.heap.size + x16.heap.size = Ps
 have s0 : W6.cell? ⟨Ps, 0, none⟩ = some (.slice (some ⟨g1, 0, none⟩) 1 c1) := by rw [← hW, ← hP]; simp [go_sem]
 have s1 : W6.cell? ⟨Ps, 1, none⟩ = some (.slice (some ⟨g3, 0, none⟩) 1 c3) := by rw [← hW, ← hP]; simp [go_sem]
 have C6 : Below W5.heap.size W5 W6 := by rw [← hW]; (repeat' first | with_reducible (first | apply bz0 | assumption | apply bz1 | apply bz2 | apply bz3 | apply bz4 | apply bz5) | (simp <;> omega))
 have D6 : Below ((W5.ext x15).ext x16).heap.size ((W5.ext x15).ext x16) W6 := by rw [← hW]; (repeat' first | with_reducible (first | apply bz0 | assumption | apply bz1 | apply bz2 | apply bz3 | apply bz4 | apply bz5) | (simp <;> omega))
 replace a0 := cell_below C6 (has_of_cell a0) a0
 replace a1 := cell_below C6 (has_of_cell a1) a1
 replace m0 := cell_below C6 (has_of_cell m0) m0
 replace m1 := cell_below C6 (has_of_cell m1) m1
 replace m2 := cell_below C6 (has_of_cell m2) m2
 replace p0 := cell_below C6 (has_of_cell p0) p0
 replace p1 := cell_below C6 (has_of_cell p1) p1
 replace p2 := cell_below C6 (has_of_cell p2) p2
 replace p3 := cell_below C6 (has_of_cell p3) p3
 replace s2 := cell_below D6 (has_of_cell s2) s2
 replace s3 := cell_below D6 (has_of_cell s3) s3
 have B6 : Below w.heap.size w W6 := B5.trans (C6.lower l5)
 have l6 := B6.size
 clear hW hP hV hB B5 C6 D6
 have f1 := has_of_cell a0
 have f2 := has_of_cell m0
 have f3 := has_of_cell p0
 have f4 := has_of_cell s0
 have f5 := has_of_cell s2
 have f6 := has_of_cell s3
 refine wpIn_wide.2 ?_
 (refine tmX (by kernel_rfl) (by kernel_rfl) ?_); (repeat (first | (refine tmS rfl ?_; simp only [Act.put, List.setIfInBounds_toArray, List.set_cons_succ, List.set_cons_zero]) | (refine tmP rfl rfl rfl (fun K hK => ?_); go_big_quiet_op; refine hK _ ?_; clear hK K) | (refine tmE rfl rfl (fun K hK => ?_); go_big_op; (first | (go_at_call 65; refine (HA.out _ _ _ _).mono ?_; rintro e w' ⟨rfl, x17, rfl⟩) | (go_at_call 66; first | (refine (ints_one (x := 0) (by simp [go_sem, s2, f5]) (by simp [go_sem])).mono ?_; rintro e w' ⟨rfl, x18, rfl⟩) | (refine (ints_one (x := 1) (by simp [go_sem, s3, f6]) (by simp [go_sem])).mono ?_; rintro e w' ⟨rfl, x19, rfl⟩)) | skip); (refine hK _ _ rfl (ext_of_below (by (repeat' first | with_reducible (first | apply bz0 | assumption | apply bz1 | apply bz2 | apply bz3 | apply bz4 | apply bz5) | (simp <;> omega)))) ?_; clear hK K)))); (refine tmN ?_)
 gi_wp2
 refine bodyPost_ret (v := .bool true) (by simp [results, Tryz.results15, go_sem]) rfl (retX rfl (B6.trans ((show Below W6.heap.size W6 _ by (repeat' first | with_reducible (first | apply bz0 | assumption | apply bz1 | apply bz2 | apply bz3 | apply bz4 | apply bz5) | (simp <;> omega))).lower l6)))
end Go.Proofs.YtekieoamelahkaaGreat
