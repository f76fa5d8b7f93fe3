/- The function of checkSeats; checkSeats. -/
import Derived.Test.YtbonjgeglhbhnaaGreatM26
import Derived.Test.YtbonjgeglhbhnaaGreatM22
set_option linter.unusedVariables false
set_option linter.unusedSimpArgs false
namespace Go.Proofs.YtbonjgeglhbhnaaGreat
open Go.RowKit Go.Shelf
attribute [local go_sem] Oper.semAt_some

def seaNames (H : Hal) (i : Nat) : List ByteArray := (H.seas.take i).map (·.name)
def seaE (H : Hal) (i : Nat) : Int :=
  if nameB (seaAt H.seas i).name = false then 4 else if hasName (seaNames H i) (seaAt H.seas i).name = true then 5 else insideE H (seaAt H.seas i).x (seaAt H.seas i).y (seaAt H.seas i).z
theorem seaNames_succ {H : Hal} {i : Nat} (h : i < H.seas.length) : seaNames H (i + 1) = seaNames H i ++ [(seaAt H.seas i).name] := by
  unfold seaNames seaAt
  rw [List.take_add_one, List.getElem?_eq_getElem h, List.map_append]
  rfl
theorem sea_sized {H : Hal} (hs : H.Sized) (i : Nat) (hi : i < H.seas.length) : (seaAt H.seas i).name.size ≤ 1000000 := by
  have : seaAt H.seas i = H.seas[i] := by unfold seaAt; rw [List.getElem?_eq_getElem hi]; rfl
  rw [this]
  exact hs.seas _ (List.getElem_mem hi)

set_option maxRecDepth 100000 in set_option maxHeartbeats 1000000 in
theorem seats1 {w : World} {b c M F T : Nat} {H : Hal} {ms fs : List ByteArray} (hS : SurAt w b H M F T) (hC : CorsIn H) (hNn : H.cors.length ≤ 20) (hh : -5000 ≤ H.height ∧ H.height ≤ 5000) (hc : w.cell? ⟨c, 0, none⟩ = some (.pointer (some ⟨b, 0, none⟩))) (i : Nat) (hi : i < H.seas.length) (hN : Names w M F T ms fs (seaNames H i)) :
    Calls Tryz.prog 167 #[.int .i64 i, .pointer (some ⟨c, 0, none⟩)] w (fun e w' => e = .returned (.int .i64 (seaE H i)) ∧ Touch [M, F, T] w w' ∧ (seaE H i = 0 → Names w' M F T ms fs (seaNames H (i + 1)))) := by
  have HE : Hid (seaE H i = if nameB (seaAt H.seas i).name = false then 4 else if hasName (seaNames H i) (seaAt H.seas i).name = true then 5 else insideE H (seaAt H.seas i).x (seaAt H.seas i).y (seaAt H.seas i).z) := rfl
  have HS := hidden (seaNames_succ hi)
  have HI := hidden (fun (W : World) (hW : Kept w W) => checkInside_room (hS.kept hW).room hC hNn hh (seaAt H.seas i).x (seaAt H.seas i).y (seaAt H.seas i).z)
  obtain ⟨⟨v4, v5, v6, v7, v8, v9, v10, hR⟩, _, _, hm⟩ := hS
  obtain ⟨A, c4, rfl, hS4⟩ := slc_form hR.hal.seas
  obtain ⟨g, o, rfl, hg, hcs⟩ := sea_at hS4 hi
  have HN := hidden (fun W => isName_any (seaAt H.seas i).name (sea_sized hR.hal.sized i hi) W)
  have l4 := hS4.1
  obtain ⟨k0, k1, k2, k3⟩ := hcs i hi
  have h8 := hR.c8
  have hb := hR.has
  have hM := hN.t
  have hMh : w.Has T := hM.has
  have hch := has_of_cell hc
  have nb := hM.ne h8
  have nc := hM.ne hc
  have ns : w.heap.size ≠ T := fun e => absurd hMh (by rw [← e]; exact Nat.lt_irrefl _)
  clear hR hS4 hcs
  have HL := look_set (b := T) (ns := seaNames H i)
  have HT := hidden (hN.touch (w' := w) (Below.refl _ _))
  generalize seaE H i = E at *
  generalize insideE H (seaAt H.seas i).x (seaAt H.seas i).y (seaAt H.seas i).z = I at *
  generalize seaNames H (i + 1) = ts' at *
  generalize seaNames H i = ts at *
  generalize seaAt H.seas i = m at *
  generalize H.seas.length = n at *
  obtain ⟨nm, x, y, z⟩ := m
  simp only at *
  refine (callsIn_wide (n := 10)).1 ?_
  refine callsIn_of_wp Tryz.func167 rfl trivial ?_ rfl
  simp only [Tryz.ntmps167, List.size_toArray, List.length_cons, List.length_nil, Nat.reduceAdd, Nat.reduceSub, Array.replicate_succ, Array.replicate_zero, List.push_toArray, List.append_toArray, List.nil_append, List.cons_append]
  cases q0 : nameB nm with
  | false =>
    rw [q0] at HE HN
    have hE := HE.out
    rw [if_pos rfl] at hE
    subst hE
    clear HE
    gi_wp2
    (refine ⟨trivial, ?_⟩; ((with_reducible refine (callsIn_wide.2 (HN.out _)).mono ?_); rintro e w' ⟨rfl, x1, rfl⟩))
    gi_wp2
    refine bodyPost_ret (v := .int .i64 4) (by simp [results, Tryz.results167, go_sem]) rfl ⟨rfl, HT.out.step (by (repeat' (first | (with_reducible exact Below.refl _ _) | (with_reducible assumption) | (with_reducible refine Below.drew ?_) | (with_reducible refine Below.drewNStep ?_ _) | (with_reducible refine Below.alloc ?_ ?_ _) | (with_reducible refine Below.setCell ?_ ?_ _) | (with_reducible refine Below.extStep ?_ ?_ _) | (simp; done) | (simp; omega)))), fun h => absurd h (by decide)⟩
  | true =>
    rw [q0] at HE HN
    cases q1 : hasName ts nm with
    | true =>
      have hE := HE.out
      rw [if_neg (by decide), q1, if_pos rfl] at hE
      subst hE
      clear HE
      gi_wp2
      (refine ⟨trivial, ?_⟩; ((with_reducible refine (callsIn_wide.2 (HN.out _)).mono ?_); rintro e w' ⟨rfl, x1, rfl⟩))
      gi_wp2
      refine wpIn_wide.2 ?_
      (refine wp_region_tameX (by kernel_rfl) (by kernel_rfl) ?_); (repeat (first | (refine wpTame_skip rfl ?_; simp only [Act.put, List.setIfInBounds_toArray, List.set_cons_succ, List.set_cons_zero]) | (refine wpTame_pure rfl rfl rfl (fun K hK => ?_); go_big_quiet_op; refine hK _ ?_; clear hK K) | (refine wpTame_eff rfl rfl (fun K hK => ?_); go_big_op; (first | fail | skip); (refine hK _ _ rfl (ext_of_below (by (repeat' (first | (with_reducible exact Below.refl _ _) | (with_reducible assumption) | (with_reducible refine Below.drew ?_) | (with_reducible refine Below.drewNStep ?_ _) | (with_reducible refine Below.alloc ?_ ?_ _) | (with_reducible refine Below.setCell ?_ ?_ _) | (with_reducible refine Below.extStep ?_ ?_ _) | (simp; done) | (simp; omega))))) ?_; clear hK K)))); (refine wpTame_nil ?_)
      gi_wp2
      refine bodyPost_ret (v := .int .i64 5) (by simp [results, Tryz.results167, go_sem]) rfl ⟨rfl, HT.out.step (by (repeat' (first | (with_reducible exact Below.refl _ _) | (with_reducible assumption) | (with_reducible refine Below.drew ?_) | (with_reducible refine Below.drewNStep ?_ _) | (with_reducible refine Below.alloc ?_ ?_ _) | (with_reducible refine Below.setCell ?_ ?_ _) | (with_reducible refine Below.extStep ?_ ?_ _) | (simp; done) | (simp; omega)))), fun h => absurd h (by decide)⟩
    | false =>
      have HP : ∀ o x, (Instr.mapUpdate 179 (.map (some T)) (.string nm) (.bool true)).run Tryz.prog (((w.alloc o).ext x).drew.drew) = .ok () ((((w.alloc o).ext x).drew.drew).putObj T (putMap (((w.alloc o).ext x).drew.drew) T nm)) := fun o x => put_set _ (by simp [hM, hMh]) nm q1
      gi_wp2
      (refine ⟨trivial, ?_⟩; ((with_reducible refine (callsIn_wide.2 (HN.out _)).mono ?_); rintro e w' ⟨rfl, x1, rfl⟩))
      gi_wp2
      refine wpIn_wide.2 ?_
      (refine wp_region_tameX (by kernel_rfl) (by kernel_rfl) ?_); (repeat (first | (refine wpTame_skip rfl ?_; simp only [Act.put, List.setIfInBounds_toArray, List.set_cons_succ, List.set_cons_zero]) | (refine wpTame_pure rfl rfl rfl (fun K hK => ?_); go_big_quiet_op; refine hK _ ?_; clear hK K) | (refine wpTame_eff rfl rfl (fun K hK => ?_); go_big_op; (first | fail | skip); (refine hK _ _ rfl (ext_of_below (by (repeat' (first | (with_reducible exact Below.refl _ _) | (with_reducible assumption) | (with_reducible refine Below.drew ?_) | (with_reducible refine Below.drewNStep ?_ _) | (with_reducible refine Below.alloc ?_ ?_ _) | (with_reducible refine Below.setCell ?_ ?_ _) | (with_reducible refine Below.extStep ?_ ?_ _) | (simp; done) | (simp; omega))))) ?_; clear hK K)))); (refine wpTame_nil ?_)
      gi_wp2
      refine wpIn_wide.2 ?_
      (refine wp_region_tameH (T) (by kernel_rfl) (by kernel_rfl) ?_); (repeat (first | (refine wpTame_skip rfl ?_; simp only [Act.put, List.setIfInBounds_toArray, List.set_cons_succ, List.set_cons_zero]) | (refine wpTame_pure rfl rfl rfl (fun K hK => ?_); go_big_quiet_op; refine hK _ ?_; clear hK K) | (refine wpTame_eff rfl rfl (fun K hK => ?_); go_big_op; (first | fail | skip); (refine hK _ _ rfl (hole_of (by (repeat' (first | (with_reducible exact HoleRel.refl _ _ _) | (with_reducible assumption) | (with_reducible refine HoleRel.swap ?_ _ _) | (with_reducible refine HoleRel.drew ?_) | (with_reducible refine HoleRel.drewN ?_ _) | (with_reducible refine HoleRel.setCell ?_ ?_ _) | (with_reducible refine HoleRel.putObj ?_ ?_ _) | (with_reducible refine HoleRel.alloc ?_ ?_ _) | (with_reducible refine HoleRel.ext ?_ ?_ _) | (exact Or.inl rfl) | (simp; done) | (simp; omega))))) ?_; clear hK K)))); (refine wpTame_nil ?_)
      generalize hX : World.putObj _ _ _ = X
      have TX : Touch [M, F, T] w X := by rw [← hX]; exact (HT.out.step (by (repeat' (first | (with_reducible exact Below.refl _ _) | (with_reducible assumption) | (with_reducible refine Below.drew ?_) | (with_reducible refine Below.drewNStep ?_ _) | (with_reducible refine Below.alloc ?_ ?_ _) | (with_reducible refine Below.setCell ?_ ?_ _) | (with_reducible refine Below.extStep ?_ ?_ _) | (simp; done) | (simp; omega))))).trans (Names.touchPut (hN.below (by (repeat' (first | (with_reducible exact Below.refl _ _) | (with_reducible assumption) | (with_reducible refine Below.drew ?_) | (with_reducible refine Below.drewNStep ?_ _) | (with_reducible refine Below.alloc ?_ ?_ _) | (with_reducible refine Below.setCell ?_ ?_ _) | (with_reducible refine Below.extStep ?_ ?_ _) | (simp; done) | (simp; omega))))) (by simp) nm)
      have NX : Names X M F T ms fs (ts ++ [nm]) := by rw [← hX]; exact (hN.below (by (repeat' (first | (with_reducible exact Below.refl _ _) | (with_reducible assumption) | (with_reducible refine Below.drew ?_) | (with_reducible refine Below.drewNStep ?_ _) | (with_reducible refine Below.alloc ?_ ?_ _) | (with_reducible refine Below.setCell ?_ ?_ _) | (with_reducible refine Below.extStep ?_ ?_ _) | (simp; done) | (simp; omega))))).addT nm
      have z1 : X.cell? ⟨w.heap.size, 1, none⟩ = some (.int .i64 x) := by rw [← hX]; exact cell_put ns (by simp [go_sem])
      have z2 : X.cell? ⟨w.heap.size, 2, none⟩ = some (.int .i64 y) := by rw [← hX]; exact cell_put ns (by simp [go_sem])
      have z3 : X.cell? ⟨w.heap.size, 3, none⟩ = some (.int .i64 z) := by rw [← hX]; exact cell_put ns (by simp [go_sem])
      replace hc := TX.kept.cell hc
      have hb' := TX.kept.has hb
      have hEI : E = I := by rw [HE.out, if_neg (by decide), q1, if_neg (by decide)]
      subst hEI
      clear hX HP HL HN hM hMh nb nc h8 k0 k1 k2 k3 hm HE
      have gz := has_of_cell z1
      have hch' := has_of_cell hc
      gi_wp2
      refine wpIn_wide.2 ?_
      (refine wp_region_tameX (by kernel_rfl) (by kernel_rfl) ?_); (repeat (first | (refine wpTame_skip rfl ?_; simp only [Act.put, List.setIfInBounds_toArray, List.set_cons_succ, List.set_cons_zero]) | (refine wpTame_pure rfl rfl rfl (fun K hK => ?_); go_big_quiet_op; refine hK _ ?_; clear hK K) | (refine wpTame_eff rfl rfl (fun K hK => ?_); go_big_op; (first | (go_at_call 168; refine (HI.out _ (TX.kept.trans (Kept.of_below (by (repeat' (first | (with_reducible exact Below.refl _ _) | (with_reducible assumption) | (with_reducible refine Below.drew ?_) | (with_reducible refine Below.drewNStep ?_ _) | (with_reducible refine Below.alloc ?_ ?_ _) | (with_reducible refine Below.setCell ?_ ?_ _) | (with_reducible refine Below.extStep ?_ ?_ _) | (simp; done) | (simp; omega))))))).mono ?_; rintro e w' ⟨rfl, x1, rfl⟩) | skip); (refine hK _ _ rfl (ext_of_below (by (repeat' (first | (with_reducible exact Below.refl _ _) | (with_reducible assumption) | (with_reducible refine Below.drew ?_) | (with_reducible refine Below.drewNStep ?_ _) | (with_reducible refine Below.alloc ?_ ?_ _) | (with_reducible refine Below.setCell ?_ ?_ _) | (with_reducible refine Below.extStep ?_ ?_ _) | (simp; done) | (simp; omega))))) ?_; clear hK K)))); (refine wpTame_nil ?_)
      gi_wp2
      refine bodyPost_ret (v := .int .i64 E) (by simp [results, Tryz.results167, go_sem]) rfl ⟨rfl, TX.trans (NX.touch (by (repeat' (first | (with_reducible exact Below.refl _ _) | (with_reducible assumption) | (with_reducible refine Below.drew ?_) | (with_reducible refine Below.drewNStep ?_ _) | (with_reducible refine Below.alloc ?_ ?_ _) | (with_reducible refine Below.setCell ?_ ?_ _) | (with_reducible refine Below.extStep ?_ ?_ _) | (simp; done) | (simp; omega))))), fun _ => by rw [HS.out]; exact NX.below (by (repeat' (first | (with_reducible exact Below.refl _ _) | (with_reducible assumption) | (with_reducible refine Below.drew ?_) | (with_reducible refine Below.drewNStep ?_ _) | (with_reducible refine Below.alloc ?_ ?_ _) | (with_reducible refine Below.setCell ?_ ?_ _) | (with_reducible refine Below.extStep ?_ ?_ _) | (simp; done) | (simp; omega))))⟩

def seatsV (H : Hal) : Value := if 40 < H.seas.length then .agg #[.int .i64 0, .int .i64 0, .int .i64 8] else oneV 5 (seaE H) H.seas.length
def seatsOk (H : Hal) : Bool := !decide (40 < H.seas.length) && (firstBad (seaE H) H.seas.length).isNone
set_option maxRecDepth 100000 in set_option maxHeartbeats 1000000 in
theorem checkSeats_sur {w : World} {b M F T : Nat} {H : Hal} {ms fs : List ByteArray} (hS : SurAt w b H M F T) (hC : CorsIn H) (hNn : H.cors.length ≤ 20) (hh : -5000 ≤ H.height ∧ H.height ≤ 5000) (hN : Names w M F T ms fs []) :
    Calls Tryz.prog 137 #[.pointer (some ⟨b, 0, none⟩)] w (fun e w' => e = .returned (seatsV H) ∧ Touch [M, F, T] w w' ∧ (seatsOk H = true → Names w' M F T ms fs (H.seas.map (·.name)))) := by
  have HV : Hid (seatsV H = if 40 < H.seas.length then .agg #[.int .i64 0, .int .i64 0, .int .i64 8] else oneV 5 (seaE H) H.seas.length) := rfl
  have HO : Hid (seatsOk H = (!decide (40 < H.seas.length) && (firstBad (seaE H) H.seas.length).isNone)) := rfl
  have hn0 : Names w M F T ms fs (seaNames H 0) := hN
  have hnn : seaNames H H.seas.length = H.seas.map (·.name) := by simp [seaNames]
  have HC := hidden (fun (W : World) (c : Nat) (hW : Below w.heap.size w W) (hc : W.cell? ⟨c, 0, none⟩ = some (.pointer (some ⟨b, 0, none⟩))) =>
    oneByOne_any 167 (.pointer (some ⟨c, 0, none⟩)) (enters_of Tryz.func167 (by kernel_rfl) rfl) 5 H.seas.length (by obtain ⟨⟨_, _, _, _, _, _, _, hR⟩, _⟩ := hS; exact hR.hal.seas.1) (seaE H) [M, F, T] (fun k V => Names V M F T ms fs (seaNames H k)) W
      (hn0.below hW).maps (fun k V V' hb h => h.belowD hb (hn0.below hW).m.has (hn0.below hW).f.has (hn0.below hW).t.has)
      (fun k V hk ht hn => seats1 ((hS.below hW).kept ht.kept) hC hNn hh (ht.kept.cell hc) k hk hn) (hn0.below hW))
  obtain ⟨⟨v4, v5, v6, v7, v8, v9, v10, hR⟩, hm, _, _⟩ := hS
  obtain ⟨A, c4, rfl, hS4⟩ := slc_form hR.hal.seas
  have h8 := hR.c8
  have hb := hR.has
  have l4 := hS4.1
  clear hR hS4
  rw [← hnn]
  clear hnn
  generalize seatsV H = V at *
  generalize seatsOk H = O at *
  generalize H.seas.length = n at *
  cases q : decide ((40 : Int) < (n : Int)) with
  | true =>
    have hv : V = .agg #[.int .i64 0, .int .i64 0, .int .i64 8] := by rw [HV.out, if_pos (by simp at q; omega)]
    have ho : O = false := by rw [HO.out]; simp at q; simp; omega
    subst hv ho
    clear HC HV HO
    go_enter Tryz.func137, Tryz.ntmps137
    go_wp2_with (go_at_call 157; refine (whole_any _ _).mono ?_; rintro e w' ⟨rfl, x2, rfl⟩)
    refine bodyPost_ret (v := .agg #[.int .i64 0, .int .i64 0, .int .i64 8]) (by simp [results, Tryz.results137, go_sem]) rfl ⟨rfl, hN.touch (by (repeat' (first | (with_reducible exact Below.refl _ _) | (with_reducible assumption) | (with_reducible refine Below.drew ?_) | (with_reducible refine Below.drewNStep ?_ _) | (with_reducible refine Below.alloc ?_ ?_ _) | (with_reducible refine Below.setCell ?_ ?_ _) | (with_reducible refine Below.extStep ?_ ?_ _) | (simp; done) | (simp; omega)))), fun h => by cases h⟩
  | false =>
    have hv : V = oneV 5 (seaE H) n := by rw [HV.out, if_neg (by simp at q; omega)]
    have ho : Hid (O = true → firstBad (seaE H) n = none) := by
      intro h
      rw [HO.out] at h
      simp only [Bool.and_eq_true] at h
      simpa using h.2
    subst hv
    clear HV HO
    obtain ⟨x, y, z, hz⟩ := oneV_form 5 (seaE H) n
    rw [hz]
    rw [hz] at HC
    clear hz
    go_enter Tryz.func137, Tryz.ntmps137
    go_wp2_with (go_at_call 158; refine (HC.out _ _ (by (repeat' (first | (with_reducible exact Below.refl _ _) | (with_reducible assumption) | (with_reducible refine Below.drew ?_) | (with_reducible refine Below.drewNStep ?_ _) | (with_reducible refine Below.alloc ?_ ?_ _) | (with_reducible refine Below.setCell ?_ ?_ _) | (with_reducible refine Below.extStep ?_ ?_ _) | (simp; done) | (simp; omega)))) (by simp [go_sem])).mono ?_; rintro e w1 ⟨rfl, hT1, hN1⟩; obtain ⟨r0, r1, r2, f0, f1, f2⟩ := OneR.touch (s := w.heap.size + 1) ⟨by simp [go_sem], by simp [go_sem], by simp [go_sem], by simp [go_sem], by simp [go_sem], by simp [go_sem]⟩ hT1; have gr := has_of_cell r0; have hsz := hT1.size; simp only [World.size_alloc] at hsz)
    refine bodyPost_ret (v := .agg #[.int .i64 x, .int .i64 y, .int .i64 z]) (by simp [results, Tryz.results137, go_sem, r0, r1, r2, gr]) rfl ⟨rfl, ((hN.touch (by (repeat' (first | (with_reducible exact Below.refl _ _) | (with_reducible assumption) | (with_reducible refine Below.drew ?_) | (with_reducible refine Below.drewNStep ?_ _) | (with_reducible refine Below.alloc ?_ ?_ _) | (with_reducible refine Below.setCell ?_ ?_ _) | (with_reducible refine Below.extStep ?_ ?_ _) | (simp; done) | (simp; omega))))).trans hT1).step (by (repeat' (first | (with_reducible exact Below.refl _ _) | (with_reducible assumption) | (with_reducible refine Below.drew ?_) | (with_reducible refine Below.drewNStep ?_ _) | (with_reducible refine Below.alloc ?_ ?_ _) | (with_reducible refine Below.setCell ?_ ?_ _) | (with_reducible refine Below.extStep ?_ ?_ _) | (simp; done) | (simp; omega)))), fun h => (hN1 (ho.out h)).belowD (D := w.heap.size) (by (repeat' (first | (with_reducible exact Below.refl _ _) | (with_reducible assumption) | (with_reducible refine Below.drew ?_) | (with_reducible refine Below.drewNStep ?_ _) | (with_reducible refine Below.alloc ?_ ?_ _) | (with_reducible refine Below.setCell ?_ ?_ _) | (with_reducible refine Below.extStep ?_ ?_ _) | (simp; done) | (simp; omega)))) hN.m.has hN.f.has hN.t.has⟩
end Go.Proofs.YtbonjgeglhbhnaaGreat
