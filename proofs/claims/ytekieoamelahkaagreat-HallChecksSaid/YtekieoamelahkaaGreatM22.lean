/- The function of checkSeats; checkSeats. -/
import Derived.Test.YtekieoamelahkaaGreatM20
import Derived.Test.YtekieoamelahkaaGreatM17
import Derived.Test.YtekieoamelahkaaGreatM21
set_option maxRecDepth 100000
set_option maxHeartbeats 1000000
set_option linter.unusedVariables false
set_option linter.unusedSimpArgs false
namespace Go.Proofs.YtekieoamelahkaaGreat
open Go.RowKit Go.Shelf
attribute [local go_sem] Oper.semAt_some

def seaNames (H : Hal) (i : Nat) : List ByteArray := (H.seas.take i).map (·.name)
def seaE (H : Hal) (i : Nat) : Int :=
 if nameB (seaAt H.seas i).name = false then 4 else if hasName (seaNames H i) (seaAt H.seas i).name = true then 5 else insideE H (seaAt H.seas i).x (seaAt H.seas i).y (seaAt H.seas i).z
theorem seaNames_succ {H : Hal} {i : Nat} (h : i < H.seas.length) : seaNames H (i + 1) = seaNames H i ++ [(seaAt H.seas i).name] := by
 unfold seaNames seaAt
 rw [List.take_add_one, List.getElem?_eq_getElem h, List.map_append]
 rfl
theorem sea_sized {H : Hal} (hs : H.Sized) (i : Nat) (hi : i < H.seas.length) : (seaAt H.seas i).name.size ≤ 1000000 := by
 have : seaAt H.seas i = H.seas[i] := by unfold seaAt; rw [List.getElem?_eq_getElem hi]; rfl
 rw [this]
 exact hs.seas _ (List.getElem_mem hi)

theorem seats1 {w : World} {b c M F T : Nat} {H : Hal} {ms fs : List ByteArray} (hS : SurAt w b H M F T) (hC : CorsIn H) (hNn : H.cors.length ≤ 20) (hh : -5000 ≤ H.height ∧ H.height ≤ 5000) (hc : w.cell? ⟨c, 0, none⟩ = some (.pointer (some ⟨b, 0, none⟩))) (i : Nat) (hi : i < H.seas.length) (hN : Names w M F T ms fs (seaNames H i)) :
 Calls Tryz.prog 135 #[.int .i64 i, .pointer (some ⟨c, 0, none⟩)] w (fun e w' => e = .returned (.int .i64 (seaE H i)) ∧ Touch [M, F, T] w w' ∧ (seaE H i = 0 → Names w' M F T ms fs (seaNames H (i + 1)))) := by
 have HE : Hid (seaE H i = if nameB (seaAt H.seas i).name = false then 4 else if hasName (seaNames H i) (seaAt H.seas i).name = true then 5 else insideE H (seaAt H.seas i).x (seaAt H.seas i).y (seaAt H.seas i).z) := rfl
 have HS := hidden (seaNames_succ hi)
 have HI := hidden (fun (W : World) (hW : Kept w W) => checkInside_room (hS.kept hW).room hC hNn hh (seaAt H.seas i).x (seaAt H.seas i).y (seaAt H.seas i).z)
 obtain ⟨⟨v4, v5, v6, v7, v8, v9, v10, hR⟩, _, _, hm⟩ := hS
 obtain ⟨A, c4, rfl, hS4⟩ := slc_form hR.hal.seas
 obtain ⟨g, o, rfl, hg, hcs⟩ := sea_at hS4 hi
 have HN := hidden (fun W => isName_any (seaAt H.seas i).name (sea_sized hR.hal.sized i hi) W)
 have l4 := hS4.1
 obtain ⟨k0, k1, k2, k3⟩ := hcs i hi
 have h8 := hR.c8
 have hb := hR.has
 have hM := hN.t
 have hMh : w.Has T := hM.has
 have hch := has_of_cell hc
 have nb := hM.ne h8
 have nc := hM.ne hc
 have ns : w.heap.size ≠ T := fun e => absurd hMh (by rw [← e]; exact Nat.lt_irrefl _)
 clear hR hS4 hcs
 have HL := look_set (b := T) (ns := seaNames H i)
 have HT := hidden (hN.touch (w' := w) (Below.refl _ _))
 generalize seaE H i = E at *
 generalize insideE H (seaAt H.seas i).x (seaAt H.seas i).y (seaAt H.seas i).z = I at *
 generalize seaNames H (i + 1) = ts' at *
 generalize seaNames H i = ts at *
 generalize seaAt H.seas i = m at *
 generalize H.seas.length = n at *
 obtain ⟨nm, x, y, z⟩ := m
 simp only at *
 refine (callsIn_wide (n := 10)).1 ?_
 refine callsIn_of_wp Tryz.func135 rfl trivial ?_ rfl
 simp only [Tryz.ntmps135, nt, Nat.reduceAdd, Nat.reduceSub]
 cases q0 : nameB nm with
 | false =>
  rw [q0] at HE HN
  have hE := HE.out
  rw [if_pos rfl] at hE
  subst hE
  clear HE
  gi_wp2
  (refine ⟨trivial, ?_⟩; ((with_reducible refine (callsIn_wide.2 (HN.out _)).mono ?_); rintro e w' ⟨rfl, x1, rfl⟩))
  gi_wp2
  refine bodyPost_ret (v := .int .i64 4) (by simp [results, Tryz.results135, go_sem]) rfl ⟨rfl, HT.out.step (by (repeat' first | with_reducible (first | apply bz0 | assumption | apply bz1 | apply bz2 | apply bz3 | apply bz4 | apply bz5) | (simp <;> omega))), fun h => absurd h (by decide)⟩
 | true =>
  rw [q0] at HE HN
  cases q1 : hasName ts nm with
  | true =>
   have hE := HE.out
   rw [if_neg (by decide), q1, if_pos rfl] at hE
   subst hE
   clear HE
   gi_wp2
   (refine ⟨trivial, ?_⟩; ((with_reducible refine (callsIn_wide.2 (HN.out _)).mono ?_); rintro e w' ⟨rfl, x1, rfl⟩))
   gi_wp2
   refine wpIn_wide.2 ?_
   (refine tmX (by kernel_rfl) (by kernel_rfl) ?_); (repeat (first | (refine tmS rfl ?_; simp only [Act.put, List.setIfInBounds_toArray, List.set_cons_succ, List.set_cons_zero]) | (refine tmP rfl rfl rfl (fun K hK => ?_); go_big_quiet_op; refine hK _ ?_; clear hK K) | (refine tmE rfl rfl (fun K hK => ?_); go_big_op; (first | fail | skip); (refine hK _ _ rfl (ext_of_below (by (repeat' first | with_reducible (first | apply bz0 | assumption | apply bz1 | apply bz2 | apply bz3 | apply bz4 | apply bz5) | (simp <;> omega)))) ?_; clear hK K)))); (refine tmN ?_)
   gi_wp2
   refine bodyPost_ret (v := .int .i64 5) (by simp [results, Tryz.results135, go_sem]) rfl ⟨rfl, HT.out.step (by (repeat' first | with_reducible (first | apply bz0 | assumption | apply bz1 | apply bz2 | apply bz3 | apply bz4 | apply bz5) | (simp <;> omega))), fun h => absurd h (by decide)⟩
  | false =>
   have HP : ∀ o x, (Instr.mapUpdate 128 (.map (some T)) (.string nm) (.bool true)).run Tryz.prog (((w.alloc o).ext x).drew.drew) = .ok () ((((w.alloc o).ext x).drew.drew).putObj T (putMap (((w.alloc o).ext x).drew.drew) T nm)) := fun o x => put_set _ (by simp [hM, hMh]) nm q1
   gi_wp2
   (refine ⟨trivial, ?_⟩; ((with_reducible refine (callsIn_wide.2 (HN.out _)).mono ?_); rintro e w' ⟨rfl, x1, rfl⟩))
   gi_wp2
   refine wpIn_wide.2 ?_
   (refine tmX (by kernel_rfl) (by kernel_rfl) ?_); (repeat (first | (refine tmS rfl ?_; simp only [Act.put, List.setIfInBounds_toArray, List.set_cons_succ, List.set_cons_zero]) | (refine tmP rfl rfl rfl (fun K hK => ?_); go_big_quiet_op; refine hK _ ?_; clear hK K) | (refine tmE rfl rfl (fun K hK => ?_); go_big_op; (first | fail | skip); (refine hK _ _ rfl (ext_of_below (by (repeat' first | with_reducible (first | apply bz0 | assumption | apply bz1 | apply bz2 | apply bz3 | apply bz4 | apply bz5) | (simp <;> omega)))) ?_; clear hK K)))); (refine tmN ?_)
   gi_wp2
   refine wpIn_wide.2 ?_
   (refine wp_region_tameH (T) (by kernel_rfl) (by kernel_rfl) ?_); (repeat (first | (refine tmS rfl ?_; simp only [Act.put, List.setIfInBounds_toArray, List.set_cons_succ, List.set_cons_zero]) | (refine tmP rfl rfl rfl (fun K hK => ?_); go_big_quiet_op; refine hK _ ?_; clear hK K) | (refine tmE rfl rfl (fun K hK => ?_); go_big_op; (first | fail | skip); (refine hK _ _ rfl (hole_of (by (repeat' (first | (with_reducible exact HoleRel.refl _ _ _) | (with_reducible assumption) | (with_reducible refine HoleRel.swap ?_ _ _) | (with_reducible refine HoleRel.drew ?_) | (with_reducible refine HoleRel.drewN ?_ _) | (with_reducible refine HoleRel.setCell ?_ ?_ _) | (with_reducible refine HoleRel.putObj ?_ ?_ _) | (with_reducible refine HoleRel.alloc ?_ ?_ _) | (with_reducible refine HoleRel.ext ?_ ?_ _) | (exact Or.inl rfl) | (simp; done) | (simp; omega))))) ?_; clear hK K)))); (refine tmN ?_)
   generalize hX : World.putObj _ _ _ = X
   have TX : Touch [M, F, T] w X := by rw [← hX]; exact (HT.out.step (by (repeat' first | with_reducible (first | apply bz0 | assumption | apply bz1 | apply bz2 | apply bz3 | apply bz4 | apply bz5) | (simp <;> omega)))).trans (Names.touchPut (hN.below (by (repeat' first | with_reducible (first | apply bz0 | assumption | apply bz1 | apply bz2 | apply bz3 | apply bz4 | apply bz5) | (simp <;> omega)))) (by simp) nm)
   have NX : Names X M F T ms fs (ts ++ [nm]) := by rw [← hX]; exact (hN.below (by (repeat' first | with_reducible (first | apply bz0 | assumption | apply bz1 | apply bz2 | apply bz3 | apply bz4 | apply bz5) | (simp <;> omega)))).addT nm
   have z1 : X.cell? ⟨w.heap.size, 1, none⟩ = some (.int .i64 x) := by rw [← hX]; exact cell_put ns (by simp [go_sem])
   have z2 : X.cell? ⟨w.heap.size, 2, none⟩ = some (.int .i64 y) := by rw [← hX]; exact cell_put ns (by simp [go_sem])
   have z3 : X.cell? ⟨w.heap.size, 3, none⟩ = some (.int .i64 z) := by rw [← hX]; exact cell_put ns (by simp [go_sem])
   replace hc := TX.kept.cell hc
   have hb' := TX.kept.has hb
   have hEI : E = I := by rw [HE.out, if_neg (by decide), q1, if_neg (by decide)]
   subst hEI
   clear hX HP HL HN hM hMh nb nc h8 k0 k1 k2 k3 hm HE
   have gz := has_of_cell z1
   have hch' := has_of_cell hc
   gi_wp2
   refine wpIn_wide.2 ?_
   (refine tmX (by kernel_rfl) (by kernel_rfl) ?_); (repeat (first | (refine tmS rfl ?_; simp only [Act.put, List.setIfInBounds_toArray, List.set_cons_succ, List.set_cons_zero]) | (refine tmP rfl rfl rfl (fun K hK => ?_); go_big_quiet_op; refine hK _ ?_; clear hK K) | (refine tmE rfl rfl (fun K hK => ?_); go_big_op; (first | (go_at_call 136; refine (HI.out _ (TX.kept.trans (Kept.of_below (by (repeat' first | with_reducible (first | apply bz0 | assumption | apply bz1 | apply bz2 | apply bz3 | apply bz4 | apply bz5) | (simp <;> omega)))))).mono ?_; rintro e w' ⟨rfl, x1, rfl⟩) | skip); (refine hK _ _ rfl (ext_of_below (by (repeat' first | with_reducible (first | apply bz0 | assumption | apply bz1 | apply bz2 | apply bz3 | apply bz4 | apply bz5) | (simp <;> omega)))) ?_; clear hK K)))); (refine tmN ?_)
   gi_wp2
   refine bodyPost_ret (v := .int .i64 E) (by simp [results, Tryz.results135, go_sem]) rfl ⟨rfl, TX.trans (NX.touch (by (repeat' first | with_reducible (first | apply bz0 | assumption | apply bz1 | apply bz2 | apply bz3 | apply bz4 | apply bz5) | (simp <;> omega)))), fun _ => by rw [HS.out]; exact NX.below (by (repeat' first | with_reducible (first | apply bz0 | assumption | apply bz1 | apply bz2 | apply bz3 | apply bz4 | apply bz5) | (simp <;> omega)))⟩

def seatsV (H : Hal) : Value := if 40 < H.seas.length then .agg #[.int .i64 0, .int .i64 0, .int .i64 8] else oneV 5 (seaE H) H.seas.length
def seatsOk (H : Hal) : Bool := !decide (40 < H.seas.length) && (firstBad (seaE H) H.seas.length).isNone
theorem checkSeats_sur {w : World} {b M F T : Nat} {H : Hal} {ms fs : List ByteArray} (hS : SurAt w b H M F T) (hC : CorsIn H) (hNn : H.cors.length ≤ 20) (hh : -5000 ≤ H.height ∧ H.height ≤ 5000) (hN : Names w M F T ms fs []) :
 Calls Tryz.prog 75 #[.pointer (some ⟨b, 0, none⟩)] w (fun e w' => e = .returned (seatsV H) ∧ Touch [M, F, T] w w' ∧ (seatsOk H = true → Names w' M F T ms fs (H.seas.map (·.name)))) := by
 have HV : Hid (seatsV H = if 40 < H.seas.length then .agg #[.int .i64 0, .int .i64 0, .int .i64 8] else oneV 5 (seaE H) H.seas.length) := rfl
 have HO : Hid (seatsOk H = (!decide (40 < H.seas.length) && (firstBad (seaE H) H.seas.length).isNone)) := rfl
 have hn0 : Names w M F T ms fs (seaNames H 0) := hN
 have hnn : seaNames H H.seas.length = H.seas.map (·.name) := by simp [seaNames]
 have HC := hidden (fun (W : World) (c : Nat) (hW : Below w.heap.size w W) (hc : W.cell? ⟨c, 0, none⟩ = some (.pointer (some ⟨b, 0, none⟩))) =>
  oneByOne_any 135 (.pointer (some ⟨c, 0, none⟩)) (enters_of Tryz.func135 (by kernel_rfl) rfl) 5 H.seas.length (by obtain ⟨⟨_, _, _, _, _, _, _, hR⟩, _⟩ := hS; exact hR.hal.seas.1) (seaE H) [M, F, T] (fun k V => Names V M F T ms fs (seaNames H k)) W
   (hn0.below hW).maps (fun k V V' hb h => h.belowD hb (hn0.below hW).m.has (hn0.below hW).f.has (hn0.below hW).t.has)
   (fun k V hk ht hn => seats1 ((hS.below hW).kept ht.kept) hC hNn hh (ht.kept.cell hc) k hk hn) (hn0.below hW))
 obtain ⟨⟨v4, v5, v6, v7, v8, v9, v10, hR⟩, hm, _, _⟩ := hS
 obtain ⟨A, c4, rfl, hS4⟩ := slc_form hR.hal.seas
 have h8 := hR.c8
 have hb := hR.has
 have l4 := hS4.1
 clear hR hS4
 rw [← hnn]
 clear hnn
 generalize seatsV H = V at *
 generalize seatsOk H = O at *
 generalize H.seas.length = n at *
 cases q : decide ((40 : Int) < (n : Int)) with
 | true =>
  have hv : V = .agg #[.int .i64 0, .int .i64 0, .int .i64 8] := by rw [HV.out, if_pos (by simp at q; omega)]
  have ho : O = false := by rw [HO.out]; simp at q; simp; omega
  subst hv ho
  clear HC HV HO
  go_enter Tryz.func75, Tryz.ntmps75
  go_wp2_with (go_at_call 124; refine (whole_any _ _).mono ?_; rintro e w' ⟨rfl, x2, rfl⟩)
  refine bodyPost_ret (v := .agg #[.int .i64 0, .int .i64 0, .int .i64 8]) (by simp [results, Tryz.results75, go_sem]) rfl ⟨rfl, hN.touch (by (repeat' first | with_reducible (first | apply bz0 | assumption | apply bz1 | apply bz2 | apply bz3 | apply bz4 | apply bz5) | (simp <;> omega))), fun h => by cases h⟩
 | false =>
  have hv : V = oneV 5 (seaE H) n := by rw [HV.out, if_neg (by simp at q; omega)]
  have ho : Hid (O = true → firstBad (seaE H) n = none) := by
   intro h
   rw [HO.out] at h
   simp only [Bool.and_eq_true] at h
   simpa using h.2
  subst hv
  clear HV HO
  obtain ⟨x, y, z, hz⟩ := oneV_form 5 (seaE H) n
  rw [hz]
  rw [hz] at HC
  clear hz
  go_enter Tryz.func75, Tryz.ntmps75
  go_wp2_with (go_at_call 125; refine (HC.out _ _ (by (repeat' first | with_reducible (first | apply bz0 | assumption | apply bz1 | apply bz2 | apply bz3 | apply bz4 | apply bz5) | (simp <;> omega))) (by simp [go_sem])).mono ?_; rintro e w1 ⟨rfl, hT1, hN1⟩; obtain ⟨r0, r1, r2, f0, f1, f2⟩ := OneR.touch (s := w.heap.size + 1) ⟨by simp [go_sem], by simp [go_sem], by simp [go_sem], by simp [go_sem], by simp [go_sem], by simp [go_sem]⟩ hT1; have gr := has_of_cell r0; have hsz := hT1.size; simp only [World.size_alloc] at hsz)
  refine bodyPost_ret (v := .agg #[.int .i64 x, .int .i64 y, .int .i64 z]) (by simp [results, Tryz.results75, go_sem, r0, r1, r2, gr]) rfl ⟨rfl, ((hN.touch (by (repeat' first | with_reducible (first | apply bz0 | assumption | apply bz1 | apply bz2 | apply bz3 | apply bz4 | apply bz5) | (simp <;> omega)))).trans hT1).step (by (repeat' first | with_reducible (first | apply bz0 | assumption | apply bz1 | apply bz2 | apply bz3 | apply bz4 | apply bz5) | (simp <;> omega))), fun h => (hN1 (ho.out h)).belowD (D := w.heap.size) (by (repeat' first | with_reducible (first | apply bz0 | assumption | apply bz1 | apply bz2 | apply bz3 | apply bz4 | apply bz5) | (simp <;> omega))) hN.m.has hN.f.has hN.t.has⟩
end Go.Proofs.YtekieoamelahkaaGreat

/- The eight checks of a hall, in their order. -/
namespace Go.Proofs.YtekieoamelahkaaGreat
open Go.RowKit

abbrev Flt := Int × Int × Int
def fltV (f : Flt) : Value := .agg #[.int .i64 (f.1), .int .i64 (f.2.1), .int .i64 (f.2.2)]
def oneF (l : Int) (E : Nat → Int) (n : Nat) : Flt := match firstBad E n with | none => (0, 0, 0) | some k => (l, (k : Int), E k)
theorem oneF_V (l : Int) (E : Nat → Int) (n : Nat) : oneV l E n = fltV (oneF l E n) := by
 unfold oneV oneF fltV
 cases firstBad E n <;> rfl
theorem oneF_none {l : Int} {E : Nat → Int} {n : Nat} (h : (oneF l E n).2.2 = 0) : firstBad E n = none := by
 unfold oneF at h
 cases hb : firstBad E n with
 | none => rfl
 | some k =>
  rw [hb] at h
  unfold firstBad at hb
  have := List.find?_some hb
  simp at this
  exact absurd h this
def floorN : ByteArray := ⟨#[102, 108, 111, 111, 114]⟩
def ceilN : ByteArray := ⟨#[99, 101, 105, 108, 105, 110, 103]⟩
def fs0 : List ByteArray := [floorN, ceilN]
def msOf (H : Hal) : List ByteArray := H.mats.map (·.name)
def fs1 (H : Hal) : List ByteArray := fs0 ++ H.wals.map (·.name)
def fs2 (H : Hal) : List ByteArray := fs1 H ++ H.cans.map (·.name)
def matsF (H : Hal) : Flt := if 10 < H.mats.length then (0, 0, 8) else oneF 1 (matE H) H.mats.length
def cansF (H : Hal) (ms fs : List ByteArray) : Flt := if 4 < H.cans.length then (0, 0, 8) else oneF 4 (canE H ms fs) H.cans.length
def seatsF (H : Hal) : Flt := if 40 < H.seas.length then (0, 0, 8) else oneF 5 (seaE H) H.seas.length
theorem matsF_V (H : Hal) : matsV H = fltV (matsF H) := by unfold matsV matsF; split; rfl; exact oneF_V _ _ _
theorem cansF_V (H : Hal) (ms fs : List ByteArray) : cansV H ms fs = fltV (cansF H ms fs) := by unfold cansV cansF; split; rfl; exact oneF_V _ _ _
theorem seatsF_V (H : Hal) : seatsV H = fltV (seatsF H) := by unfold seatsV seatsF; split; rfl; exact oneF_V _ _ _
theorem matsF_ok {H : Hal} (h : (matsF H).2.2 = 0) : matsOk H = true := by
 unfold matsF at h
 unfold matsOk
 split at h
 · exact absurd h (by decide)
 · rename_i hn; simp [hn, oneF_none h]
theorem cansF_ok {H : Hal} {ms fs : List ByteArray} (h : (cansF H ms fs).2.2 = 0) : cansOk H ms fs = true := by
 unfold cansF at h
 unfold cansOk
 split at h
 · exact absurd h (by decide)
 · rename_i hn; simp [hn, oneF_none h]
theorem seatsF_ok {H : Hal} (h : (seatsF H).2.2 = 0) : seatsOk H = true := by
 unfold seatsF at h
 unfold seatsOk
 split at h
 · exact absurd h (by decide)
 · rename_i hn; simp [hn, oneF_none h]

def flt (H : Hal) (k : Nat) : Flt :=
 if k = 0 then (0, 0, itselfE H) else if k = 1 then matsF H else if k = 2 then (0, 0, partsE H (msOf H)) else if k = 3 then oneF 2 (cornE H) H.cors.length
 else if k = 4 then oneF 3 (wallEk H (msOf H) fs0) H.cors.length else if k = 5 then (0, 0, planE H) else if k = 6 then cansF H (msOf H) (fs1 H) else seatsF H
def hallF (H : Hal) : Flt := match firstBad (fun k => (flt H k).2.2) 8 with | none => (0, 0, 0) | some k => flt H k

def fnAt (k : Nat) : Nat := if k = 0 then 68 else if k = 1 then 69 else if k = 2 then 70 else if k = 3 then 71
 else if k = 4 then 72 else if k = 5 then 73 else if k = 6 then 74 else 75
theorem fnAt_enters (k : Nat) : ∀ args w, (callFunc (fnAt k) args).run Tryz.prog w = .ok (.enter (fnAt k) args) w := by
 unfold fnAt
 repeat' split
 · exact enters_of Tryz.func68 (by kernel_rfl) rfl
 · exact enters_of Tryz.func69 (by kernel_rfl) rfl
 · exact enters_of Tryz.func70 (by kernel_rfl) rfl
 · exact enters_of Tryz.func71 (by kernel_rfl) rfl
 · exact enters_of Tryz.func72 (by kernel_rfl) rfl
 · exact enters_of Tryz.func73 (by kernel_rfl) rfl
 · exact enters_of Tryz.func74 (by kernel_rfl) rfl
 · exact enters_of Tryz.func75 (by kernel_rfl) rfl

def msAt (H : Hal) (k : Nat) : List ByteArray := if k ≤ 1 then [] else msOf H
def fsAt (H : Hal) (k : Nat) : List ByteArray := if k ≤ 4 then fs0 else if k ≤ 6 then fs1 H else fs2 H
def tsAt (H : Hal) (k : Nat) : List ByteArray := if k ≤ 7 then [] else H.seas.map (·.name)

theorem itself_ok {H : Hal} (h : itselfE H = 0) : -5000 ≤ H.height ∧ H.height ≤ 5000 := by
 unfold itselfE at h
 split at h
 · exact absurd h (by decide)
 · split at h
   · exact absurd h (by decide)
   · split at h
     · exact absurd h (by decide)
     · omega
theorem parts_ok {H : Hal} {ms : List ByteArray} (h : partsE H ms = 0) : H.wals.length = H.cors.length ∧ H.cors.length ≤ 20 := by
 unfold partsE at h
 repeat' (split at h; exact absurd h (by decide))
 omega

theorem check_at {H : Hal} {W : World} {b M F T : Nat} (k : Nat) (hk : k < 8) (hS : SurAt W b H M F T) (hN : Names W M F T (msAt H k) (fsAt H k) (tsAt H k)) (hok : ∀ j, j < k → (flt H j).2.2 = 0) :
 Calls Tryz.prog (fnAt k) #[.pointer (some ⟨b, 0, none⟩)] W (fun e W' => e = .returned (fltV (flt H k)) ∧ Touch [M, F, T] W W' ∧ ((flt H k).2.2 = 0 → Names W' M F T (msAt H (k + 1)) (fsAt H (k + 1)) (tsAt H (k + 1)))) := by
 have hk8 : k = 0 ∨ k = 1 ∨ k = 2 ∨ k = 3 ∨ k = 4 ∨ k = 5 ∨ k = 6 ∨ k = 7 := by omega
 rcases hk8 with rfl | rfl | rfl | rfl | rfl | rfl | rfl | rfl
 · exact (checkItself_sur hS).mono fun e W' h => ⟨h.below.1, hN.touch h.below.2, fun _ => hN.below h.below.2⟩
 · exact (checkMaterials_sur hS hN).mono fun e W' h => ⟨by rw [h.1, matsF_V]; rfl, h.2.1, fun h0 => h.2.2 (matsF_ok h0)⟩
 · exact (checkParts_sur hS hN).mono fun e W' h => ⟨h.below.1, hN.touch h.below.2, fun _ => hN.below h.below.2⟩
 · exact (checkCorners_sur hS).mono fun e W' h => ⟨by rw [h.below.1, oneF_V]; rfl, hN.touch h.below.2, fun _ => hN.below h.below.2⟩
 · have h2 := parts_ok (hok 2 (by omega))
   have hC := cornE_ok (oneF_none (hok 3 (by omega)))
   exact (checkWalls_sur hS hN hC h2.2 h2.1).mono fun e W' h => ⟨by rw [h.1, oneF_V]; rfl, h.2.1, fun h0 => h.2.2 (oneF_none h0)⟩
 · have h2 := parts_ok (hok 2 (by omega))
   have hC := cornE_ok (oneF_none (hok 3 (by omega)))
   exact (checkPlan_sur hS hC h2.2).mono fun e W' h => ⟨h.below.1, hN.touch h.below.2, fun _ => hN.below h.below.2⟩
 · have h2 := parts_ok (hok 2 (by omega))
   have hC := cornE_ok (oneF_none (hok 3 (by omega)))
   exact (checkCanopies_sur hS hC h2.2 hN).mono fun e W' h => ⟨by rw [h.1, cansF_V]; rfl, h.2.1, fun h0 => h.2.2 (cansF_ok h0)⟩
 · have h2 := parts_ok (hok 2 (by omega))
   have hC := cornE_ok (oneF_none (hok 3 (by omega)))
   have hh := itself_ok (hok 0 (by omega))
   exact (checkSeats_sur hS hC h2.2 hh hN).mono fun e W' h => ⟨by rw [h.1, seatsF_V]; rfl, h.2.1, fun h0 => h.2.2 (seatsF_ok h0)⟩
end Go.Proofs.YtekieoamelahkaaGreat

/- CheckHall. -/
namespace Go.Proofs.YtekieoamelahkaaGreat
open Go.RowKit Go.Shelf
attribute [local go_sem] Oper.semAt_some

def halV (H : Hal) (v4 v5 v6 v7 v8 : Value) : Value := .agg #[.string H.name, .int .i64 H.height, .string H.floor, .string H.ceil, v4, v5, v6, v7, v8]
def markV (f : Flt) : Value := .tuple #[.agg #[.int .i64 (f.1), .int .i64 (f.2.1)], .int .i64 f.2.2]
theorem SetAt_new (W : World) : SetAt (W.alloc (.map #[] 0)) W.heap.size [] := ⟨#[], 0, World.alloc_heap_new W _, rfl⟩

theorem has_putObj (w : World) (l n : Nat) (o : Obj) : (w.putObj l o).Has n = w.Has n := by simp [World.Has]
theorem SetAt_putObj {w : World} {b c : Nat} {ns : List ByteArray} (o : Obj) (h : b ≠ c) : SetAt (w.putObj c o) b ns = SetAt w b ns := by
 unfold SetAt; rw [World.putObj_heap_other h]
theorem cell_putO {w : World} {l n i : Nat} (o : Obj) (h : n ≠ l) : (w.putObj l o).cell? ⟨n, i, none⟩ = w.cell? ⟨n, i, none⟩ := World.cell?_of_block (World.putObj_heap_other h)
theorem frozen_putO {w : World} {l n i : Nat} (o : Obj) (h : n ≠ l) : (w.putObj l o).frozen? ⟨n, i, none⟩ = w.frozen? ⟨n, i, none⟩ := World.frozen?_of_block (World.putObj_heap_other h)
theorem hallF_stop {H : Hal} {k : Nat} (hk : k < 8) (he : (flt H k).2.2 ≠ 0) (h : ∀ j, j < k → (flt H j).2.2 = 0) : hallF H = flt H k := by
 unfold hallF; rw [firstBad_stop hk he h]
theorem hallF_end {H : Hal} (h : ∀ j, j < 8 → (flt H j).2.2 = 0) : hallF H = (0, 0, 0) := by
 unfold hallF; rw [firstBad_end h]

theorem CheckHall_any {w : World} {H : Hal} {v4 v5 v6 v7 v8 : Value} (hV : HalVs w v4 v5 v6 v7 v8 H) : Calls Tryz.prog 17 #[halV H v4 v5 v6 v7 v8] w (RetX w (markV (hallF H))) := by
 have hV' := hV
 obtain ⟨_, g4, g5, g6, g7, g8⟩ := hV'
 obtain ⟨A4, c4, rfl, _⟩ := slc_form g4
 obtain ⟨A5, c5, rfl, _⟩ := slc_form g5
 obtain ⟨A6, c6, rfl, _⟩ := slc_form g6
 obtain ⟨A7, c7, rfl, _⟩ := slc_form g7
 obtain ⟨A8, c8, rfl, _⟩ := slc_form g8
 unfold halV
 have HS1 : ∀ o1 o2 : Obj, SetAt ((((w.alloc o1).alloc o2).alloc (.map #[] 0)).alloc (.map #[] 0)) (w.heap.size + 1 + 1 + 1) [] := fun o1 o2 => by
  have h := SetAt_new (((w.alloc o1).alloc o2).alloc (.map #[] 0))
  simpa using h
 have HI1 : ∀ o1 o2 : Obj, (Instr.mapUpdate 128 (.map (some (w.heap.size + 1 + 1 + 1))) (.string ⟨#[102, 108, 111, 111, 114]⟩) (.bool true)).run Tryz.prog ((((w.alloc o1).alloc o2).alloc (.map #[] 0)).alloc (.map #[] 0)) = .ok () (((((w.alloc o1).alloc o2).alloc (.map #[] 0)).alloc (.map #[] 0)).putObj (w.heap.size + 1 + 1 + 1) (putMap ((((w.alloc o1).alloc o2).alloc (.map #[] 0)).alloc (.map #[] 0)) (w.heap.size + 1 + 1 + 1) floorN)) := fun o1 o2 => put_set _ (HS1 o1 o2) floorN rfl
 have HI2 : ∀ o1 o2 : Obj, (Instr.mapUpdate 128 (.map (some (w.heap.size + 1 + 1 + 1))) (.string ⟨#[99, 101, 105, 108, 105, 110, 103]⟩) (.bool true)).run Tryz.prog (((((w.alloc o1).alloc o2).alloc (.map #[] 0)).alloc (.map #[] 0)).putObj (w.heap.size + 1 + 1 + 1) (putMap ((((w.alloc o1).alloc o2).alloc (.map #[] 0)).alloc (.map #[] 0)) (w.heap.size + 1 + 1 + 1) floorN)) = .ok () _ := fun o1 o2 => put_set _ ((HS1 o1 o2).put floorN) ceilN (by decide)
 have HMM : ∀ W : World, (Instr.makeMap 128 none).run Tryz.prog W = .ok (.map (some W.heap.size)) (W.alloc (.map #[] 0)) := fun W => by kernel_rfl
 refine (callsIn_wide (n := 10)).1 ?_
 refine callsIn_of_wp Tryz.func17 rfl trivial ?_ rfl
 simp only [Tryz.ntmps17, nt, Nat.reduceAdd, Nat.reduceSub]
 gi_wp2
 generalize hw1 : World.alloc _ _ = w1
 have hB1 : Below w.heap.size w w1 := by
  rw [← hw1]
  repeat' (first | exact Below.refl _ _ | refine Below.putObjStep ?_ ?_ _ | refine Below.alloc ?_ ?_ _ | (simp; done) | (simp; omega) | omega)
 have hs1 : w1.heap.size = w.heap.size + 7 := by rw [← hw1]; simp
 have hsur : SurAt w1 (w.heap.size + 1 + 1 + 1 + 1 + 1) H (w.heap.size + 1 + 1) (w.heap.size + 1 + 1 + 1) (w.heap.size + 1 + 1 + 1 + 1) := by
  refine ⟨⟨_, _, _, _, _, _, _, ⟨?_, ?_, ?_, ?_, ?_, ?_, ?_, ?_, ?_, ?_, ?_, ?_, hV.below hB1, ⟨by simp, none, 0, rfl, fun h => absurd h (by simp)⟩, ⟨by simp, none, 0, rfl, fun h => absurd h (by simp)⟩⟩⟩, ?_, ?_, ?_⟩
  · show _ < w1.heap.size; omega
  all_goals (rw [← hw1]; simp [go_sem])
 have hnam : Names w1 (w.heap.size + 1 + 1) (w.heap.size + 1 + 1 + 1) (w.heap.size + 1 + 1 + 1 + 1) [] fs0 [] := by
  have hM0 : ∀ o1 o2 : Obj, SetAt (((w.alloc o1).alloc o2).alloc (.map #[] 0)) (w.heap.size + 1 + 1) [] := fun o1 o2 => by
   have h := SetAt_new ((w.alloc o1).alloc o2)
   simpa using h
  have hF0 := fun o1 o2 => ((HS1 o1 o2).put floorN).put ceilN
  have hF1 : ([] ++ [floorN]) ++ [ceilN] = fs0 := rfl
  rw [hF1] at hF0
  rw [← hw1]
  refine ⟨?_, ?_, ?_, by omega, by omega, by omega⟩
  · rw [SetAt_alloc _ (by first | (simp [World.Has]; done) | (simp [World.Has]; omega)), SetAt_alloc _ (by first | (simp [World.Has]; done) | (simp [World.Has]; omega)), SetAt_alloc _ (by first | (simp [World.Has]; done) | (simp [World.Has]; omega)), SetAt_putObj _ (by omega), SetAt_putObj _ (by omega), SetAt_alloc _ (by first | (simp [World.Has]; done) | (simp [World.Has]; omega))]
    exact hM0 _ _
  · rw [SetAt_alloc _ (by first | (simp [World.Has]; done) | (simp [World.Has]; omega)), SetAt_alloc _ (by first | (simp [World.Has]; done) | (simp [World.Has]; omega)), SetAt_alloc _ (by first | (simp [World.Has]; done) | (simp [World.Has]; omega))]
    exact hF0 _ _
  · rw [SetAt_alloc _ (by first | (simp [World.Has]; done) | (simp [World.Has]; omega)), SetAt_alloc _ (by first | (simp [World.Has]; done) | (simp [World.Has]; omega))]
    have hT0 : ∀ W : World, W.heap.size = w.heap.size + 1 + 1 + 1 + 1 → SetAt (W.alloc (.map #[] 0)) (w.heap.size + 1 + 1 + 1 + 1) [] := fun W h => by rw [← h]; exact SetAt_new W
    exact hT0 _ (by simp)
 have hfun : ∀ k, k < 8 → w1.cell? ⟨w.heap.size + 1 + 1 + 1 + 1 + 1 + 1, k, none⟩ = some (.func (.func (fnAt k)) #[.pointer (some ⟨w.heap.size + 1 + 1 + 1 + 1 + 1, 0, none⟩)] #[]) := by
  intro k hk
  have hk8 : k = 0 ∨ k = 1 ∨ k = 2 ∨ k = 3 ∨ k = 4 ∨ k = 5 ∨ k = 6 ∨ k = 7 := by omega
  rw [← hw1]
  rcases hk8 with rfl | rfl | rfl | rfl | rfl | rfl | rfl | rfl <;> simp [go_sem, fnAt]
 have hmk0 : w1.cell? ⟨w.heap.size + 1, 0, none⟩ = some (.int .i64 0) := by rw [← hw1]; simp [go_sem, cell_putO, frozen_putO, has_putObj]
 have hmk1 : w1.cell? ⟨w.heap.size + 1, 1, none⟩ = some (.int .i64 0) := by rw [← hw1]; simp [go_sem, cell_putO, frozen_putO, has_putObj]
 have hmf0 : w1.frozen? ⟨w.heap.size + 1, 0, none⟩ = false := by rw [← hw1]; simp [go_sem, cell_putO, frozen_putO, has_putObj]
 have hmf1 : w1.frozen? ⟨w.heap.size + 1, 1, none⟩ = false := by rw [← hw1]; simp [go_sem, cell_putO, frozen_putO, has_putObj]
 clear hw1 HI1 HI2 HMM HS1 hV g4 g5 g6 g7 g8
 have hMh : w.heap.size + 1 + 1 < w1.heap.size := by omega
 have hFh : w.heap.size + 1 + 1 + 1 < w1.heap.size := by omega
 have hTh : w.heap.size + 1 + 1 + 1 + 1 < w1.heap.size := by omega
 gi_loopw [36] (fun i wr => ∃ k : Nat, i = .int .i64 k ∧ k ≤ 8 ∧ Touch [w.heap.size + 1 + 1, w.heap.size + 1 + 1 + 1, w.heap.size + 1 + 1 + 1 + 1] w1 wr ∧ Names wr (w.heap.size + 1 + 1) (w.heap.size + 1 + 1 + 1) (w.heap.size + 1 + 1 + 1 + 1) (msAt H k) (fsAt H k) (tsAt H k) ∧ ∀ j, j < k → (flt H j).2.2 = 0) (fun i _ => 8 - (intOf i).toNat)
 case atStart => exact ⟨0, rfl, by omega, hnam.touch (Below.refl _ _), hnam, fun j hj => absurd hj (Nat.not_lt_zero j)⟩
 case round =>
  obtain ⟨k, rfl, hk, hT, hN, hno⟩ := hrel
  have m0 := hT.kept.cell hmk0
  have m1 := hT.kept.cell hmk1
  have n0 := hT.frozen hmk0 hmf0
  have n1 := hT.frozen hmk1 hmf1
  have gm := has_of_cell m0
  rcases Nat.lt_or_ge k 8 with hlt | hge
  · have hf := hT.kept.cell (hfun k hlt)
    have gf := has_of_cell hf
    have hC := hidden (check_at k hlt (hsur.kept hT.kept) hN hno)
    have eg := fnAt_enters k
    have hst : Hid ((flt H k).2.2 ≠ 0 → hallF H = flt H k) := fun he => hallF_stop hlt he hno
    have hgo : Hid ((flt H k).2.2 = 0 → ∀ j, j < k + 1 → (flt H j).2.2 = 0) := fun he j hj => by
     rcases Nat.lt_or_ge j k with h' | h'
     · exact hno j h'
     · obtain rfl : j = k := by omega
       exact he
    have hNk := hidden hN
    clear hno hfun hmk0 hmk1 hmf0 hmf1 hN
    generalize fnAt k = fn at *
    generalize hfl : flt H k = fl at *
    obtain ⟨x, y, z⟩ := fl
    unfold fltV at hC
    simp only at hC hst hgo
    gi_wp2
    refine ⟨trivial, ?_⟩
    refine (callsIn_wide.2 hC.out).mono ?_
    rintro e w2 ⟨rfl, hT2, hN2⟩
    have hTT := hT.trans hT2
    have p0 := m0
    have p1 := m1
    replace m0 := hT2.kept.cell m0
    replace m1 := hT2.kept.cell m1
    replace n0 := hT2.frozen p0 n0
    replace n1 := hT2.frozen p1 n1
    replace gm := has_of_cell m0
    have gs := hTT.size
    have ne1 : w2.heap.size ≠ w.heap.size + 1 := Nat.ne_of_gt gm
    have gsz : w.heap.size ≤ w2.heap.size := by have := gm; unfold World.Has at this; omega
    have hBw : Below w.heap.size w w2 := hB1.trans (hTT.below (D := w.heap.size) (by omega) (by simp; omega))
    clear hC hf gf hT hT2 p0 p1
    by_cases he : z = 0
    · have hN3 := hN2 he
      have hg2 := hidden (hgo.out he)
      subst he
      clear hgo hst hN2
      gi_wp2
      go_roundw
      case rel => exact ⟨k + 1, by go_num, by omega, hTT.step (by (repeat' first | with_reducible (first | apply bz0 | assumption | apply bz1 | apply bz2 | apply bz3 | apply bz4 | apply bz5) | (simp <;> omega))), hN3.below (by (repeat' first | with_reducible (first | apply bz0 | assumption | apply bz1 | apply bz2 | apply bz3 | apply bz4 | apply bz5) | (simp <;> omega))), hg2.out⟩
      case measure => simp [intOf]; omega
    · have q4 : (z != 0) = true := by simp [he]
      have q5 : (z == 0) = false := by simp [he]
      have hz := hidden (hst.out he)
      clear hgo hst hN2
      gi_wp2
      refine wpIn_wide.2 ?_
      (refine wp_region_tameH (w.heap.size + 1) (by kernel_rfl) (by kernel_rfl) ?_); (repeat (first | (refine tmS rfl ?_; simp only [Act.put, List.setIfInBounds_toArray, List.set_cons_succ, List.set_cons_zero]) | (refine tmP rfl rfl rfl (fun K hK => ?_); go_big_quiet_op; refine hK _ ?_; clear hK K) | (refine tmE rfl rfl (fun K hK => ?_); go_big_op; (first | fail | skip); (refine hK _ _ rfl (hole_of (by (repeat' (first | (with_reducible exact HoleRel.refl _ _ _) | (with_reducible assumption) | (with_reducible refine HoleRel.swap ?_ _ _) | (with_reducible refine HoleRel.drew ?_) | (with_reducible refine HoleRel.drewN ?_ _) | (with_reducible refine HoleRel.setCell ?_ ?_ _) | (with_reducible refine HoleRel.putObj ?_ ?_ _) | (with_reducible refine HoleRel.alloc ?_ ?_ _) | (with_reducible refine HoleRel.ext ?_ ?_ _) | (exact Or.inl rfl) | (simp; done) | (simp; omega))))) ?_; clear hK K)))); (refine tmN ?_)
      gi_wp2
      change bodyPost _ _ _ _ _ _
      refine bodyPost_ret (v := .tuple #[.agg #[.int .i64 x, .int .i64 y], .int .i64 z]) (by simp [results, Tryz.results17, go_sem, m0, m1, gm]) rfl (retX (by rw [hz.out]; rfl) (hBw.trans (by (repeat' first | with_reducible (first | apply bz0 | assumption | apply bz1 | apply bz2 | apply bz3 | apply bz4 | apply bz5) | (simp <;> omega)))))
  · obtain rfl : k = 8 := by omega
    have hz := hidden (hallF_end hno)
    have hBw : Below w.heap.size w wr := hB1.trans (hT.below (D := w.heap.size) (by omega) (by simp; omega))
    gi_wp2
    change bodyPost _ _ _ _ _ _
    refine bodyPost_ret (v := .tuple #[.agg #[.int .i64 0, .int .i64 0], .int .i64 0]) (by simp [results, Tryz.results17, go_sem, m0, m1, gm]) rfl (retX (by rw [hz.out]; rfl) (hBw.trans (by (repeat' first | with_reducible (first | apply bz0 | assumption | apply bz1 | apply bz2 | apply bz3 | apply bz4 | apply bz5) | (simp <;> omega)))))
end Go.Proofs.YtekieoamelahkaaGreat

/- visit; TwiceArea, TwiceVolume. -/
namespace Go.Proofs.YtekieoamelahkaaGreat
open Go.RowKit

def visitV (b : Nat) (e : Int) : Value := .tuple #[.pointer (if e = 0 then some ⟨b, 0, none⟩ else none), .int .i64 e]
def VisitP (w : World) (H : Hal) (S : Stg) (v4 v5 v6 v7 v8 : Value) (E : Int) (e : Ending) (w' : World) : Prop :=
 Below w.heap.size w w' ∧ ((E ≠ 0 ∧ e = .returned (.tuple #[.pointer none, .int .i64 E])) ∨ (E = 0 ∧ ∃ b, w.heap.size ≤ b ∧ e = .returned (.tuple #[.pointer (some ⟨b, 0, none⟩), .int .i64 0]) ∧ (∃ u9 u10, RoomAt w' b H S v4 v5 v6 v7 v8 u9 u10) ∧ ∀ i, w'.frozen? ⟨b, i, none⟩ = false))

theorem visit_any {w : World} {H : Hal} {v4 v5 v6 v7 v8 : Value} (hV : HalVs w v4 v5 v6 v7 v8 H) : Calls Tryz.prog 77 #[halV H v4 v5 v6 v7 v8] w (VisitP w H ⟨[], []⟩ v4 v5 v6 v7 v8 (hallF H).2.2) := by
 have HC := hidden (fun (W : World) (hW : Below w.heap.size w W) => CheckHall_any (hV.below hW))
 have hV' := hV
 obtain ⟨_, g4, g5, g6, g7, g8⟩ := hV'
 obtain ⟨A4, c4, rfl, _⟩ := slc_form g4
 obtain ⟨A5, c5, rfl, _⟩ := slc_form g5
 obtain ⟨A6, c6, rfl, _⟩ := slc_form g6
 obtain ⟨A7, c7, rfl, _⟩ := slc_form g7
 obtain ⟨A8, c8, rfl, _⟩ := slc_form g8
 clear g4 g5 g6 g7 g8
 unfold halV at *
 unfold markV at HC
 generalize hallF H = f at *
 obtain ⟨x, y, z⟩ := f
 simp only at *
 by_cases hz : z = 0
 · subst hz
   go_enter Tryz.func77, Tryz.ntmps77
   go_wp2_with (go_at_call 17; refine (HC.out _ (by (repeat' first | with_reducible (first | apply bz0 | assumption | apply bz1 | apply bz2 | apply bz3 | apply bz4 | apply bz5) | (simp <;> omega)))).mono ?_; rintro e w' ⟨rfl, x1, rfl⟩)
   refine bodyPost_ret (v := .tuple #[.pointer (some ⟨w.heap.size + 1 + x1.heap.size + 1, 0, none⟩), .int .i64 0]) ?_ rfl ⟨?_, .inr ⟨rfl, _, ?_, rfl, ?_, fun i => ?_⟩⟩
   · simp [results, Tryz.results77, go_sem]
   · (repeat' first | with_reducible (first | apply bz0 | assumption | apply bz1 | apply bz2 | apply bz3 | apply bz4 | apply bz5) | (simp <;> omega))
   · omega
   · refine ⟨_, _, ⟨?_, ?_, ?_, ?_, ?_, ?_, ?_, ?_, ?_, ?_, ?_, ?_, hV.below (by (repeat' first | with_reducible (first | apply bz0 | assumption | apply bz1 | apply bz2 | apply bz3 | apply bz4 | apply bz5) | (simp <;> omega))), ⟨by simp, none, 0, rfl, fun h => absurd h (by simp)⟩, ⟨by simp, none, 0, rfl, fun h => absurd h (by simp)⟩⟩⟩
     · first | (simp [World.Has]; done) | (simp [World.Has]; omega)
     all_goals (simp [go_sem])
   · simp [go_sem]
 · have q4 : (z != 0) = true := by simp [hz]
   have q5 : (z == 0) = false := by simp [hz]
   go_enter Tryz.func77, Tryz.ntmps77
   go_wp2_with (go_at_call 17; refine (HC.out _ (by (repeat' first | with_reducible (first | apply bz0 | assumption | apply bz1 | apply bz2 | apply bz3 | apply bz4 | apply bz5) | (simp <;> omega)))).mono ?_; rintro e w' ⟨rfl, x1, rfl⟩)
   refine bodyPost_ret (v := .tuple #[.pointer none, .int .i64 z]) (by simp [results, Tryz.results77, go_sem]) rfl ⟨?_, .inl ⟨hz, rfl⟩⟩
   (repeat' first | with_reducible (first | apply bz0 | assumption | apply bz1 | apply bz2 | apply bz3 | apply bz4 | apply bz5) | (simp <;> omega))

structure HallOk (H : Hal) : Prop where
 cors : CorsIn H
 n3 : 3 ≤ H.cors.length
 n12 : H.cors.length ≤ 12
 wl : H.wals.length = H.cors.length
 h2 : 2 ≤ H.height
 h5 : H.height ≤ 5000
 nm : H.mats.length ≤ 10
 nc : H.cans.length ≤ 4
 ns : H.seas.length ≤ 40
 mats : ∀ i, i < H.mats.length → matE H i = 0
 cans : ∀ i, i < H.cans.length → canE H (msOf H) (fs1 H) i = 0
 seas : ∀ i, i < H.seas.length → seaE H i = 0
 wals : ∀ i, i < H.cors.length → wallEk H (msOf H) fs0 i = 0
 area : 0 < areaTo H H.cors.length
theorem firstBad_none {E : Nat → Int} {n : Nat} (h : firstBad E n = none) : ∀ k, k < n → E k = 0 := by
 unfold firstBad at h
 rw [List.find?_eq_none] at h
 intro k hk
 have := h k (by simpa using hk)
 simpa using this
theorem hall_all {H : Hal} (h : (hallF H).2.2 = 0) : ∀ k, k < 8 → (flt H k).2.2 = 0 := by
 unfold hallF at h
 cases hb : firstBad (fun k => (flt H k).2.2) 8 with
 | none => exact firstBad_none hb
 | some k =>
  rw [hb] at h
  unfold firstBad at hb
  have := List.find?_some hb
  simp at this
  exact absurd h this
theorem hall_ok {H : Hal} (h : (hallF H).2.2 = 0) : HallOk H := by
 have ha := hall_all h
 have h0 : itselfE H = 0 := ha 0 (by omega)
 have h1 : (matsF H).2.2 = 0 := ha 1 (by omega)
 have h2 : partsE H (msOf H) = 0 := ha 2 (by omega)
 have h3 := oneF_none (ha 3 (by omega))
 have h4 := oneF_none (ha 4 (by omega))
 have h5 : planE H = 0 := ha 5 (by omega)
 have h6 : (cansF H (msOf H) (fs1 H)).2.2 = 0 := ha 6 (by omega)
 have h7 : (seatsF H).2.2 = 0 := ha 7 (by omega)
 have g1 := matsF_ok h1
 have g6 := cansF_ok h6
 have g7 := seatsF_ok h7
 simp only [matsOk, cansOk, seatsOk, Bool.and_eq_true, Bool.not_eq_true', decide_eq_false_iff_not, Option.isNone_iff_eq_none] at g1 g6 g7
 have hp : H.wals.length = H.cors.length ∧ 3 ≤ H.cors.length ∧ H.cors.length ≤ 12 := by
  unfold partsE at h2
  repeat' (split at h2; exact absurd h2 (by decide))
  omega
 have hi : 2 ≤ H.height ∧ H.height ≤ 5000 := by
  unfold itselfE at h0
  repeat' (split at h0; exact absurd h0 (by decide))
  omega
 refine ⟨cornE_ok h3, hp.2.1, hp.2.2, hp.1, hi.1, hi.2, by omega, by omega, by omega, firstBad_none g1.2, firstBad_none g6.2, firstBad_none g7.2, firstBad_none h4, ?_⟩
 unfold planE at h5
 split at h5
 · exact absurd h5 (by decide)
 · split at h5
   · exact absurd h5 (by decide)
   · omega
structure CanOk (H : Hal) (m : Can) : Prop where
 fx : -5000 ≤ m.f.x ∧ m.f.x ≤ 5000
 fy : -5000 ≤ m.f.y ∧ m.f.y ≤ 5000
 tx : -5000 ≤ m.t.x ∧ m.t.x ≤ 5000
 ty : -5000 ≤ m.t.y ∧ m.t.y ≤ 5000
 h1 : 1 ≤ m.hs.length
 h4 : m.hs.length ≤ 4
 hz : ∀ k, k < m.hs.length → 1 ≤ intAt m.hs k ∧ intAt m.hs k < H.height
theorem HallOk.can {H : Hal} (h : HallOk H) {i : Nat} (hi : i < H.cans.length) : CanOk H (canAt H.cans i) := by
 have he := h.cans i hi
 unfold canE at he
 split at he
 · exact absurd he (by decide)
 split at he
 · exact absurd he (by decide)
 split at he
 · exact absurd he (by decide)
 split at he
 · rename_i hn; exact absurd he hn
 rename_i hh
 have hh : heightsE H.height (canAt H.cans i).hs = 0 := by simpa using hh
 have hb : beyondB 5000 [(canAt H.cans i).f.x, (canAt H.cans i).f.y, (canAt H.cans i).t.x, (canAt H.cans i).t.y] = false := by
  unfold shtE at he
  split at he
  · exact absurd he (by decide)
  · rename_i hx; simpa using hx
 obtain ⟨b1, b2, b3, b4⟩ := beyond4P hb
 have hl : ¬ (canAt H.cans i).hs.length < 1 ∧ ¬ 4 < (canAt H.cans i).hs.length := by
  unfold heightsE at hh
  constructor <;> intro hc
  · rw [if_pos hc] at hh; exact absurd hh (by decide)
  · rw [if_neg (by omega), if_pos hc] at hh; exact absurd hh (by decide)
 refine ⟨b1, b2, b3, b4, by omega, by omega, fun k hk => ?_⟩
 unfold heightsE at hh
 rw [if_neg hl.1, if_neg hl.2] at hh
 have hf : firstBad (hgtE H.height (canAt H.cans i).hs) (canAt H.cans i).hs.length = none := by
  cases hb : firstBad (hgtE H.height (canAt H.cans i).hs) (canAt H.cans i).hs.length with
  | none => rfl
  | some j =>
   rw [hb] at hh
   unfold firstBad at hb
   have := List.find?_some hb
   simp at this
   exact absurd hh this
 have hk0 := firstBad_none hf k hk
 unfold hgtE at hk0
 split at hk0
 · exact absurd hk0 (by decide)
 · split at hk0
   · exact absurd hk0 (by decide)
   · omega

theorem visit_bad {w : World} {H : Hal} {v4 v5 v6 v7 v8 : Value} (hV : HalVs w v4 v5 v6 v7 v8 H) (hE : (hallF H).2.2 ≠ 0) : Calls Tryz.prog 77 #[halV H v4 v5 v6 v7 v8] w (RetX w (.tuple #[.pointer none, .int .i64 (hallF H).2.2])) :=
 (visit_any hV).mono fun e w' h => by
  rcases h.2 with ⟨_, he⟩ | ⟨h0, _⟩
  · exact ⟨he, ext_of_below h.1⟩
  · exact absurd h0 hE
def VisitOk (w : World) (H : Hal) (S : Stg) (v4 v5 v6 v7 v8 : Value) (e : Ending) (w' : World) : Prop := Below w.heap.size w w' ∧ ∃ b, w.heap.size ≤ b ∧ e = .returned (.tuple #[.pointer (some ⟨b, 0, none⟩), .int .i64 0]) ∧ (∃ u9 u10, RoomAt w' b H S v4 v5 v6 v7 v8 u9 u10) ∧ ∀ i, w'.frozen? ⟨b, i, none⟩ = false
theorem visit_good {w : World} {H : Hal} {v4 v5 v6 v7 v8 : Value} (hV : HalVs w v4 v5 v6 v7 v8 H) (hE : (hallF H).2.2 = 0) : Calls Tryz.prog 77 #[halV H v4 v5 v6 v7 v8] w (VisitOk w H ⟨[], []⟩ v4 v5 v6 v7 v8) :=
 (visit_any hV).mono fun e w' h => by
  rcases h.2 with ⟨h0, _⟩ | ⟨_, h1⟩
  · exact absurd hE h0
  · exact ⟨h.1, h1⟩

theorem TwiceArea_any {w : World} {H : Hal} {v4 v5 v6 v7 v8 : Value} (hV : HalVs w v4 v5 v6 v7 v8 H) :
 Calls Tryz.prog 23 #[halV H v4 v5 v6 v7 v8] w (RetX w (.tuple #[.int .i64 (if (hallF H).2.2 = 0 then areaTo H H.cors.length else 0), .int .i64 (hallF H).2.2])) := by
 by_cases hE : (hallF H).2.2 = 0
 · have HC := hidden (fun (W : World) (hW : Below w.heap.size w W) => visit_good (hV.below hW) hE)
   have hok := hall_ok hE
   have HA := hidden (fun (W : World) (b : Nat) (hR : Room W b H ⟨[], []⟩) => twiceArea_room hR hok.cors (by have := hok.n12; omega))
   rw [hE, if_pos rfl]
   clear hok hE
   obtain ⟨_, g4, g5, g6, g7, g8⟩ := hV
   obtain ⟨A4, c4, rfl, _⟩ := slc_form g4
   obtain ⟨A5, c5, rfl, _⟩ := slc_form g5
   obtain ⟨A6, c6, rfl, _⟩ := slc_form g6
   obtain ⟨A7, c7, rfl, _⟩ := slc_form g7
   obtain ⟨A8, c8, rfl, _⟩ := slc_form g8
   clear g4 g5 g6 g7 g8
   unfold halV at *
   go_enter Tryz.func23, Tryz.ntmps23
   go_wp2_with (first | (go_at_call 77; refine (HC.out _ (by (repeat' first | with_reducible (first | apply bz0 | assumption | apply bz1 | apply bz2 | apply bz3 | apply bz4 | apply bz5) | (simp <;> omega)))).mono ?_; rintro e w1 ⟨hB1, b, hb1, rfl, ⟨_, _, hR1⟩, _⟩; replace hR1 : Room w1 b H ⟨[], []⟩ := ⟨_, _, _, _, _, _, _, hR1⟩) | (go_at_call 86; refine (HA.out _ _ (hR1.below (by (repeat' first | with_reducible (first | apply bz0 | assumption | apply bz1 | apply bz2 | apply bz3 | apply bz4 | apply bz5) | (simp <;> omega))))).mono ?_; rintro e w' ⟨rfl, x2, rfl⟩))
   have hB2 : Below w.heap.size w w1 := (show Below w.heap.size w _ by (repeat' first | with_reducible (first | apply bz0 | assumption | apply bz1 | apply bz2 | apply bz3 | apply bz4 | apply bz5) | (simp <;> omega))).trans (hB1.lower (by simp))
   refine bodyPost_ret (v := .tuple #[.int .i64 (areaTo H H.cors.length), .int .i64 0]) (by simp [results, Tryz.results23, go_sem]) rfl (retX rfl (hB2.trans ((show Below w1.heap.size w1 _ by (repeat' first | with_reducible (first | apply bz0 | assumption | apply bz1 | apply bz2 | apply bz3 | apply bz4 | apply bz5) | (simp <;> omega))).lower hB2.size)))
 · have HC := hidden (fun (W : World) (hW : Below w.heap.size w W) => visit_bad (hV.below hW) hE)
   rw [if_neg hE]
   generalize (hallF H).2.2 = z at *
   have q4 : (z != 0) = true := by simp [hE]
   have q5 : (z == 0) = false := by simp [hE]
   obtain ⟨_, g4, g5, g6, g7, g8⟩ := hV
   obtain ⟨A4, c4, rfl, _⟩ := slc_form g4
   obtain ⟨A5, c5, rfl, _⟩ := slc_form g5
   obtain ⟨A6, c6, rfl, _⟩ := slc_form g6
   obtain ⟨A7, c7, rfl, _⟩ := slc_form g7
   obtain ⟨A8, c8, rfl, _⟩ := slc_form g8
   clear g4 g5 g6 g7 g8
   unfold halV at *
   go_enter Tryz.func23, Tryz.ntmps23
   go_wp2_with (go_at_call 77; refine (HC.out _ (by (repeat' first | with_reducible (first | apply bz0 | assumption | apply bz1 | apply bz2 | apply bz3 | apply bz4 | apply bz5) | (simp <;> omega)))).mono ?_; rintro e w' ⟨rfl, x1, rfl⟩)
   refine bodyPost_ret (v := .tuple #[.int .i64 0, .int .i64 z]) (by simp [results, Tryz.results23, go_sem]) rfl (retX rfl (by (repeat' first | with_reducible (first | apply bz0 | assumption | apply bz1 | apply bz2 | apply bz3 | apply bz4 | apply bz5) | (simp <;> omega))))
end Go.Proofs.YtekieoamelahkaaGreat
