/- The function of checkCanopies; checkCanopies. -/
import Derived.Test.YtbonjgeglhbhnaaGreatM26
import Derived.Test.YtbonjgeglhbhnaaGreatM27
import Derived.Test.YtbonjgeglhbhnaaGreatM29
set_option linter.unusedVariables false
set_option linter.unusedSimpArgs false
namespace Go.Proofs.YtbonjgeglhbhnaaGreat
open Go.RowKit Go.Shelf
attribute [local go_sem] Oper.semAt_some

def canNames (H : Hal) (i : Nat) : List ByteArray := (H.cans.take i).map (·.name)
def canE (H : Hal) (ms fs : List ByteArray) (i : Nat) : Int :=
  if nameB (canAt H.cans i).name = false then 4 else if hasName (fs ++ canNames H i) (canAt H.cans i).name = true then 5 else if hasName ms (canAt H.cans i).mat = false then 6
  else if heightsE H.height (canAt H.cans i).hs ≠ 0 then heightsE H.height (canAt H.cans i).hs else shtE H (canAt H.cans i).f.x (canAt H.cans i).f.y (canAt H.cans i).t.x (canAt H.cans i).t.y
theorem canNames_succ {H : Hal} {i : Nat} (fs : List ByteArray) (h : i < H.cans.length) : fs ++ canNames H (i + 1) = (fs ++ canNames H i) ++ [(canAt H.cans i).name] := by
  unfold canNames canAt
  rw [List.take_add_one, List.getElem?_eq_getElem h, List.map_append, List.append_assoc]
  rfl
theorem can_sized {H : Hal} (hs : H.Sized) (i : Nat) (hi : i < H.cans.length) : (canAt H.cans i).name.size ≤ 1000000 := by
  have : canAt H.cans i = H.cans[i] := by unfold canAt; rw [List.getElem?_eq_getElem hi]; rfl
  rw [this]
  exact (hs.cans _ (List.getElem_mem hi)).1

set_option maxRecDepth 100000 in set_option maxHeartbeats 1000000 in
theorem can1 {w : World} {b c M F T : Nat} {H : Hal} {ms fs0 ts : List ByteArray} (hS : SurAt w b H M F T) (hC : CorsIn H) (hNn : H.cors.length ≤ 20) (hc : w.cell? ⟨c, 0, none⟩ = some (.pointer (some ⟨b, 0, none⟩))) (i : Nat) (hi : i < H.cans.length) (hN : Names w M F T ms (fs0 ++ canNames H i) ts) :
    Calls Tryz.prog 164 #[.int .i64 i, .pointer (some ⟨c, 0, none⟩)] w (fun e w' => e = .returned (.int .i64 (canE H ms fs0 i)) ∧ Touch [M, F, T] w w' ∧ (canE H ms fs0 i = 0 → Names w' M F T ms (fs0 ++ canNames H (i + 1)) ts)) := by
  have HE : Hid (canE H ms fs0 i = if nameB (canAt H.cans i).name = false then 4 else if hasName (fs0 ++ canNames H i) (canAt H.cans i).name = true then 5 else if hasName ms (canAt H.cans i).mat = false then 6
    else if heightsE H.height (canAt H.cans i).hs ≠ 0 then heightsE H.height (canAt H.cans i).hs else shtE H (canAt H.cans i).f.x (canAt H.cans i).f.y (canAt H.cans i).t.x (canAt H.cans i).t.y) := rfl
  have HS := hidden (canNames_succ fs0 hi)
  have hS' := hS
  obtain ⟨⟨v4, v5, v6, v7, v8, v9, v10, hR⟩, hmm, hm, _⟩ := hS'
  obtain ⟨A, c4, rfl, hS4⟩ := slc_form hR.hal.cans
  obtain ⟨g, o, rfl, hg, hcs⟩ := can_at hS4 hi
  have HN := hidden (fun W => isName_any (canAt H.cans i).name (can_sized hR.hal.sized i hi) W)
  have l4 := hS4.1
  obtain ⟨k0, k1, k2, k3, k4, k5, A', c', k6, hL⟩ := hcs i hi
  have HH := hidden (fun (W : World) (hW : Kept w W) => checkHeights_sur (hS.kept hW) (canAt H.cans i).hs A' c' (hL.kept hW))
  have HQ := hidden (fun (W : World) (hW : Kept w W) => checkSheet_sur (hS.kept hW) hC hNn (canAt H.cans i).name (canAt H.cans i).mat (canAt H.cans i).f.x (canAt H.cans i).f.y (canAt H.cans i).t.x (canAt H.cans i).t.y (.slice A' (canAt H.cans i).hs.length c') ⟨_, _, _, rfl⟩)
  have h7 := hR.c7
  have hb := hR.has
  have hM := hN.f
  have hMM := hN.m
  have hMh : w.Has F := hM.has
  have hMMh : w.Has M := hMM.has
  have hch := has_of_cell hc
  have nb := hM.ne h7
  have nc := hM.ne hc
  have ns : w.heap.size ≠ F := fun e => absurd hMh (by rw [← e]; exact Nat.lt_irrefl _)
  clear hR hS4 hcs hL hS
  have HL := look_set (b := F) (ns := fs0 ++ canNames H i)
  have HLM := look_set (b := M) (ns := ms)
  have HT := hidden (hN.touch (w' := w) (Below.refl _ _))
  generalize canE H ms fs0 i = E at *
  generalize heightsE H.height (canAt H.cans i).hs = I at *
  generalize shtE H (canAt H.cans i).f.x (canAt H.cans i).f.y (canAt H.cans i).t.x (canAt H.cans i).t.y = J at *
  generalize fs0 ++ canNames H (i + 1) = fs' at *
  generalize fs0 ++ canNames H i = fs at *
  generalize (canAt H.cans i).f.x = p1 at *
  generalize (canAt H.cans i).f.y = p2 at *
  generalize (canAt H.cans i).t.x = p3 at *
  generalize (canAt H.cans i).t.y = p4 at *
  generalize (canAt H.cans i).hs.length = hn at *
  generalize (canAt H.cans i).name = nm at *
  generalize (canAt H.cans i).mat = ma at *
  generalize H.cans.length = n at *
  refine (callsIn_wide (n := 10)).1 ?_
  refine callsIn_of_wp Tryz.func164 rfl trivial ?_ rfl
  simp only [Tryz.ntmps164, List.size_toArray, List.length_cons, List.length_nil, Nat.reduceAdd, Nat.reduceSub, Array.replicate_succ, Array.replicate_zero, List.push_toArray, List.append_toArray, List.nil_append, List.cons_append]
  cases q0 : nameB nm with
  | false =>
    rw [q0] at HE HN
    have hE := HE.out
    rw [if_pos rfl] at hE
    subst hE
    clear HE
    gi_wp2
    (refine ⟨trivial, ?_⟩; ((with_reducible refine (callsIn_wide.2 (HN.out _)).mono ?_); rintro e w' ⟨rfl, x1, rfl⟩))
    gi_wp2
    refine bodyPost_ret (v := .int .i64 4) (by simp [results, Tryz.results164, go_sem]) rfl ⟨rfl, HT.out.step (by (repeat' (first | (with_reducible exact Below.refl _ _) | (with_reducible assumption) | (with_reducible refine Below.drew ?_) | (with_reducible refine Below.drewNStep ?_ _) | (with_reducible refine Below.alloc ?_ ?_ _) | (with_reducible refine Below.setCell ?_ ?_ _) | (with_reducible refine Below.extStep ?_ ?_ _) | (simp; done) | (simp; omega)))), fun h => absurd h (by decide)⟩
  | true =>
    rw [q0] at HE HN
    cases q1 : hasName fs nm with
    | true =>
      have hE := HE.out
      rw [if_neg (by decide), q1, if_pos rfl] at hE
      subst hE
      clear HE
      gi_wp2
      (refine ⟨trivial, ?_⟩; ((with_reducible refine (callsIn_wide.2 (HN.out _)).mono ?_); rintro e w' ⟨rfl, x1, rfl⟩))
      gi_wp2
      refine wpIn_wide.2 ?_
      (refine wp_region_tameX (by kernel_rfl) (by kernel_rfl) ?_); (repeat (first | (refine wpTame_skip rfl ?_; simp only [Act.put, List.setIfInBounds_toArray, List.set_cons_succ, List.set_cons_zero]) | (refine wpTame_pure rfl rfl rfl (fun K hK => ?_); go_big_quiet_op; refine hK _ ?_; clear hK K) | (refine wpTame_eff rfl rfl (fun K hK => ?_); go_big_op; (first | fail | skip); (refine hK _ _ rfl (ext_of_below (by (repeat' (first | (with_reducible exact Below.refl _ _) | (with_reducible assumption) | (with_reducible refine Below.drew ?_) | (with_reducible refine Below.drewNStep ?_ _) | (with_reducible refine Below.alloc ?_ ?_ _) | (with_reducible refine Below.setCell ?_ ?_ _) | (with_reducible refine Below.extStep ?_ ?_ _) | (simp; done) | (simp; omega))))) ?_; clear hK K)))); (refine wpTame_nil ?_)
      gi_wp2
      refine bodyPost_ret (v := .int .i64 5) (by simp [results, Tryz.results164, go_sem]) rfl ⟨rfl, HT.out.step (by (repeat' (first | (with_reducible exact Below.refl _ _) | (with_reducible assumption) | (with_reducible refine Below.drew ?_) | (with_reducible refine Below.drewNStep ?_ _) | (with_reducible refine Below.alloc ?_ ?_ _) | (with_reducible refine Below.setCell ?_ ?_ _) | (with_reducible refine Below.extStep ?_ ?_ _) | (simp; done) | (simp; omega)))), fun h => absurd h (by decide)⟩
    | false =>
      cases q2 : hasName ms ma with
      | false =>
        have hE := HE.out
        rw [if_neg (by decide), q1, if_neg (by decide), q2, if_pos rfl] at hE
        subst hE
        clear HE
        gi_wp2
        (refine ⟨trivial, ?_⟩; ((with_reducible refine (callsIn_wide.2 (HN.out _)).mono ?_); rintro e w' ⟨rfl, x1, rfl⟩))
        gi_wp2
        refine wpIn_wide.2 ?_
        (refine wp_region_tameX (by kernel_rfl) (by kernel_rfl) ?_); (repeat (first | (refine wpTame_skip rfl ?_; simp only [Act.put, List.setIfInBounds_toArray, List.set_cons_succ, List.set_cons_zero]) | (refine wpTame_pure rfl rfl rfl (fun K hK => ?_); go_big_quiet_op; refine hK _ ?_; clear hK K) | (refine wpTame_eff rfl rfl (fun K hK => ?_); go_big_op; (first | fail | skip); (refine hK _ _ rfl (ext_of_below (by (repeat' (first | (with_reducible exact Below.refl _ _) | (with_reducible assumption) | (with_reducible refine Below.drew ?_) | (with_reducible refine Below.drewNStep ?_ _) | (with_reducible refine Below.alloc ?_ ?_ _) | (with_reducible refine Below.setCell ?_ ?_ _) | (with_reducible refine Below.extStep ?_ ?_ _) | (simp; done) | (simp; omega))))) ?_; clear hK K)))); (refine wpTame_nil ?_)
        gi_wp2
        refine wpIn_wide.2 ?_
        (refine wp_region_tameX (by kernel_rfl) (by kernel_rfl) ?_); (repeat (first | (refine wpTame_skip rfl ?_; simp only [Act.put, List.setIfInBounds_toArray, List.set_cons_succ, List.set_cons_zero]) | (refine wpTame_pure rfl rfl rfl (fun K hK => ?_); go_big_quiet_op; refine hK _ ?_; clear hK K) | (refine wpTame_eff rfl rfl (fun K hK => ?_); go_big_op; (first | fail | skip); (refine hK _ _ rfl (ext_of_below (by (repeat' (first | (with_reducible exact Below.refl _ _) | (with_reducible assumption) | (with_reducible refine Below.drew ?_) | (with_reducible refine Below.drewNStep ?_ _) | (with_reducible refine Below.alloc ?_ ?_ _) | (with_reducible refine Below.setCell ?_ ?_ _) | (with_reducible refine Below.extStep ?_ ?_ _) | (simp; done) | (simp; omega))))) ?_; clear hK K)))); (refine wpTame_nil ?_)
        gi_wp2
        refine bodyPost_ret (v := .int .i64 6) (by simp [results, Tryz.results164, go_sem]) rfl ⟨rfl, HT.out.step (by (repeat' (first | (with_reducible exact Below.refl _ _) | (with_reducible assumption) | (with_reducible refine Below.drew ?_) | (with_reducible refine Below.drewNStep ?_ _) | (with_reducible refine Below.alloc ?_ ?_ _) | (with_reducible refine Below.setCell ?_ ?_ _) | (with_reducible refine Below.extStep ?_ ?_ _) | (simp; done) | (simp; omega)))), fun h => absurd h (by decide)⟩
      | true =>
        have hE := HE.out
        rw [if_neg (by decide), q1, if_neg (by decide), q2, if_neg (by decide)] at hE
        clear HE
        have HP : ∀ o x, (Instr.mapUpdate 179 (.map (some F)) (.string nm) (.bool true)).run Tryz.prog (((w.alloc o).ext x).drew.drew.drew) = .ok () ((((w.alloc o).ext x).drew.drew.drew).putObj F (putMap (((w.alloc o).ext x).drew.drew.drew) F nm)) := fun o x => put_set _ (by simp [hM, hMh]) nm q1
        gi_wp2
        (refine ⟨trivial, ?_⟩; ((with_reducible refine (callsIn_wide.2 (HN.out _)).mono ?_); rintro e w' ⟨rfl, x1, rfl⟩))
        gi_wp2
        refine wpIn_wide.2 ?_
        (refine wp_region_tameX (by kernel_rfl) (by kernel_rfl) ?_); (repeat (first | (refine wpTame_skip rfl ?_; simp only [Act.put, List.setIfInBounds_toArray, List.set_cons_succ, List.set_cons_zero]) | (refine wpTame_pure rfl rfl rfl (fun K hK => ?_); go_big_quiet_op; refine hK _ ?_; clear hK K) | (refine wpTame_eff rfl rfl (fun K hK => ?_); go_big_op; (first | fail | skip); (refine hK _ _ rfl (ext_of_below (by (repeat' (first | (with_reducible exact Below.refl _ _) | (with_reducible assumption) | (with_reducible refine Below.drew ?_) | (with_reducible refine Below.drewNStep ?_ _) | (with_reducible refine Below.alloc ?_ ?_ _) | (with_reducible refine Below.setCell ?_ ?_ _) | (with_reducible refine Below.extStep ?_ ?_ _) | (simp; done) | (simp; omega))))) ?_; clear hK K)))); (refine wpTame_nil ?_)
        gi_wp2
        refine wpIn_wide.2 ?_
        (refine wp_region_tameX (by kernel_rfl) (by kernel_rfl) ?_); (repeat (first | (refine wpTame_skip rfl ?_; simp only [Act.put, List.setIfInBounds_toArray, List.set_cons_succ, List.set_cons_zero]) | (refine wpTame_pure rfl rfl rfl (fun K hK => ?_); go_big_quiet_op; refine hK _ ?_; clear hK K) | (refine wpTame_eff rfl rfl (fun K hK => ?_); go_big_op; (first | fail | skip); (refine hK _ _ rfl (ext_of_below (by (repeat' (first | (with_reducible exact Below.refl _ _) | (with_reducible assumption) | (with_reducible refine Below.drew ?_) | (with_reducible refine Below.drewNStep ?_ _) | (with_reducible refine Below.alloc ?_ ?_ _) | (with_reducible refine Below.setCell ?_ ?_ _) | (with_reducible refine Below.extStep ?_ ?_ _) | (simp; done) | (simp; omega))))) ?_; clear hK K)))); (refine wpTame_nil ?_)
        gi_wp2
        refine wpIn_wide.2 ?_
        (refine wp_region_tameH (F) (by kernel_rfl) (by kernel_rfl) ?_); (repeat (first | (refine wpTame_skip rfl ?_; simp only [Act.put, List.setIfInBounds_toArray, List.set_cons_succ, List.set_cons_zero]) | (refine wpTame_pure rfl rfl rfl (fun K hK => ?_); go_big_quiet_op; refine hK _ ?_; clear hK K) | (refine wpTame_eff rfl rfl (fun K hK => ?_); go_big_op; (first | fail | skip); (refine hK _ _ rfl (hole_of (by (repeat' (first | (with_reducible exact HoleRel.refl _ _ _) | (with_reducible assumption) | (with_reducible refine HoleRel.swap ?_ _ _) | (with_reducible refine HoleRel.drew ?_) | (with_reducible refine HoleRel.drewN ?_ _) | (with_reducible refine HoleRel.setCell ?_ ?_ _) | (with_reducible refine HoleRel.putObj ?_ ?_ _) | (with_reducible refine HoleRel.alloc ?_ ?_ _) | (with_reducible refine HoleRel.ext ?_ ?_ _) | (exact Or.inl rfl) | (simp; done) | (simp; omega))))) ?_; clear hK K)))); (refine wpTame_nil ?_)
        generalize hX : World.putObj _ _ _ = X
        have TX : Touch [M, F, T] w X := by rw [← hX]; exact (HT.out.step (by (repeat' (first | (with_reducible exact Below.refl _ _) | (with_reducible assumption) | (with_reducible refine Below.drew ?_) | (with_reducible refine Below.drewNStep ?_ _) | (with_reducible refine Below.alloc ?_ ?_ _) | (with_reducible refine Below.setCell ?_ ?_ _) | (with_reducible refine Below.extStep ?_ ?_ _) | (simp; done) | (simp; omega))))).trans (Names.touchPut (hN.below (by (repeat' (first | (with_reducible exact Below.refl _ _) | (with_reducible assumption) | (with_reducible refine Below.drew ?_) | (with_reducible refine Below.drewNStep ?_ _) | (with_reducible refine Below.alloc ?_ ?_ _) | (with_reducible refine Below.setCell ?_ ?_ _) | (with_reducible refine Below.extStep ?_ ?_ _) | (simp; done) | (simp; omega))))) (by simp) nm)
        have NX : Names X M F T ms (fs ++ [nm]) ts := by rw [← hX]; exact (hN.below (by (repeat' (first | (with_reducible exact Below.refl _ _) | (with_reducible assumption) | (with_reducible refine Below.drew ?_) | (with_reducible refine Below.drewNStep ?_ _) | (with_reducible refine Below.alloc ?_ ?_ _) | (with_reducible refine Below.setCell ?_ ?_ _) | (with_reducible refine Below.extStep ?_ ?_ _) | (simp; done) | (simp; omega))))).addF nm
        have z0 : X.cell? ⟨w.heap.size, 0, none⟩ = some (.string nm) := by rw [← hX]; exact cell_put ns (by simp [go_sem])
        have z1 : X.cell? ⟨w.heap.size, 1, none⟩ = some (.string ma) := by rw [← hX]; exact cell_put ns (by simp [go_sem])
        have z2 : X.cell? ⟨w.heap.size, 2, none⟩ = some (.int .i64 p1) := by rw [← hX]; exact cell_put ns (by simp [go_sem])
        have z3 : X.cell? ⟨w.heap.size, 3, none⟩ = some (.int .i64 p2) := by rw [← hX]; exact cell_put ns (by simp [go_sem])
        have z4 : X.cell? ⟨w.heap.size, 4, none⟩ = some (.int .i64 p3) := by rw [← hX]; exact cell_put ns (by simp [go_sem])
        have z5 : X.cell? ⟨w.heap.size, 5, none⟩ = some (.int .i64 p4) := by rw [← hX]; exact cell_put ns (by simp [go_sem])
        have z6 : X.cell? ⟨w.heap.size, 6, none⟩ = some (.slice A' hn c') := by rw [← hX]; exact cell_put ns (by simp [go_sem])
        replace hc := TX.kept.cell hc
        have hb' := TX.kept.has hb
        clear hX HP HL HLM HN hM hMh hMM hMMh nb nc h7 k0 k1 k2 k3 k4 k5 k6 hm hmm
        have gz := has_of_cell z1
        have hch' := has_of_cell hc
        by_cases q3 : I = 0
        · rw [if_neg (by simp [q3])] at hE
          subst hE
          rw [q3] at HH
          gi_wp2
          (refine ⟨trivial, ?_⟩; ((with_reducible refine (callsIn_wide.2 (HH.out _ ?hk)).mono ?_); (case hk => exact (TX.kept.trans (Kept.of_below (by (repeat' (first | (with_reducible exact Below.refl _ _) | (with_reducible assumption) | (with_reducible refine Below.drew ?_) | (with_reducible refine Below.drewNStep ?_ _) | (with_reducible refine Below.alloc ?_ ?_ _) | (with_reducible refine Below.setCell ?_ ?_ _) | (with_reducible refine Below.extStep ?_ ?_ _) | (simp; done) | (simp; omega))))))); rintro e w' ⟨rfl, u1, rfl⟩))
          gi_wp2
          (refine ⟨trivial, ?_⟩; ((with_reducible refine (callsIn_wide.2 (HQ.out _ ?hk)).mono ?_); (case hk => exact (TX.kept.trans (Kept.of_below (by (repeat' (first | (with_reducible exact Below.refl _ _) | (with_reducible assumption) | (with_reducible refine Below.drew ?_) | (with_reducible refine Below.drewNStep ?_ _) | (with_reducible refine Below.alloc ?_ ?_ _) | (with_reducible refine Below.setCell ?_ ?_ _) | (with_reducible refine Below.extStep ?_ ?_ _) | (simp; done) | (simp; omega))))))); rintro e w' ⟨rfl, u2, rfl⟩))
          gi_wp2
          refine bodyPost_ret (v := .int .i64 E) (by simp [results, Tryz.results164, go_sem]) rfl ⟨rfl, TX.trans (NX.touch (by (repeat' (first | (with_reducible exact Below.refl _ _) | (with_reducible assumption) | (with_reducible refine Below.drew ?_) | (with_reducible refine Below.drewNStep ?_ _) | (with_reducible refine Below.alloc ?_ ?_ _) | (with_reducible refine Below.setCell ?_ ?_ _) | (with_reducible refine Below.extStep ?_ ?_ _) | (simp; done) | (simp; omega))))), fun _ => by rw [HS.out]; exact NX.below (by (repeat' (first | (with_reducible exact Below.refl _ _) | (with_reducible assumption) | (with_reducible refine Below.drew ?_) | (with_reducible refine Below.drewNStep ?_ _) | (with_reducible refine Below.alloc ?_ ?_ _) | (with_reducible refine Below.setCell ?_ ?_ _) | (with_reducible refine Below.extStep ?_ ?_ _) | (simp; done) | (simp; omega))))⟩
        · rw [if_pos q3] at hE
          subst hE
          have q4 : (E != 0) = true := by simp [q3]
          have q5 : (E == 0) = false := by simp [q3]
          gi_wp2
          (refine ⟨trivial, ?_⟩; ((with_reducible refine (callsIn_wide.2 (HH.out _ ?hk)).mono ?_); (case hk => exact (TX.kept.trans (Kept.of_below (by (repeat' (first | (with_reducible exact Below.refl _ _) | (with_reducible assumption) | (with_reducible refine Below.drew ?_) | (with_reducible refine Below.drewNStep ?_ _) | (with_reducible refine Below.alloc ?_ ?_ _) | (with_reducible refine Below.setCell ?_ ?_ _) | (with_reducible refine Below.extStep ?_ ?_ _) | (simp; done) | (simp; omega))))))); rintro e w' ⟨rfl, u1, rfl⟩))
          gi_wp2
          refine bodyPost_ret (v := .int .i64 E) (by simp [results, Tryz.results164, go_sem]) rfl ⟨rfl, TX.trans (NX.touch (by (repeat' (first | (with_reducible exact Below.refl _ _) | (with_reducible assumption) | (with_reducible refine Below.drew ?_) | (with_reducible refine Below.drewNStep ?_ _) | (with_reducible refine Below.alloc ?_ ?_ _) | (with_reducible refine Below.setCell ?_ ?_ _) | (with_reducible refine Below.extStep ?_ ?_ _) | (simp; done) | (simp; omega))))), fun h => absurd h q3⟩


def cansV (H : Hal) (ms fs : List ByteArray) : Value := if 4 < H.cans.length then .agg #[.int .i64 0, .int .i64 0, .int .i64 8] else oneV 4 (canE H ms fs) H.cans.length
def cansOk (H : Hal) (ms fs : List ByteArray) : Bool := !decide (4 < H.cans.length) && (firstBad (canE H ms fs) H.cans.length).isNone
set_option maxRecDepth 100000 in set_option maxHeartbeats 1000000 in
theorem checkCanopies_sur {w : World} {b M F T : Nat} {H : Hal} {ms fs ts : List ByteArray} (hS : SurAt w b H M F T) (hC : CorsIn H) (hNn : H.cors.length ≤ 20) (hN : Names w M F T ms fs ts) :
    Calls Tryz.prog 136 #[.pointer (some ⟨b, 0, none⟩)] w (fun e w' => e = .returned (cansV H ms fs) ∧ Touch [M, F, T] w w' ∧ (cansOk H ms fs = true → Names w' M F T ms (fs ++ H.cans.map (·.name)) ts)) := by
  have HV : Hid (cansV H ms fs = if 4 < H.cans.length then .agg #[.int .i64 0, .int .i64 0, .int .i64 8] else oneV 4 (canE H ms fs) H.cans.length) := rfl
  have HO : Hid (cansOk H ms fs = (!decide (4 < H.cans.length) && (firstBad (canE H ms fs) H.cans.length).isNone)) := rfl
  have hn0 : Names w M F T ms (fs ++ canNames H 0) ts := by simpa [canNames] using hN
  have hnn : canNames H H.cans.length = H.cans.map (·.name) := by simp [canNames]
  have HC := hidden (fun (W : World) (c : Nat) (hW : Below w.heap.size w W) (hc : W.cell? ⟨c, 0, none⟩ = some (.pointer (some ⟨b, 0, none⟩))) =>
    oneByOne_any 164 (.pointer (some ⟨c, 0, none⟩)) (enters_of Tryz.func164 (by kernel_rfl) rfl) 4 H.cans.length (by obtain ⟨⟨_, _, _, _, _, _, _, hR⟩, _⟩ := hS; exact hR.hal.cans.1) (canE H ms fs) [M, F, T] (fun k V => Names V M F T ms (fs ++ canNames H k) ts) W
      (hn0.below hW).maps (fun k V V' hb h => h.belowD hb (hn0.below hW).m.has (hn0.below hW).f.has (hn0.below hW).t.has)
      (fun k V hk ht hn => can1 ((hS.below hW).kept ht.kept) hC hNn (ht.kept.cell hc) k hk hn) (hn0.below hW))
  obtain ⟨⟨v4, v5, v6, v7, v8, v9, v10, hR⟩, hm, _, _⟩ := hS
  obtain ⟨A, c4, rfl, hS4⟩ := slc_form hR.hal.cans
  have h7 := hR.c7
  have hb := hR.has
  have l4 := hS4.1
  clear hR hS4
  rw [← hnn]
  clear hnn
  generalize cansV H ms fs = V at *
  generalize cansOk H ms fs = O at *
  generalize H.cans.length = n at *
  cases q : decide ((4 : Int) < (n : Int)) with
  | true =>
    have hv : V = .agg #[.int .i64 0, .int .i64 0, .int .i64 8] := by rw [HV.out, if_pos (by simp at q; omega)]
    have ho : O = false := by rw [HO.out]; simp at q; simp; omega
    subst hv ho
    clear HC HV HO
    go_enter Tryz.func136, Tryz.ntmps136
    go_wp2_with (go_at_call 157; refine (whole_any _ _).mono ?_; rintro e w' ⟨rfl, x2, rfl⟩)
    refine bodyPost_ret (v := .agg #[.int .i64 0, .int .i64 0, .int .i64 8]) (by simp [results, Tryz.results136, go_sem]) rfl ⟨rfl, hN.touch (by (repeat' (first | (with_reducible exact Below.refl _ _) | (with_reducible assumption) | (with_reducible refine Below.drew ?_) | (with_reducible refine Below.drewNStep ?_ _) | (with_reducible refine Below.alloc ?_ ?_ _) | (with_reducible refine Below.setCell ?_ ?_ _) | (with_reducible refine Below.extStep ?_ ?_ _) | (simp; done) | (simp; omega)))), fun h => by cases h⟩
  | false =>
    have hv : V = oneV 4 (canE H ms fs) n := by rw [HV.out, if_neg (by simp at q; omega)]
    have ho : Hid (O = true → firstBad (canE H ms fs) n = none) := by
      intro h
      rw [HO.out] at h
      simp only [Bool.and_eq_true] at h
      simpa using h.2
    subst hv
    clear HV HO
    obtain ⟨x, y, z, hz⟩ := oneV_form 4 (canE H ms fs) n
    rw [hz]
    rw [hz] at HC
    clear hz
    go_enter Tryz.func136, Tryz.ntmps136
    go_wp2_with (go_at_call 158; refine (HC.out _ _ (by (repeat' (first | (with_reducible exact Below.refl _ _) | (with_reducible assumption) | (with_reducible refine Below.drew ?_) | (with_reducible refine Below.drewNStep ?_ _) | (with_reducible refine Below.alloc ?_ ?_ _) | (with_reducible refine Below.setCell ?_ ?_ _) | (with_reducible refine Below.extStep ?_ ?_ _) | (simp; done) | (simp; omega)))) (by simp [go_sem])).mono ?_; rintro e w1 ⟨rfl, hT1, hN1⟩; obtain ⟨r0, r1, r2, f0, f1, f2⟩ := OneR.touch (s := w.heap.size + 1) ⟨by simp [go_sem], by simp [go_sem], by simp [go_sem], by simp [go_sem], by simp [go_sem], by simp [go_sem]⟩ hT1; have gr := has_of_cell r0; have hsz := hT1.size; simp only [World.size_alloc] at hsz)
    refine bodyPost_ret (v := .agg #[.int .i64 x, .int .i64 y, .int .i64 z]) (by simp [results, Tryz.results136, go_sem, r0, r1, r2, gr]) rfl ⟨rfl, ((hN.touch (by (repeat' (first | (with_reducible exact Below.refl _ _) | (with_reducible assumption) | (with_reducible refine Below.drew ?_) | (with_reducible refine Below.drewNStep ?_ _) | (with_reducible refine Below.alloc ?_ ?_ _) | (with_reducible refine Below.setCell ?_ ?_ _) | (with_reducible refine Below.extStep ?_ ?_ _) | (simp; done) | (simp; omega))))).trans hT1).step (by (repeat' (first | (with_reducible exact Below.refl _ _) | (with_reducible assumption) | (with_reducible refine Below.drew ?_) | (with_reducible refine Below.drewNStep ?_ _) | (with_reducible refine Below.alloc ?_ ?_ _) | (with_reducible refine Below.setCell ?_ ?_ _) | (with_reducible refine Below.extStep ?_ ?_ _) | (simp; done) | (simp; omega)))), fun h => (hN1 (ho.out h)).belowD (D := w.heap.size) (by (repeat' (first | (with_reducible exact Below.refl _ _) | (with_reducible assumption) | (with_reducible refine Below.drew ?_) | (with_reducible refine Below.drewNStep ?_ _) | (with_reducible refine Below.alloc ?_ ?_ _) | (with_reducible refine Below.setCell ?_ ?_ _) | (with_reducible refine Below.extStep ?_ ?_ _) | (simp; done) | (simp; omega)))) hN.m.has hN.f.has hN.t.has⟩
end Go.Proofs.YtbonjgeglhbhnaaGreat
