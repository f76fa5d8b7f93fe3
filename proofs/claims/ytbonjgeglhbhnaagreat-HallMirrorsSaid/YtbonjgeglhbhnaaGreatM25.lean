/- The function of checkMaterials. -/
import Derived.Test.YtbonjgeglhbhnaaGreatM24
set_option linter.unusedVariables false
set_option linter.unusedSimpArgs false
namespace Go.Proofs.YtbonjgeglhbhnaaGreat
open Go.RowKit Go.Shelf
attribute [local go_sem] Oper.semAt_some

def shareB (n : Int) : Bool := decide (0 ≤ n ∧ n ≤ 1000)
def matA (m : Mat) (k : Nat) : Int := if k = 0 then m.a0 else if k = 1 then m.a1 else if k = 2 then m.a2 else m.a3
def sharesB (m : Mat) : Bool := shareB m.a0 && shareB m.a1 && shareB m.a2 && shareB m.a3 && shareB m.scat
def matNames (H : Hal) (i : Nat) : List ByteArray := (H.mats.take i).map (·.name)
def matE (H : Hal) (i : Nat) : Int :=
  if nameB (matAt H.mats i).name = false then 4 else if hasName (matNames H i) (matAt H.mats i).name = true then 5 else if sharesB (matAt H.mats i) = false then 2 else 0
theorem matNames_succ {H : Hal} {i : Nat} (h : i < H.mats.length) : matNames H (i + 1) = matNames H i ++ [(matAt H.mats i).name] := by
  unfold matNames matAt
  rw [List.take_add_one, List.getElem?_eq_getElem h, List.map_append]
  rfl

theorem mat_sized {H : Hal} (hs : H.Sized) (i : Nat) (hi : i < H.mats.length) : (matAt H.mats i).name.size ≤ 1000000 := by
  have : matAt H.mats i = H.mats[i] := by unfold matAt; rw [List.getElem?_eq_getElem hi]; rfl
  rw [this]
  exact hs.mats _ (List.getElem_mem hi)

set_option maxRecDepth 100000 in set_option maxHeartbeats 1000000 in
theorem mats1 {w : World} {b c M F T : Nat} {H : Hal} {fs ts : List ByteArray} (hS : SurAt w b H M F T) (hc : w.cell? ⟨c, 0, none⟩ = some (.pointer (some ⟨b, 0, none⟩))) (i : Nat) (hi : i < H.mats.length) (hN : Names w M F T (matNames H i) fs ts) :
    Calls Tryz.prog 159 #[.int .i64 i, .pointer (some ⟨c, 0, none⟩)] w (fun e w' => e = .returned (.int .i64 (matE H i)) ∧ Touch [M, F, T] w w' ∧ (matE H i = 0 → Names w' M F T (matNames H (i + 1)) fs ts)) := by
  have HE : Hid (matE H i = if nameB (matAt H.mats i).name = false then 4 else if hasName (matNames H i) (matAt H.mats i).name = true then 5 else if sharesB (matAt H.mats i) = false then 2 else 0) := rfl
  have HS := hidden (matNames_succ hi)
  obtain ⟨⟨v4, v5, v6, v7, v8, v9, v10, hR⟩, hm, _, _⟩ := hS
  obtain ⟨A, c4, rfl, hS4⟩ := slc_form hR.hal.mats
  obtain ⟨g, o, rfl, hg, hcs⟩ := mat_at hS4 hi
  have HN := hidden (fun W => isName_any (matAt H.mats i).name (mat_sized hR.hal.sized i hi) W)
  have l4 := hS4.1
  obtain ⟨k0, k1, k2, k3, k4, k5⟩ := hcs i hi
  have h4 := hR.c4
  have hb := hR.has
  have hM := hN.m
  have hMh : w.Has M := hM.has
  have hch := has_of_cell hc
  have nb := hM.ne h4
  have nc := hM.ne hc
  have ns : w.heap.size ≠ M := fun e => absurd hMh (by rw [← e]; exact Nat.lt_irrefl _)
  clear hR hS4 hcs
  have HL := look_set (b := M) (ns := matNames H i)
  have HT := hidden (hN.touch (w' := w) (Below.refl _ _))
  generalize matE H i = E at *
  generalize matNames H (i + 1) = ms' at *
  generalize matNames H i = ms at *
  generalize matAt H.mats i = m at *
  generalize H.mats.length = n at *
  obtain ⟨nm, a0, a1, a2, a3, sc⟩ := m
  simp only at *
  refine (callsIn_wide (n := 10)).1 ?_
  refine callsIn_of_wp Tryz.func159 rfl trivial ?_ rfl
  simp only [Tryz.ntmps159, List.size_toArray, List.length_cons, List.length_nil, Nat.reduceAdd, Nat.reduceSub, Array.replicate_succ, Array.replicate_zero, List.push_toArray, List.append_toArray, List.nil_append, List.cons_append]
  cases q0 : nameB nm with
  | false =>
    rw [q0] at HE HN
    have hE := HE.out
    rw [if_pos rfl] at hE
    subst hE
    clear HE
    gi_wp2
    (refine ⟨trivial, ?_⟩; ((with_reducible refine (callsIn_wide.2 (HN.out _)).mono ?_); rintro e w' ⟨rfl, x1, rfl⟩))
    gi_wp2
    refine bodyPost_ret (v := .int .i64 4) (by simp [results, Tryz.results159, go_sem]) rfl ⟨rfl, HT.out.step (by (repeat' (first | (with_reducible exact Below.refl _ _) | (with_reducible assumption) | (with_reducible refine Below.drew ?_) | (with_reducible refine Below.drewNStep ?_ _) | (with_reducible refine Below.alloc ?_ ?_ _) | (with_reducible refine Below.setCell ?_ ?_ _) | (with_reducible refine Below.extStep ?_ ?_ _) | (simp; done) | (simp; omega)))), fun h => absurd h (by decide)⟩
  | true =>
    rw [q0] at HE HN
    cases q1 : hasName ms nm with
    | true =>
      have hE := HE.out
      rw [if_neg (by decide), q1, if_pos rfl] at hE
      subst hE
      clear HE
      gi_wp2
      (refine ⟨trivial, ?_⟩; ((with_reducible refine (callsIn_wide.2 (HN.out _)).mono ?_); rintro e w' ⟨rfl, x1, rfl⟩))
      gi_wp2
      refine wpIn_wide.2 ?_
      (refine wp_region_tameX (by kernel_rfl) (by kernel_rfl) ?_); (repeat (first | (refine wpTame_skip rfl ?_; simp only [Act.put, List.setIfInBounds_toArray, List.set_cons_succ, List.set_cons_zero]) | (refine wpTame_pure rfl rfl rfl (fun K hK => ?_); go_big_quiet_op; refine hK _ ?_; clear hK K) | (refine wpTame_eff rfl rfl (fun K hK => ?_); go_big_op; (first | fail | skip); (refine hK _ _ rfl (ext_of_below (by (repeat' (first | (with_reducible exact Below.refl _ _) | (with_reducible assumption) | (with_reducible refine Below.drew ?_) | (with_reducible refine Below.drewNStep ?_ _) | (with_reducible refine Below.alloc ?_ ?_ _) | (with_reducible refine Below.setCell ?_ ?_ _) | (with_reducible refine Below.extStep ?_ ?_ _) | (simp; done) | (simp; omega))))) ?_; clear hK K)))); (refine wpTame_nil ?_)
      gi_wp2
      refine bodyPost_ret (v := .int .i64 5) (by simp [results, Tryz.results159, go_sem]) rfl ⟨rfl, HT.out.step (by (repeat' (first | (with_reducible exact Below.refl _ _) | (with_reducible assumption) | (with_reducible refine Below.drew ?_) | (with_reducible refine Below.drewNStep ?_ _) | (with_reducible refine Below.alloc ?_ ?_ _) | (with_reducible refine Below.setCell ?_ ?_ _) | (with_reducible refine Below.extStep ?_ ?_ _) | (simp; done) | (simp; omega)))), fun h => absurd h (by decide)⟩
    | false =>
      have HP : ∀ o x, (Instr.mapUpdate 179 (.map (some M)) (.string nm) (.bool true)).run Tryz.prog (((w.alloc o).ext x).drew.drew) = .ok () ((((w.alloc o).ext x).drew.drew).putObj M (putMap (((w.alloc o).ext x).drew.drew) M nm)) := fun o x => put_set _ (by simp [hM, hMh]) nm q1
      gi_wp2
      (refine ⟨trivial, ?_⟩; ((with_reducible refine (callsIn_wide.2 (HN.out _)).mono ?_); rintro e w' ⟨rfl, x1, rfl⟩))
      gi_wp2
      refine wpIn_wide.2 ?_
      (refine wp_region_tameX (by kernel_rfl) (by kernel_rfl) ?_); (repeat (first | (refine wpTame_skip rfl ?_; simp only [Act.put, List.setIfInBounds_toArray, List.set_cons_succ, List.set_cons_zero]) | (refine wpTame_pure rfl rfl rfl (fun K hK => ?_); go_big_quiet_op; refine hK _ ?_; clear hK K) | (refine wpTame_eff rfl rfl (fun K hK => ?_); go_big_op; (first | fail | skip); (refine hK _ _ rfl (ext_of_below (by (repeat' (first | (with_reducible exact Below.refl _ _) | (with_reducible assumption) | (with_reducible refine Below.drew ?_) | (with_reducible refine Below.drewNStep ?_ _) | (with_reducible refine Below.alloc ?_ ?_ _) | (with_reducible refine Below.setCell ?_ ?_ _) | (with_reducible refine Below.extStep ?_ ?_ _) | (simp; done) | (simp; omega))))) ?_; clear hK K)))); (refine wpTame_nil ?_)
      gi_wp2
      refine wpIn_wide.2 ?_
      (refine wp_region_tameH (M) (by kernel_rfl) (by kernel_rfl) ?_); (repeat (first | (refine wpTame_skip rfl ?_; simp only [Act.put, List.setIfInBounds_toArray, List.set_cons_succ, List.set_cons_zero]) | (refine wpTame_pure rfl rfl rfl (fun K hK => ?_); go_big_quiet_op; refine hK _ ?_; clear hK K) | (refine wpTame_eff rfl rfl (fun K hK => ?_); go_big_op; (first | fail | skip); (refine hK _ _ rfl (hole_of (by (repeat' (first | (with_reducible exact HoleRel.refl _ _ _) | (with_reducible assumption) | (with_reducible refine HoleRel.swap ?_ _ _) | (with_reducible refine HoleRel.drew ?_) | (with_reducible refine HoleRel.drewN ?_ _) | (with_reducible refine HoleRel.setCell ?_ ?_ _) | (with_reducible refine HoleRel.putObj ?_ ?_ _) | (with_reducible refine HoleRel.alloc ?_ ?_ _) | (with_reducible refine HoleRel.ext ?_ ?_ _) | (exact Or.inl rfl) | (simp; done) | (simp; omega))))) ?_; clear hK K)))); (refine wpTame_nil ?_)
      generalize hX : World.putObj _ _ _ = X
      have TX : Touch [M, F, T] w X := by rw [← hX]; exact (HT.out.step (by (repeat' (first | (with_reducible exact Below.refl _ _) | (with_reducible assumption) | (with_reducible refine Below.drew ?_) | (with_reducible refine Below.drewNStep ?_ _) | (with_reducible refine Below.alloc ?_ ?_ _) | (with_reducible refine Below.setCell ?_ ?_ _) | (with_reducible refine Below.extStep ?_ ?_ _) | (simp; done) | (simp; omega))))).trans (Names.touchPut (hN.below (by (repeat' (first | (with_reducible exact Below.refl _ _) | (with_reducible assumption) | (with_reducible refine Below.drew ?_) | (with_reducible refine Below.drewNStep ?_ _) | (with_reducible refine Below.alloc ?_ ?_ _) | (with_reducible refine Below.setCell ?_ ?_ _) | (with_reducible refine Below.extStep ?_ ?_ _) | (simp; done) | (simp; omega))))) (by simp) nm)
      have NX : Names X M F T (ms ++ [nm]) fs ts := by rw [← hX]; exact (hN.below (by (repeat' (first | (with_reducible exact Below.refl _ _) | (with_reducible assumption) | (with_reducible refine Below.drew ?_) | (with_reducible refine Below.drewNStep ?_ _) | (with_reducible refine Below.alloc ?_ ?_ _) | (with_reducible refine Below.setCell ?_ ?_ _) | (with_reducible refine Below.extStep ?_ ?_ _) | (simp; done) | (simp; omega))))).addM nm
      have z1 : X.cell? ⟨w.heap.size, 1, none⟩ = some (.int .i64 a0) := by rw [← hX]; exact cell_put ns (by simp [go_sem])
      have z2 : X.cell? ⟨w.heap.size, 2, none⟩ = some (.int .i64 a1) := by rw [← hX]; exact cell_put ns (by simp [go_sem])
      have z3 : X.cell? ⟨w.heap.size, 3, none⟩ = some (.int .i64 a2) := by rw [← hX]; exact cell_put ns (by simp [go_sem])
      have z4 : X.cell? ⟨w.heap.size, 4, none⟩ = some (.int .i64 a3) := by rw [← hX]; exact cell_put ns (by simp [go_sem])
      have z5 : X.cell? ⟨w.heap.size, 5, none⟩ = some (.int .i64 sc) := by rw [← hX]; exact cell_put ns (by simp [go_sem])
      clear hX HP HL HN hM hMh nb nc hc h4 k0 k1 k2 k3 k4 k5 hm
      have i0 : ∀ w : World, (Instr.index 74 (.agg #[.int .i64 a0, .int .i64 a1, .int .i64 a2, .int .i64 a3]) (.int .i64 0)).run Tryz.prog w = .ok (.int .i64 a0) w := fun _ => by kernel_rfl
      have i1 : ∀ w : World, (Instr.index 74 (.agg #[.int .i64 a0, .int .i64 a1, .int .i64 a2, .int .i64 a3]) (.int .i64 1)).run Tryz.prog w = .ok (.int .i64 a1) w := fun _ => by kernel_rfl
      have i2 : ∀ w : World, (Instr.index 74 (.agg #[.int .i64 a0, .int .i64 a1, .int .i64 a2, .int .i64 a3]) (.int .i64 2)).run Tryz.prog w = .ok (.int .i64 a2) w := fun _ => by kernel_rfl
      have i3 : ∀ w : World, (Instr.index 74 (.agg #[.int .i64 a0, .int .i64 a1, .int .i64 a2, .int .i64 a3]) (.int .i64 3)).run Tryz.prog w = .ok (.int .i64 a3) w := fun _ => by kernel_rfl
      have HD : Hid (E = if sharesB ⟨nm, a0, a1, a2, a3, sc⟩ = false then 2 else 0) := by
        unfold Hid
        rw [HE.out, if_neg (by decide), q1, if_neg (by decide)]
      clear HE
      gi_wp2
      gi_loopw [37] (fun i wr => ∃ k : Nat, i = .int .i64 k ∧ k ≤ 4 ∧ Below X.heap.size X wr ∧ ∀ j, j < k → shareB (matA ⟨nm, a0, a1, a2, a3, sc⟩ j) = true) (fun i _ => 4 - (intOf i).toNat)
      case atStart => exact ⟨0, rfl, Nat.zero_le _, Below.refl _ _, fun j hj => absurd hj (Nat.not_lt_zero j)⟩
      case round =>
        obtain ⟨k, rfl, hk, hB, hno⟩ := hrel
        rcases Nat.lt_or_ge k 4 with hlt | hge
        · have hk4 : k = 0 ∨ k = 1 ∨ k = 2 ∨ k = 3 := by omega
          have hstop : Hid (∀ a, matA ⟨nm, a0, a1, a2, a3, sc⟩ k = a → shareB a = false → E = 2) := by
            intro a ha hs
            rw [HD.out, if_pos]
            subst ha
            rcases hk4 with rfl | rfl | rfl | rfl <;> (simp only [matA] at hs; simp at hs; simp [sharesB, hs])
          have hgo : Hid (∀ a, matA ⟨nm, a0, a1, a2, a3, sc⟩ k = a → shareB a = true → ∀ j, j < k + 1 → shareB (matA ⟨nm, a0, a1, a2, a3, sc⟩ j) = true) := by
            intro a ha hs j hj
            rcases Nat.lt_or_ge j k with h' | h'
            · exact hno j h'
            · obtain rfl : j = k := by omega
              rw [ha]; exact hs
          rcases hk4 with rfl | rfl | rfl | rfl
          · gi_wp2
            cases p : shareB a0 with
            | false =>
              have p' : decide (0 ≤ a0 ∧ a0 ≤ 1000) = false := p
              have hE := hidden (hstop.out _ rfl p)
              gi_wp2
              refine ⟨trivial, ?_⟩
              ((with_reducible refine (callsIn_wide.2 (isShare_any _ _)).mono ?_); rintro e w' ⟨rfl, rfl⟩)
              gi_wp2
              change bodyPost _ _ _ _ _ _
              refine bodyPost_ret (v := .int .i64 2) (by simp [results, Tryz.results159, go_sem]) rfl ⟨by rw [hE.out], TX.trans (NX.touch hB), fun h => absurd h (by rw [hE.out]; decide)⟩
            | true =>
              have p' : decide (0 ≤ a0 ∧ a0 ≤ 1000) = true := p
              have hg := hidden (hgo.out _ rfl p)
              gi_wp2
              refine ⟨trivial, ?_⟩
              ((with_reducible refine (callsIn_wide.2 (isShare_any _ _)).mono ?_); rintro e w' ⟨rfl, rfl⟩)
              gi_wp2
              go_roundw
              case rel => exact ⟨_, by go_num, by omega, hB, hg.out⟩
              case measure => simp [intOf]
          · gi_wp2
            cases p : shareB a1 with
            | false =>
              have p' : decide (0 ≤ a1 ∧ a1 ≤ 1000) = false := p
              have hE := hidden (hstop.out _ rfl p)
              gi_wp2
              refine ⟨trivial, ?_⟩
              ((with_reducible refine (callsIn_wide.2 (isShare_any _ _)).mono ?_); rintro e w' ⟨rfl, rfl⟩)
              gi_wp2
              change bodyPost _ _ _ _ _ _
              refine bodyPost_ret (v := .int .i64 2) (by simp [results, Tryz.results159, go_sem]) rfl ⟨by rw [hE.out], TX.trans (NX.touch hB), fun h => absurd h (by rw [hE.out]; decide)⟩
            | true =>
              have p' : decide (0 ≤ a1 ∧ a1 ≤ 1000) = true := p
              have hg := hidden (hgo.out _ rfl p)
              gi_wp2
              refine ⟨trivial, ?_⟩
              ((with_reducible refine (callsIn_wide.2 (isShare_any _ _)).mono ?_); rintro e w' ⟨rfl, rfl⟩)
              gi_wp2
              go_roundw
              case rel => exact ⟨_, by go_num, by omega, hB, hg.out⟩
              case measure => simp [intOf]
          · gi_wp2
            cases p : shareB a2 with
            | false =>
              have p' : decide (0 ≤ a2 ∧ a2 ≤ 1000) = false := p
              have hE := hidden (hstop.out _ rfl p)
              gi_wp2
              refine ⟨trivial, ?_⟩
              ((with_reducible refine (callsIn_wide.2 (isShare_any _ _)).mono ?_); rintro e w' ⟨rfl, rfl⟩)
              gi_wp2
              change bodyPost _ _ _ _ _ _
              refine bodyPost_ret (v := .int .i64 2) (by simp [results, Tryz.results159, go_sem]) rfl ⟨by rw [hE.out], TX.trans (NX.touch hB), fun h => absurd h (by rw [hE.out]; decide)⟩
            | true =>
              have p' : decide (0 ≤ a2 ∧ a2 ≤ 1000) = true := p
              have hg := hidden (hgo.out _ rfl p)
              gi_wp2
              refine ⟨trivial, ?_⟩
              ((with_reducible refine (callsIn_wide.2 (isShare_any _ _)).mono ?_); rintro e w' ⟨rfl, rfl⟩)
              gi_wp2
              go_roundw
              case rel => exact ⟨_, by go_num, by omega, hB, hg.out⟩
              case measure => simp [intOf]
          · gi_wp2
            cases p : shareB a3 with
            | false =>
              have p' : decide (0 ≤ a3 ∧ a3 ≤ 1000) = false := p
              have hE := hidden (hstop.out _ rfl p)
              gi_wp2
              refine ⟨trivial, ?_⟩
              ((with_reducible refine (callsIn_wide.2 (isShare_any _ _)).mono ?_); rintro e w' ⟨rfl, rfl⟩)
              gi_wp2
              change bodyPost _ _ _ _ _ _
              refine bodyPost_ret (v := .int .i64 2) (by simp [results, Tryz.results159, go_sem]) rfl ⟨by rw [hE.out], TX.trans (NX.touch hB), fun h => absurd h (by rw [hE.out]; decide)⟩
            | true =>
              have p' : decide (0 ≤ a3 ∧ a3 ≤ 1000) = true := p
              have hg := hidden (hgo.out _ rfl p)
              gi_wp2
              refine ⟨trivial, ?_⟩
              ((with_reducible refine (callsIn_wide.2 (isShare_any _ _)).mono ?_); rintro e w' ⟨rfl, rfl⟩)
              gi_wp2
              go_roundw
              case rel => exact ⟨_, by go_num, by omega, hB, hg.out⟩
              case measure => simp [intOf]
        · obtain rfl : k = 4 := by omega
          replace z5 := (Sim.of_below (D := 0) hB).cell z5
          have g5 := has_of_cell z5
          have hall : shareB a0 = true ∧ shareB a1 = true ∧ shareB a2 = true ∧ shareB a3 = true := ⟨hno 0 (by omega), hno 1 (by omega), hno 2 (by omega), hno 3 (by omega)⟩
          cases p : shareB sc with
          | false =>
            have p' : decide (0 ≤ sc ∧ sc ≤ 1000) = false := p
            have hE : Hid (E = 2) := by unfold Hid; rw [HD.out, if_pos]; simp [sharesB, p]
            clear hno hall
            gi_wp2
            refine ⟨trivial, ?_⟩
            ((with_reducible refine (callsIn_wide.2 (isShare_any _ _)).mono ?_); rintro e w' ⟨rfl, rfl⟩)
            gi_wp2
            change bodyPost _ _ _ _ _ _
            refine bodyPost_ret (v := .int .i64 2) (by simp [results, Tryz.results159, go_sem]) rfl ⟨by rw [hE.out], TX.trans (NX.touch hB), fun h => absurd h (by rw [hE.out]; decide)⟩
          | true =>
            have p' : decide (0 ≤ sc ∧ sc ≤ 1000) = true := p
            have hE : Hid (E = 0) := by unfold Hid; rw [HD.out, if_neg]; simp [sharesB, p, hall]
            clear hno hall
            gi_wp2
            refine ⟨trivial, ?_⟩
            ((with_reducible refine (callsIn_wide.2 (isShare_any _ _)).mono ?_); rintro e w' ⟨rfl, rfl⟩)
            gi_wp2
            change bodyPost _ _ _ _ _ _
            refine bodyPost_ret (v := .int .i64 0) (by simp [results, Tryz.results159, go_sem]) rfl ⟨by rw [hE.out], TX.trans (NX.touch hB), fun _ => by rw [HS.out]; exact NX.below hB⟩
end Go.Proofs.YtbonjgeglhbhnaaGreat
