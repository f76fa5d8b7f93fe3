/- The function of checkMaterials. -/
import Derived.Test.YtekieoamelahkaaGreatM18
import Derived.Test.YtekieoamelahkaaGreatM19
import Derived.Test.YtekieoamelahkaaGreatM10
set_option maxRecDepth 100000
set_option maxHeartbeats 1000000
set_option linter.unusedVariables false
set_option linter.unusedSimpArgs false
namespace Go.Proofs.YtekieoamelahkaaGreat
open Go.RowKit Go.Shelf
attribute [local go_sem] Oper.semAt_some

def shareB (n : Int) : Bool := decide (0 ≤ n ∧ n ≤ 1000)
def matA (m : Mat) (k : Nat) : Int := if k = 0 then m.a0 else if k = 1 then m.a1 else if k = 2 then m.a2 else m.a3
def sharesB (m : Mat) : Bool := shareB m.a0 && shareB m.a1 && shareB m.a2 && shareB m.a3 && shareB m.scat
def matNames (H : Hal) (i : Nat) : List ByteArray := (H.mats.take i).map (·.name)
def matE (H : Hal) (i : Nat) : Int :=
 if nameB (matAt H.mats i).name = false then 4 else if hasName (matNames H i) (matAt H.mats i).name = true then 5 else if sharesB (matAt H.mats i) = false then 2 else 0
theorem matNames_succ {H : Hal} {i : Nat} (h : i < H.mats.length) : matNames H (i + 1) = matNames H i ++ [(matAt H.mats i).name] := by
 unfold matNames matAt
 rw [List.take_add_one, List.getElem?_eq_getElem h, List.map_append]
 rfl

theorem mat_sized {H : Hal} (hs : H.Sized) (i : Nat) (hi : i < H.mats.length) : (matAt H.mats i).name.size ≤ 1000000 := by
 have : matAt H.mats i = H.mats[i] := by unfold matAt; rw [List.getElem?_eq_getElem hi]; rfl
 rw [this]
 exact hs.mats _ (List.getElem_mem hi)

theorem mats1 {w : World} {b c M F T : Nat} {H : Hal} {fs ts : List ByteArray} (hS : SurAt w b H M F T) (hc : w.cell? ⟨c, 0, none⟩ = some (.pointer (some ⟨b, 0, none⟩))) (i : Nat) (hi : i < H.mats.length) (hN : Names w M F T (matNames H i) fs ts) :
 Calls Tryz.prog 126 #[.int .i64 i, .pointer (some ⟨c, 0, none⟩)] w (fun e w' => e = .returned (.int .i64 (matE H i)) ∧ Touch [M, F, T] w w' ∧ (matE H i = 0 → Names w' M F T (matNames H (i + 1)) fs ts)) := by
 have HE : Hid (matE H i = if nameB (matAt H.mats i).name = false then 4 else if hasName (matNames H i) (matAt H.mats i).name = true then 5 else if sharesB (matAt H.mats i) = false then 2 else 0) := rfl
 have HS := hidden (matNames_succ hi)
 obtain ⟨⟨v4, v5, v6, v7, v8, v9, v10, hR⟩, hm, _, _⟩ := hS
 obtain ⟨A, c4, rfl, hS4⟩ := slc_form hR.hal.mats
 obtain ⟨g, o, rfl, hg, hcs⟩ := mat_at hS4 hi
 have HN := hidden (fun W => isName_any (matAt H.mats i).name (mat_sized hR.hal.sized i hi) W)
 have l4 := hS4.1
 obtain ⟨k0, k1, k2, k3, k4, k5⟩ := hcs i hi
 have h4 := hR.c4
 have hb := hR.has
 have hM := hN.m
 have hMh : w.Has M := hM.has
 have hch := has_of_cell hc
 have nb := hM.ne h4
 have nc := hM.ne hc
 have ns : w.heap.size ≠ M := fun e => absurd hMh (by rw [← e]; exact Nat.lt_irrefl _)
 clear hR hS4 hcs
 have HL := look_set (b := M) (ns := matNames H i)
 have HT := hidden (hN.touch (w' := w) (Below.refl _ _))
 generalize matE H i = E at *
 generalize matNames H (i + 1) = ms' at *
 generalize matNames H i = ms at *
 generalize matAt H.mats i = m at *
 generalize H.mats.length = n at *
 obtain ⟨nm, a0, a1, a2, a3, sc⟩ := m
 simp only at *
 refine (callsIn_wide (n := 10)).1 ?_
 refine callsIn_of_wp Tryz.func126 rfl trivial ?_ rfl
 simp only [Tryz.ntmps126, nt, Nat.reduceAdd, Nat.reduceSub]
 cases q0 : nameB nm with
 | false =>
  rw [q0] at HE HN
  have hE := HE.out
  rw [if_pos rfl] at hE
  subst hE
  clear HE
  gi_wp2
  (refine ⟨trivial, ?_⟩; ((with_reducible refine (callsIn_wide.2 (HN.out _)).mono ?_); rintro e w' ⟨rfl, x1, rfl⟩))
  gi_wp2
  refine bodyPost_ret (v := .int .i64 4) (by simp [results, Tryz.results126, go_sem]) rfl ⟨rfl, HT.out.step (by (repeat' first | with_reducible (first | apply bz0 | assumption | apply bz1 | apply bz2 | apply bz3 | apply bz4 | apply bz5) | (simp <;> omega))), fun h => absurd h (by decide)⟩
 | true =>
  rw [q0] at HE HN
  cases q1 : hasName ms nm with
  | true =>
   have hE := HE.out
   rw [if_neg (by decide), q1, if_pos rfl] at hE
   subst hE
   clear HE
   gi_wp2
   (refine ⟨trivial, ?_⟩; ((with_reducible refine (callsIn_wide.2 (HN.out _)).mono ?_); rintro e w' ⟨rfl, x1, rfl⟩))
   gi_wp2
   refine wpIn_wide.2 ?_
   (refine tmX (by kernel_rfl) (by kernel_rfl) ?_); (repeat (first | (refine tmS rfl ?_; simp only [Act.put, List.setIfInBounds_toArray, List.set_cons_succ, List.set_cons_zero]) | (refine tmP rfl rfl rfl (fun K hK => ?_); go_big_quiet_op; refine hK _ ?_; clear hK K) | (refine tmE rfl rfl (fun K hK => ?_); go_big_op; (first | fail | skip); (refine hK _ _ rfl (ext_of_below (by (repeat' first | with_reducible (first | apply bz0 | assumption | apply bz1 | apply bz2 | apply bz3 | apply bz4 | apply bz5) | (simp <;> omega)))) ?_; clear hK K)))); (refine tmN ?_)
   gi_wp2
   refine bodyPost_ret (v := .int .i64 5) (by simp [results, Tryz.results126, go_sem]) rfl ⟨rfl, HT.out.step (by (repeat' first | with_reducible (first | apply bz0 | assumption | apply bz1 | apply bz2 | apply bz3 | apply bz4 | apply bz5) | (simp <;> omega))), fun h => absurd h (by decide)⟩
  | false =>
   have HP : ∀ o x, (Instr.mapUpdate 128 (.map (some M)) (.string nm) (.bool true)).run Tryz.prog (((w.alloc o).ext x).drew.drew) = .ok () ((((w.alloc o).ext x).drew.drew).putObj M (putMap (((w.alloc o).ext x).drew.drew) M nm)) := fun o x => put_set _ (by simp [hM, hMh]) nm q1
   gi_wp2
   (refine ⟨trivial, ?_⟩; ((with_reducible refine (callsIn_wide.2 (HN.out _)).mono ?_); rintro e w' ⟨rfl, x1, rfl⟩))
   gi_wp2
   refine wpIn_wide.2 ?_
   (refine tmX (by kernel_rfl) (by kernel_rfl) ?_); (repeat (first | (refine tmS rfl ?_; simp only [Act.put, List.setIfInBounds_toArray, List.set_cons_succ, List.set_cons_zero]) | (refine tmP rfl rfl rfl (fun K hK => ?_); go_big_quiet_op; refine hK _ ?_; clear hK K) | (refine tmE rfl rfl (fun K hK => ?_); go_big_op; (first | fail | skip); (refine hK _ _ rfl (ext_of_below (by (repeat' first | with_reducible (first | apply bz0 | assumption | apply bz1 | apply bz2 | apply bz3 | apply bz4 | apply bz5) | (simp <;> omega)))) ?_; clear hK K)))); (refine tmN ?_)
   gi_wp2
   refine wpIn_wide.2 ?_
   (refine wp_region_tameH (M) (by kernel_rfl) (by kernel_rfl) ?_); (repeat (first | (refine tmS rfl ?_; simp only [Act.put, List.setIfInBounds_toArray, List.set_cons_succ, List.set_cons_zero]) | (refine tmP rfl rfl rfl (fun K hK => ?_); go_big_quiet_op; refine hK _ ?_; clear hK K) | (refine tmE rfl rfl (fun K hK => ?_); go_big_op; (first | fail | skip); (refine hK _ _ rfl (hole_of (by (repeat' (first | (with_reducible exact HoleRel.refl _ _ _) | (with_reducible assumption) | (with_reducible refine HoleRel.swap ?_ _ _) | (with_reducible refine HoleRel.drew ?_) | (with_reducible refine HoleRel.drewN ?_ _) | (with_reducible refine HoleRel.setCell ?_ ?_ _) | (with_reducible refine HoleRel.putObj ?_ ?_ _) | (with_reducible refine HoleRel.alloc ?_ ?_ _) | (with_reducible refine HoleRel.ext ?_ ?_ _) | (exact Or.inl rfl) | (simp; done) | (simp; omega))))) ?_; clear hK K)))); (refine tmN ?_)
   generalize hX : World.putObj _ _ _ = X
   have TX : Touch [M, F, T] w X := by rw [← hX]; exact (HT.out.step (by (repeat' first | with_reducible (first | apply bz0 | assumption | apply bz1 | apply bz2 | apply bz3 | apply bz4 | apply bz5) | (simp <;> omega)))).trans (Names.touchPut (hN.below (by (repeat' first | with_reducible (first | apply bz0 | assumption | apply bz1 | apply bz2 | apply bz3 | apply bz4 | apply bz5) | (simp <;> omega)))) (by simp) nm)
   have NX : Names X M F T (ms ++ [nm]) fs ts := by rw [← hX]; exact (hN.below (by (repeat' first | with_reducible (first | apply bz0 | assumption | apply bz1 | apply bz2 | apply bz3 | apply bz4 | apply bz5) | (simp <;> omega)))).addM nm
   have z1 : X.cell? ⟨w.heap.size, 1, none⟩ = some (.int .i64 a0) := by rw [← hX]; exact cell_put ns (by simp [go_sem])
   have z2 : X.cell? ⟨w.heap.size, 2, none⟩ = some (.int .i64 a1) := by rw [← hX]; exact cell_put ns (by simp [go_sem])
   have z3 : X.cell? ⟨w.heap.size, 3, none⟩ = some (.int .i64 a2) := by rw [← hX]; exact cell_put ns (by simp [go_sem])
   have z4 : X.cell? ⟨w.heap.size, 4, none⟩ = some (.int .i64 a3) := by rw [← hX]; exact cell_put ns (by simp [go_sem])
   have z5 : X.cell? ⟨w.heap.size, 5, none⟩ = some (.int .i64 sc) := by rw [← hX]; exact cell_put ns (by simp [go_sem])
   clear hX HP HL HN hM hMh nb nc hc h4 k0 k1 k2 k3 k4 k5 hm
   have i0 : ∀ w : World, (Instr.index 77 (.agg #[.int .i64 a0, .int .i64 a1, .int .i64 a2, .int .i64 a3]) (.int .i64 0)).run Tryz.prog w = .ok (.int .i64 a0) w := fun _ => by kernel_rfl
   have i1 : ∀ w : World, (Instr.index 77 (.agg #[.int .i64 a0, .int .i64 a1, .int .i64 a2, .int .i64 a3]) (.int .i64 1)).run Tryz.prog w = .ok (.int .i64 a1) w := fun _ => by kernel_rfl
   have i2 : ∀ w : World, (Instr.index 77 (.agg #[.int .i64 a0, .int .i64 a1, .int .i64 a2, .int .i64 a3]) (.int .i64 2)).run Tryz.prog w = .ok (.int .i64 a2) w := fun _ => by kernel_rfl
   have i3 : ∀ w : World, (Instr.index 77 (.agg #[.int .i64 a0, .int .i64 a1, .int .i64 a2, .int .i64 a3]) (.int .i64 3)).run Tryz.prog w = .ok (.int .i64 a3) w := fun _ => by kernel_rfl
   have HD : Hid (E = if sharesB ⟨nm, a0, a1, a2, a3, sc⟩ = false then 2 else 0) := by
    unfold Hid
    rw [HE.out, if_neg (by decide), q1, if_neg (by decide)]
   clear HE
   gi_wp2
   gi_loopw [37] (fun i wr => ∃ k : Nat, i = .int .i64 k ∧ k ≤ 4 ∧ Below X.heap.size X wr ∧ ∀ j, j < k → shareB (matA ⟨nm, a0, a1, a2, a3, sc⟩ j) = true) (fun i _ => 4 - (intOf i).toNat)
   case atStart => exact ⟨0, rfl, Nat.zero_le _, Below.refl _ _, fun j hj => absurd hj (Nat.not_lt_zero j)⟩
   case round =>
    obtain ⟨k, rfl, hk, hB, hno⟩ := hrel
    rcases Nat.lt_or_ge k 4 with hlt | hge
    · have hk4 : k = 0 ∨ k = 1 ∨ k = 2 ∨ k = 3 := by omega
      have hstop : Hid (∀ a, matA ⟨nm, a0, a1, a2, a3, sc⟩ k = a → shareB a = false → E = 2) := by
       intro a ha hs
       rw [HD.out, if_pos]
       subst ha
       rcases hk4 with rfl | rfl | rfl | rfl <;> (simp only [matA] at hs; simp at hs; simp [sharesB, hs])
      have hgo : Hid (∀ a, matA ⟨nm, a0, a1, a2, a3, sc⟩ k = a → shareB a = true → ∀ j, j < k + 1 → shareB (matA ⟨nm, a0, a1, a2, a3, sc⟩ j) = true) := by
       intro a ha hs j hj
       rcases Nat.lt_or_ge j k with h' | h'
       · exact hno j h'
       · obtain rfl : j = k := by omega
         rw [ha]; exact hs
      rcases hk4 with rfl | rfl | rfl | rfl
      · gi_wp2
        cases p : shareB a0 with
        | false =>
         have p' : decide (0 ≤ a0 ∧ a0 ≤ 1000) = false := p
         have hE := hidden (hstop.out _ rfl p)
         gi_wp2
         refine ⟨trivial, ?_⟩
         ((with_reducible refine (callsIn_wide.2 (isShare_any _ _)).mono ?_); rintro e w' ⟨rfl, rfl⟩)
         gi_wp2
         change bodyPost _ _ _ _ _ _
         refine bodyPost_ret (v := .int .i64 2) (by simp [results, Tryz.results126, go_sem]) rfl ⟨by rw [hE.out], TX.trans (NX.touch hB), fun h => absurd h (by rw [hE.out]; decide)⟩
        | true =>
         have p' : decide (0 ≤ a0 ∧ a0 ≤ 1000) = true := p
         have hg := hidden (hgo.out _ rfl p)
         gi_wp2
         refine ⟨trivial, ?_⟩
         ((with_reducible refine (callsIn_wide.2 (isShare_any _ _)).mono ?_); rintro e w' ⟨rfl, rfl⟩)
         gi_wp2
         go_roundw
         case rel => exact ⟨_, by go_num, by omega, hB, hg.out⟩
         case measure => simp [intOf]
      · gi_wp2
        cases p : shareB a1 with
        | false =>
         have p' : decide (0 ≤ a1 ∧ a1 ≤ 1000) = false := p
         have hE := hidden (hstop.out _ rfl p)
         gi_wp2
         refine ⟨trivial, ?_⟩
         ((with_reducible refine (callsIn_wide.2 (isShare_any _ _)).mono ?_); rintro e w' ⟨rfl, rfl⟩)
         gi_wp2
         change bodyPost _ _ _ _ _ _
         refine bodyPost_ret (v := .int .i64 2) (by simp [results, Tryz.results126, go_sem]) rfl ⟨by rw [hE.out], TX.trans (NX.touch hB), fun h => absurd h (by rw [hE.out]; decide)⟩
        | true =>
         have p' : decide (0 ≤ a1 ∧ a1 ≤ 1000) = true := p
         have hg := hidden (hgo.out _ rfl p)
         gi_wp2
         refine ⟨trivial, ?_⟩
         ((with_reducible refine (callsIn_wide.2 (isShare_any _ _)).mono ?_); rintro e w' ⟨rfl, rfl⟩)
         gi_wp2
         go_roundw
         case rel => exact ⟨_, by go_num, by omega, hB, hg.out⟩
         case measure => simp [intOf]
      · gi_wp2
        cases p : shareB a2 with
        | false =>
         have p' : decide (0 ≤ a2 ∧ a2 ≤ 1000) = false := p
         have hE := hidden (hstop.out _ rfl p)
         gi_wp2
         refine ⟨trivial, ?_⟩
         ((with_reducible refine (callsIn_wide.2 (isShare_any _ _)).mono ?_); rintro e w' ⟨rfl, rfl⟩)
         gi_wp2
         change bodyPost _ _ _ _ _ _
         refine bodyPost_ret (v := .int .i64 2) (by simp [results, Tryz.results126, go_sem]) rfl ⟨by rw [hE.out], TX.trans (NX.touch hB), fun h => absurd h (by rw [hE.out]; decide)⟩
        | true =>
         have p' : decide (0 ≤ a2 ∧ a2 ≤ 1000) = true := p
         have hg := hidden (hgo.out _ rfl p)
         gi_wp2
         refine ⟨trivial, ?_⟩
         ((with_reducible refine (callsIn_wide.2 (isShare_any _ _)).mono ?_); rintro e w' ⟨rfl, rfl⟩)
         gi_wp2
         go_roundw
         case rel => exact ⟨_, by go_num, by omega, hB, hg.out⟩
         case measure => simp [intOf]
      · gi_wp2
        cases p : shareB a3 with
        | false =>
         have p' : decide (0 ≤ a3 ∧ a3 ≤ 1000) = false := p
         have hE := hidden (hstop.out _ rfl p)
         gi_wp2
         refine ⟨trivial, ?_⟩
         ((with_reducible refine (callsIn_wide.2 (isShare_any _ _)).mono ?_); rintro e w' ⟨rfl, rfl⟩)
         gi_wp2
         change bodyPost _ _ _ _ _ _
         refine bodyPost_ret (v := .int .i64 2) (by simp [results, Tryz.results126, go_sem]) rfl ⟨by rw [hE.out], TX.trans (NX.touch hB), fun h => absurd h (by rw [hE.out]; decide)⟩
        | true =>
         have p' : decide (0 ≤ a3 ∧ a3 ≤ 1000) = true := p
         have hg := hidden (hgo.out _ rfl p)
         gi_wp2
         refine ⟨trivial, ?_⟩
         ((with_reducible refine (callsIn_wide.2 (isShare_any _ _)).mono ?_); rintro e w' ⟨rfl, rfl⟩)
         gi_wp2
         go_roundw
         case rel => exact ⟨_, by go_num, by omega, hB, hg.out⟩
         case measure => simp [intOf]
    · obtain rfl : k = 4 := by omega
      replace z5 := (Sim.of_below (D := 0) hB).cell z5
      have g5 := has_of_cell z5
      have hall : shareB a0 = true ∧ shareB a1 = true ∧ shareB a2 = true ∧ shareB a3 = true := ⟨hno 0 (by omega), hno 1 (by omega), hno 2 (by omega), hno 3 (by omega)⟩
      cases p : shareB sc with
      | false =>
       have p' : decide (0 ≤ sc ∧ sc ≤ 1000) = false := p
       have hE : Hid (E = 2) := by unfold Hid; rw [HD.out, if_pos]; simp [sharesB, p]
       clear hno hall
       gi_wp2
       refine ⟨trivial, ?_⟩
       ((with_reducible refine (callsIn_wide.2 (isShare_any _ _)).mono ?_); rintro e w' ⟨rfl, rfl⟩)
       gi_wp2
       change bodyPost _ _ _ _ _ _
       refine bodyPost_ret (v := .int .i64 2) (by simp [results, Tryz.results126, go_sem]) rfl ⟨by rw [hE.out], TX.trans (NX.touch hB), fun h => absurd h (by rw [hE.out]; decide)⟩
      | true =>
       have p' : decide (0 ≤ sc ∧ sc ≤ 1000) = true := p
       have hE : Hid (E = 0) := by unfold Hid; rw [HD.out, if_neg]; simp [sharesB, p, hall]
       clear hno hall
       gi_wp2
       refine ⟨trivial, ?_⟩
       ((with_reducible refine (callsIn_wide.2 (isShare_any _ _)).mono ?_); rintro e w' ⟨rfl, rfl⟩)
       gi_wp2
       change bodyPost _ _ _ _ _ _
       refine bodyPost_ret (v := .int .i64 0) (by simp [results, Tryz.results126, go_sem]) rfl ⟨by rw [hE.out], TX.trans (NX.touch hB), fun _ => by rw [HS.out]; exact NX.below hB⟩
end Go.Proofs.YtekieoamelahkaaGreat

/- checkMaterials. -/
namespace Go.Proofs.YtekieoamelahkaaGreat
open Go.RowKit

def matsV (H : Hal) : Value := if 10 < H.mats.length then .agg #[.int .i64 0, .int .i64 0, .int .i64 8] else oneV 1 (matE H) H.mats.length
def matsOk (H : Hal) : Bool := !decide (10 < H.mats.length) && (firstBad (matE H) H.mats.length).isNone
theorem checkMaterials_sur {w : World} {b M F T : Nat} {H : Hal} {fs ts : List ByteArray} (hS : SurAt w b H M F T) (hN : Names w M F T [] fs ts) :
 Calls Tryz.prog 69 #[.pointer (some ⟨b, 0, none⟩)] w (fun e w' => e = .returned (matsV H) ∧ Touch [M, F, T] w w' ∧ (matsOk H = true → Names w' M F T (H.mats.map (·.name)) fs ts)) := by
 have HV : Hid (matsV H = if 10 < H.mats.length then .agg #[.int .i64 0, .int .i64 0, .int .i64 8] else oneV 1 (matE H) H.mats.length) := rfl
 have HO : Hid (matsOk H = (!decide (10 < H.mats.length) && (firstBad (matE H) H.mats.length).isNone)) := rfl
 have hn0 : Names w M F T (matNames H 0) fs ts := hN
 have hnn : matNames H H.mats.length = H.mats.map (·.name) := by simp [matNames]
 have HC := hidden (fun (W : World) (c : Nat) (hW : Below w.heap.size w W) (hc : W.cell? ⟨c, 0, none⟩ = some (.pointer (some ⟨b, 0, none⟩))) =>
  oneByOne_any 126 (.pointer (some ⟨c, 0, none⟩)) (enters_of Tryz.func126 (by kernel_rfl) rfl) 1 H.mats.length (by obtain ⟨⟨_, _, _, _, _, _, _, hR⟩, _⟩ := hS; exact hR.hal.mats.1) (matE H) [M, F, T] (fun k V => Names V M F T (matNames H k) fs ts) W
   (hn0.below hW).maps (fun k V V' hb h => h.belowD hb (hn0.below hW).m.has (hn0.below hW).f.has (hn0.below hW).t.has)
   (fun k V hk ht hn => mats1 ((hS.below hW).kept ht.kept) (ht.kept.cell hc) k hk hn) (hn0.below hW))
 obtain ⟨⟨v4, v5, v6, v7, v8, v9, v10, hR⟩, hm, _, _⟩ := hS
 obtain ⟨A, c4, rfl, hS4⟩ := slc_form hR.hal.mats
 have h4 := hR.c4
 have hb := hR.has
 have l4 := hS4.1
 clear hR hS4
 rw [← hnn]
 clear hnn
 generalize matsV H = V at *
 generalize matsOk H = O at *
 generalize H.mats.length = n at *
 cases q : decide ((10 : Int) < (n : Int)) with
 | true =>
  have hv : V = .agg #[.int .i64 0, .int .i64 0, .int .i64 8] := by rw [HV.out, if_pos (by simp at q; omega)]
  have ho : O = false := by rw [HO.out]; simp at q; simp; omega
  subst hv ho
  clear HC HV HO
  go_enter Tryz.func69, Tryz.ntmps69
  go_wp2_with (go_at_call 124; refine (whole_any _ _).mono ?_; rintro e w' ⟨rfl, x2, rfl⟩)
  refine bodyPost_ret (v := .agg #[.int .i64 0, .int .i64 0, .int .i64 8]) (by simp [results, Tryz.results69, go_sem]) rfl ⟨rfl, hN.touch (by (repeat' first | with_reducible (first | apply bz0 | assumption | apply bz1 | apply bz2 | apply bz3 | apply bz4 | apply bz5) | (simp <;> omega))), fun h => by cases h⟩
 | false =>
  have hv : V = oneV 1 (matE H) n := by rw [HV.out, if_neg (by simp at q; omega)]
  have ho : Hid (O = true → firstBad (matE H) n = none) := by
   intro h
   rw [HO.out] at h
   simp only [Bool.and_eq_true] at h
   simpa using h.2
  subst hv
  clear HV HO
  obtain ⟨x, y, z, hz⟩ := oneV_form 1 (matE H) n
  rw [hz]
  rw [hz] at HC
  clear hz
  go_enter Tryz.func69, Tryz.ntmps69
  go_wp2_with (go_at_call 125; refine (HC.out _ _ (by (repeat' first | with_reducible (first | apply bz0 | assumption | apply bz1 | apply bz2 | apply bz3 | apply bz4 | apply bz5) | (simp <;> omega))) (by simp [go_sem])).mono ?_; rintro e w1 ⟨rfl, hT1, hN1⟩; obtain ⟨r0, r1, r2, f0, f1, f2⟩ := OneR.touch (s := w.heap.size + 1) ⟨by simp [go_sem], by simp [go_sem], by simp [go_sem], by simp [go_sem], by simp [go_sem], by simp [go_sem]⟩ hT1; have gr := has_of_cell r0; have hsz := hT1.size; simp only [World.size_alloc] at hsz)
  refine bodyPost_ret (v := .agg #[.int .i64 x, .int .i64 y, .int .i64 z]) (by simp [results, Tryz.results69, go_sem, r0, r1, r2, gr]) rfl ⟨rfl, ((hN.touch (by (repeat' first | with_reducible (first | apply bz0 | assumption | apply bz1 | apply bz2 | apply bz3 | apply bz4 | apply bz5) | (simp <;> omega)))).trans hT1).step (by (repeat' first | with_reducible (first | apply bz0 | assumption | apply bz1 | apply bz2 | apply bz3 | apply bz4 | apply bz5) | (simp <;> omega))), fun h => (hN1 (ho.out h)).belowD (D := w.heap.size) (by (repeat' first | with_reducible (first | apply bz0 | assumption | apply bz1 | apply bz2 | apply bz3 | apply bz4 | apply bz5) | (simp <;> omega))) hN.m.has hN.f.has hN.t.has⟩
end Go.Proofs.YtekieoamelahkaaGreat

/- checkCorners, checkPlan. -/
namespace Go.Proofs.YtekieoamelahkaaGreat
open Go.RowKit

theorem checkCorners_sur {w : World} {b M F T : Nat} {H : Hal} (hS : SurAt w b H M F T) :
 Calls Tryz.prog 71 #[.pointer (some ⟨b, 0, none⟩)] w (RetX w (oneV 2 (cornE H) H.cors.length)) := by
 have HC := hidden (fun (W : World) (c : Nat) (hW : Below w.heap.size w W) (hc : W.cell? ⟨c, 0, none⟩ = some (.pointer (some ⟨b, 0, none⟩))) =>
  oneByOne_any 128 (.pointer (some ⟨c, 0, none⟩)) (enters_of Tryz.func128 (by kernel_rfl) rfl) 2 H.cors.length (by obtain ⟨⟨_, _, _, _, _, _, _, hR⟩, _⟩ := hS; exact hR.hal.cors.1) (cornE H) [] (fun k V => True) W
   (fun _ h => by cases h) (fun _ _ _ _ _ => trivial)
   (fun k V hk ht _ => (corn1 ((hS.below hW).kept ht.kept) (ht.kept.cell hc) k hk).mono (fun e w' h => ⟨h.below.1, Touch.of_below h.below.2 (fun _ h => by cases h), fun _ => trivial⟩)) trivial)
 obtain ⟨⟨v4, v5, v6, v7, v8, v9, v10, hR⟩, hm, _, _⟩ := hS
 obtain ⟨A, c4, rfl, hS4⟩ := slc_form hR.hal.cors
 have h4 := hR.c5
 have hb := hR.has
 have l4 := hS4.1
 clear hR hS4
 generalize H.cors.length = n at *
 obtain ⟨x, y, z, hz⟩ := oneV_form 2 (cornE H) n
 rw [hz]
 rw [hz] at HC
 clear hz
 go_enter Tryz.func71, Tryz.ntmps71
 go_wp2_with (go_at_call 125; refine (HC.out _ _ (by (repeat' first | with_reducible (first | apply bz0 | assumption | apply bz1 | apply bz2 | apply bz3 | apply bz4 | apply bz5) | (simp <;> omega))) (by simp [go_sem])).mono ?_; rintro e w1 ⟨rfl, hT1, hN1⟩; obtain ⟨r0, r1, r2, f0, f1, f2⟩ := OneR.touch (s := w.heap.size + 1) ⟨by simp [go_sem], by simp [go_sem], by simp [go_sem], by simp [go_sem], by simp [go_sem], by simp [go_sem]⟩ hT1; have gr := has_of_cell r0; have hsz := hT1.size; simp only [World.size_alloc] at hsz)
 refine bodyPost_ret (v := .agg #[.int .i64 x, .int .i64 y, .int .i64 z]) (by simp [results, Tryz.results71, go_sem, r0, r1, r2, gr]) rfl (retX rfl ?_)
 have hB1 : Below w.heap.size w w1 := (show Below w.heap.size w _ by (repeat' first | with_reducible (first | apply bz0 | assumption | apply bz1 | apply bz2 | apply bz3 | apply bz4 | apply bz5) | (simp <;> omega))).trans (hT1.below (D := w.heap.size) (by simp; omega) (fun _ h => by cases h))
 exact hB1.trans (by (repeat' first | with_reducible (first | apply bz0 | assumption | apply bz1 | apply bz2 | apply bz3 | apply bz4 | apply bz5) | (simp <;> omega)))

def planE (H : Hal) : Int := if simpleB H = false then 24 else if areaTo H H.cors.length ≤ 0 then 9 else 0
theorem checkPlan_sur {w : World} {b M F T : Nat} {H : Hal} (hS : SurAt w b H M F T) (hC : CorsIn H) (hN : H.cors.length ≤ 20) :
 Calls Tryz.prog 73 #[.pointer (some ⟨b, 0, none⟩)] w (RetX w (.agg #[.int .i64 0, .int .i64 0, .int .i64 (planE H)])) := by
 have HE : Hid (planE H = if simpleB H = false then 24 else if areaTo H H.cors.length ≤ 0 then 9 else 0) := rfl
 have HS := hidden (fun (W : World) (hW : Below w.heap.size w W) => isSimple_room (hS.below hW).room hC hN)
 have HA := hidden (fun (W : World) (hW : Below w.heap.size w W) => twiceArea_room (hS.below hW).room hC hN)
 obtain ⟨⟨v4, v5, v6, v7, v8, v9, v10, hR⟩, hm, _, _⟩ := hS
 have hb := hR.has
 have h0 := hR.c0
 clear hR
 generalize planE H = E at *
 generalize simpleB H = sb at *
 generalize areaTo H H.cors.length = ar at *
 cases sb with
 | false =>
  have hE := HE.out
  rw [if_pos rfl] at hE
  subst hE
  clear HE
  go_enter Tryz.func73, Tryz.ntmps73
  go_wp2_with (first | (go_at_call 131; refine (HS.out _ (by (repeat' first | with_reducible (first | apply bz0 | assumption | apply bz1 | apply bz2 | apply bz3 | apply bz4 | apply bz5) | (simp <;> omega)))).mono ?_; rintro e w' ⟨rfl, x1, rfl⟩) | (go_at_call 86; refine (HA.out _ (by (repeat' first | with_reducible (first | apply bz0 | assumption | apply bz1 | apply bz2 | apply bz3 | apply bz4 | apply bz5) | (simp <;> omega)))).mono ?_; rintro e w' ⟨rfl, x2, rfl⟩) | (go_at_call 124; refine (whole_any _ _).mono ?_; rintro e w' ⟨rfl, x3, rfl⟩))
  refine bodyPost_ret ?_ rfl (retX rfl ?_); (simp [results, Tryz.results73, go_sem]); (repeat' first | with_reducible (first | apply bz0 | assumption | apply bz1 | apply bz2 | apply bz3 | apply bz4 | apply bz5) | (simp <;> omega))
 | true =>
  cases q : decide (ar ≤ 0) with
  | true =>
   have hE := HE.out
   rw [if_neg (by decide), if_pos (of_decide_eq_true q)] at hE
   subst hE
   clear HE
   go_enter Tryz.func73, Tryz.ntmps73
   go_wp2_with (first | (go_at_call 131; refine (HS.out _ (by (repeat' first | with_reducible (first | apply bz0 | assumption | apply bz1 | apply bz2 | apply bz3 | apply bz4 | apply bz5) | (simp <;> omega)))).mono ?_; rintro e w' ⟨rfl, x1, rfl⟩) | (go_at_call 86; refine (HA.out _ (by (repeat' first | with_reducible (first | apply bz0 | assumption | apply bz1 | apply bz2 | apply bz3 | apply bz4 | apply bz5) | (simp <;> omega)))).mono ?_; rintro e w' ⟨rfl, x2, rfl⟩) | (go_at_call 124; refine (whole_any _ _).mono ?_; rintro e w' ⟨rfl, x3, rfl⟩))
   refine bodyPost_ret ?_ rfl (retX rfl ?_); (simp [results, Tryz.results73, go_sem]); (repeat' first | with_reducible (first | apply bz0 | assumption | apply bz1 | apply bz2 | apply bz3 | apply bz4 | apply bz5) | (simp <;> omega))
  | false =>
   have hE := HE.out
   rw [if_neg (by decide), if_neg (of_decide_eq_false q)] at hE
   subst hE
   clear HE
   go_enter Tryz.func73, Tryz.ntmps73
   go_wp2_with (first | (go_at_call 131; refine (HS.out _ (by (repeat' first | with_reducible (first | apply bz0 | assumption | apply bz1 | apply bz2 | apply bz3 | apply bz4 | apply bz5) | (simp <;> omega)))).mono ?_; rintro e w' ⟨rfl, x1, rfl⟩) | (go_at_call 86; refine (HA.out _ (by (repeat' first | with_reducible (first | apply bz0 | assumption | apply bz1 | apply bz2 | apply bz3 | apply bz4 | apply bz5) | (simp <;> omega)))).mono ?_; rintro e w' ⟨rfl, x2, rfl⟩) | (go_at_call 124; refine (whole_any _ _).mono ?_; rintro e w' ⟨rfl, x3, rfl⟩))
   refine bodyPost_ret ?_ rfl (retX rfl ?_); (simp [results, Tryz.results73, go_sem]); (repeat' first | with_reducible (first | apply bz0 | assumption | apply bz1 | apply bz2 | apply bz3 | apply bz4 | apply bz5) | (simp <;> omega))
end Go.Proofs.YtekieoamelahkaaGreat

/- checkWall. -/
namespace Go.Proofs.YtekieoamelahkaaGreat
open Go.RowKit Go.Shelf
attribute [local go_sem] Oper.semAt_some

def nothingB (a b c d : Int) : Bool := decide (a = c) && decide (b = d)
def rightB (a b c d : Int) : Bool := decide (c - a = 0) || decide (d - b = 0) || decide (max (c - a) (-(c - a)) = max (d - b) (-(d - b)))
def wallE (ms fs : List ByteArray) (m : Wal) (a b c d : Int) : Int :=
 if nameB m.name = false then 4 else if hasName fs m.name = true then 5 else if hasName ms m.mat = false then 6 else if m.cur.size ≠ 0 ∧ hasName ms m.cur = false then 6 else if nothingB a b c d = true then 11 else if rightB a b c d = false then 15 else 0

theorem checkWall_sur {w : World} {bp M F T : Nat} {H : Hal} {ms fs ts : List ByteArray} (hS : SurAt w bp H M F T) (hN : Names w M F T ms fs ts) (m : Wal) (hm : m.name.size ≤ 1000000) (a b c d : Int) (h1 : -5000 ≤ a ∧ a ≤ 5000) (h2 : -5000 ≤ b ∧ b ≤ 5000) (h3 : -5000 ≤ c ∧ c ≤ 5000) (h4 : -5000 ≤ d ∧ d ≤ 5000) :
 Calls Tryz.prog 130 #[.pointer (some ⟨bp, 0, none⟩), .agg #[.string m.name, .string m.mat, .string m.cur], .agg #[.int .i64 a, .int .i64 b, .int .i64 c, .int .i64 d]] w (fun e w' => e = .returned (.int .i64 (wallE ms fs m a b c d)) ∧ HoleRel w.heap.size F w w' ∧ Touch [M, F, T] w w' ∧ (wallE ms fs m a b c d = 0 → Names w' M F T ms (fs ++ [m.name]) ts)) := by
 have HE : Hid (wallE ms fs m a b c d = if nameB m.name = false then 4 else if hasName fs m.name = true then 5 else if hasName ms m.mat = false then 6 else if m.cur.size ≠ 0 ∧ hasName ms m.cur = false then 6 else if nothingB a b c d = true then 11 else if rightB a b c d = false then 15 else 0) := rfl
 have HN := hidden (fun W => isName_any m.name hm W)
 have HZ := hidden (fun W => isNothing_any a b c d W)
 have HR := hidden (fun W => isRight_any a b c d W h1 h2 h3 h4)
 obtain ⟨⟨v4, v5, v6, v7, v8, v9, v10, hR⟩, hmm, hmf, _⟩ := hS
 have hb := hR.has
 have h0 := hR.c0
 have hF := hN.f
 have hM := hN.m
 have hFh : w.Has F := hF.has
 have hMh : w.Has M := hM.has
 have nb := hF.ne h0
 have ns : w.heap.size ≠ F := fun e => absurd hFh (by rw [← e]; exact Nat.lt_irrefl _)
 have ns1 : w.heap.size + 1 ≠ F := fun e => absurd hFh (by rw [← e]; unfold World.Has; omega)
 clear hR
 have HLF := look_set (b := F) (ns := fs)
 have HLM := look_set (b := M) (ns := ms)
 have HT := hidden (hN.touch (w' := w) (Below.refl _ _))
 have hem := empty_iff m.cur
 obtain ⟨nm, ma, cu⟩ := m
 simp only at *
 have HZ : Hid (∀ W, Calls Tryz.prog 168 #[.agg #[.int .i64 a, .int .i64 b, .int .i64 c, .int .i64 d]] W (RetX W (.bool (nothingB a b c d)))) := HZ
 have HR : Hid (∀ W, Calls Tryz.prog 169 #[.agg #[.int .i64 a, .int .i64 b, .int .i64 c, .int .i64 d]] W (RetX W (.bool (rightB a b c d)))) := HR
 generalize wallE ms fs ⟨nm, ma, cu⟩ a b c d = E at *
 generalize nothingB a b c d = ng at *
 generalize rightB a b c d = rt at *
 refine (callsIn_wide (n := 10)).1 ?_
 refine callsIn_of_wp Tryz.func130 rfl trivial ?_ rfl
 simp only [Tryz.ntmps130, nt, Nat.reduceAdd, Nat.reduceSub]
 cases q0 : nameB nm with
 | false =>
  rw [q0] at HE HN
  have hE := HE.out
  rw [if_pos rfl] at hE
  subst hE
  clear HE
  gi_wp2
  (refine ⟨trivial, ?_⟩; ((with_reducible refine (callsIn_wide.2 (HN.out _)).mono ?_); rintro e w' ⟨rfl, x1, rfl⟩))
  gi_wp2
  refine bodyPost_ret (v := .int .i64 4) (by simp [results, Tryz.results130, go_sem]) rfl ⟨rfl, HoleRel.of (by (repeat' first | with_reducible (first | apply bz0 | assumption | apply bz1 | apply bz2 | apply bz3 | apply bz4 | apply bz5) | (simp <;> omega))), HT.out.step (by (repeat' first | with_reducible (first | apply bz0 | assumption | apply bz1 | apply bz2 | apply bz3 | apply bz4 | apply bz5) | (simp <;> omega))), fun h => absurd h (by decide)⟩
 | true =>
  rw [q0] at HE HN
  cases q1 : hasName fs nm with
  | true =>
   have hE := HE.out
   rw [if_neg (by decide), q1, if_pos rfl] at hE
   subst hE
   clear HE
   gi_wp2
   (refine ⟨trivial, ?_⟩; ((with_reducible refine (callsIn_wide.2 (HN.out _)).mono ?_); rintro e w' ⟨rfl, x1, rfl⟩))
   gi_wp2
   refine wpIn_wide.2 ?_
   (refine tmX (by kernel_rfl) (by kernel_rfl) ?_); (repeat (first | (refine tmS rfl ?_; simp only [Act.put, List.setIfInBounds_toArray, List.set_cons_succ, List.set_cons_zero]) | (refine tmP rfl rfl rfl (fun K hK => ?_); go_big_quiet_op; refine hK _ ?_; clear hK K) | (refine tmE rfl rfl (fun K hK => ?_); go_big_op; (first | fail | skip); (refine hK _ _ rfl (ext_of_below (by (repeat' first | with_reducible (first | apply bz0 | assumption | apply bz1 | apply bz2 | apply bz3 | apply bz4 | apply bz5) | (simp <;> omega)))) ?_; clear hK K)))); (refine tmN ?_)
   gi_wp2
   refine bodyPost_ret (v := .int .i64 5) (by simp [results, Tryz.results130, go_sem]) rfl ⟨rfl, HoleRel.of (by (repeat' first | with_reducible (first | apply bz0 | assumption | apply bz1 | apply bz2 | apply bz3 | apply bz4 | apply bz5) | (simp <;> omega))), HT.out.step (by (repeat' first | with_reducible (first | apply bz0 | assumption | apply bz1 | apply bz2 | apply bz3 | apply bz4 | apply bz5) | (simp <;> omega))), fun h => absurd h (by decide)⟩
  | false =>
   cases q2 : hasName ms ma with
   | false =>
    have hE := HE.out
    rw [if_neg (by decide), q1, if_neg (by decide), q2, if_pos rfl] at hE
    subst hE
    clear HE
    gi_wp2
    (refine ⟨trivial, ?_⟩; ((with_reducible refine (callsIn_wide.2 (HN.out _)).mono ?_); rintro e w' ⟨rfl, x1, rfl⟩))
    gi_wp2
    refine wpIn_wide.2 ?_
    (refine tmX (by kernel_rfl) (by kernel_rfl) ?_); (repeat (first | (refine tmS rfl ?_; simp only [Act.put, List.setIfInBounds_toArray, List.set_cons_succ, List.set_cons_zero]) | (refine tmP rfl rfl rfl (fun K hK => ?_); go_big_quiet_op; refine hK _ ?_; clear hK K) | (refine tmE rfl rfl (fun K hK => ?_); go_big_op; (first | fail | skip); (refine hK _ _ rfl (ext_of_below (by (repeat' first | with_reducible (first | apply bz0 | assumption | apply bz1 | apply bz2 | apply bz3 | apply bz4 | apply bz5) | (simp <;> omega)))) ?_; clear hK K)))); (refine tmN ?_)
    gi_wp2
    refine wpIn_wide.2 ?_
    (refine tmX (by kernel_rfl) (by kernel_rfl) ?_); (repeat (first | (refine tmS rfl ?_; simp only [Act.put, List.setIfInBounds_toArray, List.set_cons_succ, List.set_cons_zero]) | (refine tmP rfl rfl rfl (fun K hK => ?_); go_big_quiet_op; refine hK _ ?_; clear hK K) | (refine tmE rfl rfl (fun K hK => ?_); go_big_op; (first | fail | skip); (refine hK _ _ rfl (ext_of_below (by (repeat' first | with_reducible (first | apply bz0 | assumption | apply bz1 | apply bz2 | apply bz3 | apply bz4 | apply bz5) | (simp <;> omega)))) ?_; clear hK K)))); (refine tmN ?_)
    gi_wp2
    refine bodyPost_ret (v := .int .i64 6) (by simp [results, Tryz.results130, go_sem]) rfl ⟨rfl, HoleRel.of (by (repeat' first | with_reducible (first | apply bz0 | assumption | apply bz1 | apply bz2 | apply bz3 | apply bz4 | apply bz5) | (simp <;> omega))), HT.out.step (by (repeat' first | with_reducible (first | apply bz0 | assumption | apply bz1 | apply bz2 | apply bz3 | apply bz4 | apply bz5) | (simp <;> omega))), fun h => absurd h (by decide)⟩
   | true =>
    have hE := HE.out
    rw [if_neg (by decide), q1, if_neg (by decide), q2, if_neg (by decide)] at hE
    clear HE
    have hcu : (decide (cu.size = 0) = true) ∨ (decide (cu.size = 0) = false ∧ hasName ms cu = false) ∨ (decide (cu.size = 0) = false ∧ hasName ms cu = true) := by
     cases decide (cu.size = 0) <;> cases hasName ms cu <;> simp
    rcases hcu with p | ⟨p, q3⟩ | ⟨p, q3⟩
    · rw [if_neg (by simp at p; simp [p])] at hE
      rw [p] at hem
      have HP : ∀ o1 o2 x1 x2 x3, (Instr.mapUpdate 128 (.map (some F)) (.string nm) (.bool true)).run Tryz.prog (((((((w.alloc o1).alloc o2).ext x1).drew.drew).ext x2).ext x3).drew) = .ok () ((((((((w.alloc o1).alloc o2).ext x1).drew.drew).ext x2).ext x3).drew).putObj F (putMap (((((((w.alloc o1).alloc o2).ext x1).drew.drew).ext x2).ext x3).drew) F nm)) := fun o1 o2 x1 x2 x3 => put_set _ (by simp [hF, hFh]) nm q1
      gi_wp2
      (refine ⟨trivial, ?_⟩; ((with_reducible refine (callsIn_wide.2 (HN.out _)).mono ?_); rintro e w' ⟨rfl, x1, rfl⟩))
      gi_wp2
      refine wpIn_wide.2 ?_
      (refine tmX (by kernel_rfl) (by kernel_rfl) ?_); (repeat (first | (refine tmS rfl ?_; simp only [Act.put, List.setIfInBounds_toArray, List.set_cons_succ, List.set_cons_zero]) | (refine tmP rfl rfl rfl (fun K hK => ?_); go_big_quiet_op; refine hK _ ?_; clear hK K) | (refine tmE rfl rfl (fun K hK => ?_); go_big_op; (first | fail | skip); (refine hK _ _ rfl (ext_of_below (by (repeat' first | with_reducible (first | apply bz0 | assumption | apply bz1 | apply bz2 | apply bz3 | apply bz4 | apply bz5) | (simp <;> omega)))) ?_; clear hK K)))); (refine tmN ?_)
      gi_wp2
      refine wpIn_wide.2 ?_
      (refine tmX (by kernel_rfl) (by kernel_rfl) ?_); (repeat (first | (refine tmS rfl ?_; simp only [Act.put, List.setIfInBounds_toArray, List.set_cons_succ, List.set_cons_zero]) | (refine tmP rfl rfl rfl (fun K hK => ?_); go_big_quiet_op; refine hK _ ?_; clear hK K) | (refine tmE rfl rfl (fun K hK => ?_); go_big_op; (first | fail | skip); (refine hK _ _ rfl (ext_of_below (by (repeat' first | with_reducible (first | apply bz0 | assumption | apply bz1 | apply bz2 | apply bz3 | apply bz4 | apply bz5) | (simp <;> omega)))) ?_; clear hK K)))); (refine tmN ?_)
      gi_wp2
      (refine ⟨trivial, ?_⟩; ((with_reducible refine (callsIn_wide.2 (HZ.out _)).mono ?_); rintro e w' ⟨rfl, x2, rfl⟩))
      cases ng with
      | true =>
       rw [if_pos rfl] at hE
       subst hE
       gi_wp2
       refine bodyPost_ret (v := .int .i64 11) (by simp [results, Tryz.results130, go_sem]) rfl ⟨rfl, HoleRel.of (by (repeat' first | with_reducible (first | apply bz0 | assumption | apply bz1 | apply bz2 | apply bz3 | apply bz4 | apply bz5) | (simp <;> omega))), HT.out.step (by (repeat' first | with_reducible (first | apply bz0 | assumption | apply bz1 | apply bz2 | apply bz3 | apply bz4 | apply bz5) | (simp <;> omega))), fun h => absurd h (by decide)⟩
      | false =>
       rw [if_neg (by decide)] at hE
       gi_wp2
       (refine ⟨trivial, ?_⟩; ((with_reducible refine (callsIn_wide.2 (HR.out _)).mono ?_); rintro e w' ⟨rfl, x3, rfl⟩))
       cases rt with
       | false =>
        rw [if_pos rfl] at hE
        subst hE
        gi_wp2
        refine bodyPost_ret (v := .int .i64 15) (by simp [results, Tryz.results130, go_sem]) rfl ⟨rfl, HoleRel.of (by (repeat' first | with_reducible (first | apply bz0 | assumption | apply bz1 | apply bz2 | apply bz3 | apply bz4 | apply bz5) | (simp <;> omega))), HT.out.step (by (repeat' first | with_reducible (first | apply bz0 | assumption | apply bz1 | apply bz2 | apply bz3 | apply bz4 | apply bz5) | (simp <;> omega))), fun h => absurd h (by decide)⟩
       | true =>
        rw [if_neg (by decide)] at hE
        subst hE
        gi_wp2
        refine wpIn_wide.2 ?_
        (refine wp_region_tameH (F) (by kernel_rfl) (by kernel_rfl) ?_); (repeat (first | (refine tmS rfl ?_; simp only [Act.put, List.setIfInBounds_toArray, List.set_cons_succ, List.set_cons_zero]) | (refine tmP rfl rfl rfl (fun K hK => ?_); go_big_quiet_op; refine hK _ ?_; clear hK K) | (refine tmE rfl rfl (fun K hK => ?_); go_big_op; (first | fail | skip); (refine hK _ _ rfl (hole_of (by (repeat' (first | (with_reducible exact HoleRel.refl _ _ _) | (with_reducible assumption) | (with_reducible refine HoleRel.swap ?_ _ _) | (with_reducible refine HoleRel.drew ?_) | (with_reducible refine HoleRel.drewN ?_ _) | (with_reducible refine HoleRel.setCell ?_ ?_ _) | (with_reducible refine HoleRel.putObj ?_ ?_ _) | (with_reducible refine HoleRel.alloc ?_ ?_ _) | (with_reducible refine HoleRel.ext ?_ ?_ _) | (exact Or.inl rfl) | (simp; done) | (simp; omega))))) ?_; clear hK K)))); (refine tmN ?_)
        gi_wp2
        refine bodyPost_ret (v := .int .i64 0) (by simp [results, Tryz.results130, go_sem]) rfl ⟨rfl, HoleRel.putObj (HoleRel.of (show Below w.heap.size w _ by (repeat' first | with_reducible (first | apply bz0 | assumption | apply bz1 | apply bz2 | apply bz3 | apply bz4 | apply bz5) | (simp <;> omega)))) (.inl rfl) _, (HT.out.step (by (repeat' first | with_reducible (first | apply bz0 | assumption | apply bz1 | apply bz2 | apply bz3 | apply bz4 | apply bz5) | (simp <;> omega)))).trans (Names.touchPut (hN.below (by (repeat' first | with_reducible (first | apply bz0 | assumption | apply bz1 | apply bz2 | apply bz3 | apply bz4 | apply bz5) | (simp <;> omega)))) (by simp) nm), (hN.below (by (repeat' first | with_reducible (first | apply bz0 | assumption | apply bz1 | apply bz2 | apply bz3 | apply bz4 | apply bz5) | (simp <;> omega)))).addF nm⟩
    · rw [if_pos ⟨by simpa using p, q3⟩] at hE
      rw [p] at hem
      subst hE
      gi_wp2
      (refine ⟨trivial, ?_⟩; ((with_reducible refine (callsIn_wide.2 (HN.out _)).mono ?_); rintro e w' ⟨rfl, x1, rfl⟩))
      gi_wp2
      refine wpIn_wide.2 ?_
      (refine tmX (by kernel_rfl) (by kernel_rfl) ?_); (repeat (first | (refine tmS rfl ?_; simp only [Act.put, List.setIfInBounds_toArray, List.set_cons_succ, List.set_cons_zero]) | (refine tmP rfl rfl rfl (fun K hK => ?_); go_big_quiet_op; refine hK _ ?_; clear hK K) | (refine tmE rfl rfl (fun K hK => ?_); go_big_op; (first | fail | skip); (refine hK _ _ rfl (ext_of_below (by (repeat' first | with_reducible (first | apply bz0 | assumption | apply bz1 | apply bz2 | apply bz3 | apply bz4 | apply bz5) | (simp <;> omega)))) ?_; clear hK K)))); (refine tmN ?_)
      gi_wp2
      refine wpIn_wide.2 ?_
      (refine tmX (by kernel_rfl) (by kernel_rfl) ?_); (repeat (first | (refine tmS rfl ?_; simp only [Act.put, List.setIfInBounds_toArray, List.set_cons_succ, List.set_cons_zero]) | (refine tmP rfl rfl rfl (fun K hK => ?_); go_big_quiet_op; refine hK _ ?_; clear hK K) | (refine tmE rfl rfl (fun K hK => ?_); go_big_op; (first | fail | skip); (refine hK _ _ rfl (ext_of_below (by (repeat' first | with_reducible (first | apply bz0 | assumption | apply bz1 | apply bz2 | apply bz3 | apply bz4 | apply bz5) | (simp <;> omega)))) ?_; clear hK K)))); (refine tmN ?_)
      gi_wp2
      refine bodyPost_ret (v := .int .i64 6) (by simp [results, Tryz.results130, go_sem]) rfl ⟨rfl, HoleRel.of (by (repeat' first | with_reducible (first | apply bz0 | assumption | apply bz1 | apply bz2 | apply bz3 | apply bz4 | apply bz5) | (simp <;> omega))), HT.out.step (by (repeat' first | with_reducible (first | apply bz0 | assumption | apply bz1 | apply bz2 | apply bz3 | apply bz4 | apply bz5) | (simp <;> omega))), fun h => absurd h (by decide)⟩
    · rw [if_neg (by simp [q3])] at hE
      rw [p] at hem
      have HP : ∀ o1 o2 x1 x2 x3, (Instr.mapUpdate 128 (.map (some F)) (.string nm) (.bool true)).run Tryz.prog (((((((w.alloc o1).alloc o2).ext x1).drew.drew).ext x2).ext x3).drew) = .ok () ((((((((w.alloc o1).alloc o2).ext x1).drew.drew).ext x2).ext x3).drew).putObj F (putMap (((((((w.alloc o1).alloc o2).ext x1).drew.drew).ext x2).ext x3).drew) F nm)) := fun o1 o2 x1 x2 x3 => put_set _ (by simp [hF, hFh]) nm q1
      gi_wp2
      (refine ⟨trivial, ?_⟩; ((with_reducible refine (callsIn_wide.2 (HN.out _)).mono ?_); rintro e w' ⟨rfl, x1, rfl⟩))
      gi_wp2
      refine wpIn_wide.2 ?_
      (refine tmX (by kernel_rfl) (by kernel_rfl) ?_); (repeat (first | (refine tmS rfl ?_; simp only [Act.put, List.setIfInBounds_toArray, List.set_cons_succ, List.set_cons_zero]) | (refine tmP rfl rfl rfl (fun K hK => ?_); go_big_quiet_op; refine hK _ ?_; clear hK K) | (refine tmE rfl rfl (fun K hK => ?_); go_big_op; (first | fail | skip); (refine hK _ _ rfl (ext_of_below (by (repeat' first | with_reducible (first | apply bz0 | assumption | apply bz1 | apply bz2 | apply bz3 | apply bz4 | apply bz5) | (simp <;> omega)))) ?_; clear hK K)))); (refine tmN ?_)
      gi_wp2
      refine wpIn_wide.2 ?_
      (refine tmX (by kernel_rfl) (by kernel_rfl) ?_); (repeat (first | (refine tmS rfl ?_; simp only [Act.put, List.setIfInBounds_toArray, List.set_cons_succ, List.set_cons_zero]) | (refine tmP rfl rfl rfl (fun K hK => ?_); go_big_quiet_op; refine hK _ ?_; clear hK K) | (refine tmE rfl rfl (fun K hK => ?_); go_big_op; (first | fail | skip); (refine hK _ _ rfl (ext_of_below (by (repeat' first | with_reducible (first | apply bz0 | assumption | apply bz1 | apply bz2 | apply bz3 | apply bz4 | apply bz5) | (simp <;> omega)))) ?_; clear hK K)))); (refine tmN ?_)
      gi_wp2
      (refine ⟨trivial, ?_⟩; ((with_reducible refine (callsIn_wide.2 (HZ.out _)).mono ?_); rintro e w' ⟨rfl, x2, rfl⟩))
      cases ng with
      | true =>
       rw [if_pos rfl] at hE
       subst hE
       gi_wp2
       refine bodyPost_ret (v := .int .i64 11) (by simp [results, Tryz.results130, go_sem]) rfl ⟨rfl, HoleRel.of (by (repeat' first | with_reducible (first | apply bz0 | assumption | apply bz1 | apply bz2 | apply bz3 | apply bz4 | apply bz5) | (simp <;> omega))), HT.out.step (by (repeat' first | with_reducible (first | apply bz0 | assumption | apply bz1 | apply bz2 | apply bz3 | apply bz4 | apply bz5) | (simp <;> omega))), fun h => absurd h (by decide)⟩
      | false =>
       rw [if_neg (by decide)] at hE
       gi_wp2
       (refine ⟨trivial, ?_⟩; ((with_reducible refine (callsIn_wide.2 (HR.out _)).mono ?_); rintro e w' ⟨rfl, x3, rfl⟩))
       cases rt with
       | false =>
        rw [if_pos rfl] at hE
        subst hE
        gi_wp2
        refine bodyPost_ret (v := .int .i64 15) (by simp [results, Tryz.results130, go_sem]) rfl ⟨rfl, HoleRel.of (by (repeat' first | with_reducible (first | apply bz0 | assumption | apply bz1 | apply bz2 | apply bz3 | apply bz4 | apply bz5) | (simp <;> omega))), HT.out.step (by (repeat' first | with_reducible (first | apply bz0 | assumption | apply bz1 | apply bz2 | apply bz3 | apply bz4 | apply bz5) | (simp <;> omega))), fun h => absurd h (by decide)⟩
       | true =>
        rw [if_neg (by decide)] at hE
        subst hE
        gi_wp2
        refine wpIn_wide.2 ?_
        (refine wp_region_tameH (F) (by kernel_rfl) (by kernel_rfl) ?_); (repeat (first | (refine tmS rfl ?_; simp only [Act.put, List.setIfInBounds_toArray, List.set_cons_succ, List.set_cons_zero]) | (refine tmP rfl rfl rfl (fun K hK => ?_); go_big_quiet_op; refine hK _ ?_; clear hK K) | (refine tmE rfl rfl (fun K hK => ?_); go_big_op; (first | fail | skip); (refine hK _ _ rfl (hole_of (by (repeat' (first | (with_reducible exact HoleRel.refl _ _ _) | (with_reducible assumption) | (with_reducible refine HoleRel.swap ?_ _ _) | (with_reducible refine HoleRel.drew ?_) | (with_reducible refine HoleRel.drewN ?_ _) | (with_reducible refine HoleRel.setCell ?_ ?_ _) | (with_reducible refine HoleRel.putObj ?_ ?_ _) | (with_reducible refine HoleRel.alloc ?_ ?_ _) | (with_reducible refine HoleRel.ext ?_ ?_ _) | (exact Or.inl rfl) | (simp; done) | (simp; omega))))) ?_; clear hK K)))); (refine tmN ?_)
        gi_wp2
        refine bodyPost_ret (v := .int .i64 0) (by simp [results, Tryz.results130, go_sem]) rfl ⟨rfl, HoleRel.putObj (HoleRel.of (show Below w.heap.size w _ by (repeat' first | with_reducible (first | apply bz0 | assumption | apply bz1 | apply bz2 | apply bz3 | apply bz4 | apply bz5) | (simp <;> omega)))) (.inl rfl) _, (HT.out.step (by (repeat' first | with_reducible (first | apply bz0 | assumption | apply bz1 | apply bz2 | apply bz3 | apply bz4 | apply bz5) | (simp <;> omega)))).trans (Names.touchPut (hN.below (by (repeat' first | with_reducible (first | apply bz0 | assumption | apply bz1 | apply bz2 | apply bz3 | apply bz4 | apply bz5) | (simp <;> omega)))) (by simp) nm), (hN.below (by (repeat' first | with_reducible (first | apply bz0 | assumption | apply bz1 | apply bz2 | apply bz3 | apply bz4 | apply bz5) | (simp <;> omega)))).addF nm⟩
end Go.Proofs.YtekieoamelahkaaGreat
