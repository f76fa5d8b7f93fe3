/- Checks of a hall: whole, checkItself, checkParts, checkCorners' function. -/
import Derived.Test.YtbonjgeglhbhnaaGreatM07
import Derived.Test.YtbonjgeglhbhnaaGreatM20
import Derived.Test.YtbonjgeglhbhnaaGreatM22
set_option linter.unusedVariables false
set_option linter.unusedSimpArgs false
namespace Go.Proofs.YtbonjgeglhbhnaaGreat
open Go.RowKit Go.Shelf
attribute [local go_sem] Oper.semAt_some

set_option maxRecDepth 100000 in set_option maxHeartbeats 1000000 in
theorem whole_any (n : Int) (w : World) : Calls Tryz.prog 157 #[.int .i64 n] w (RetX w (.agg #[.int .i64 0, .int .i64 0, .int .i64 n])) := by
  go_enter Tryz.func157, Tryz.ntmps157
  go_wp2
  refine bodyPost_ret (v := .agg #[.int .i64 0, .int .i64 0, .int .i64 n]) (by simp [results, Tryz.results157, go_sem]) rfl (retX rfl ?_)
  (repeat' (first | (with_reducible exact Below.refl _ _) | (with_reducible assumption) | (with_reducible refine Below.drew ?_) | (with_reducible refine Below.drewNStep ?_ _) | (with_reducible refine Below.alloc ?_ ?_ _) | (with_reducible refine Below.setCell ?_ ?_ _) | (with_reducible refine Below.extStep ?_ ?_ _) | (simp; done) | (simp; omega)))

def itselfE (H : Hal) : Int := if nameB H.name = false then 4 else if H.height < 2 then 2 else if 5000 < H.height then 2 else 0

set_option maxRecDepth 100000 in set_option maxHeartbeats 1000000 in
theorem checkItself_sur {w : World} {b M F T : Nat} {H : Hal} (hS : SurAt w b H M F T) : Calls Tryz.prog 130 #[.pointer (some ⟨b, 0, none⟩)] w (RetX w (.agg #[.int .i64 0, .int .i64 0, .int .i64 (itselfE H)])) := by
  have HE : Hid (itselfE H = if nameB H.name = false then 4 else if H.height < 2 then 2 else if 5000 < H.height then 2 else 0) := rfl
  obtain ⟨⟨v4, v5, v6, v7, v8, v9, v10, hR⟩, _, _, _⟩ := hS
  have HN := hidden (fun W => isName_any H.name hR.hal.sized.name W)
  have h0 := hR.c0
  have h1 := hR.c1
  have hb := hR.has
  clear hR
  generalize itselfE H = E at *
  generalize H.height = z at *
  generalize H.name = nm at *
  have nb : b ≠ w.heap.size := Nat.ne_of_lt hb
  cases q0 : nameB nm <;> rw [q0] at HE HN
  · have hE := HE.out
    simp only [if_true] at hE
    subst hE
    clear HE
    go_enter Tryz.func130, Tryz.ntmps130
    go_wp2_with (first | (go_at_call 156; refine (HN.out _).mono ?_; rintro e w' ⟨rfl, x1, rfl⟩) | (go_at_call 157; refine (whole_any _ _).mono ?_; rintro e w' ⟨rfl, x2, rfl⟩))
    refine bodyPost_ret ?_ rfl (retX rfl ?_); (simp [results, Tryz.results130, go_sem]); (repeat' (first | (with_reducible exact Below.refl _ _) | (with_reducible assumption) | (with_reducible refine Below.drew ?_) | (with_reducible refine Below.drewNStep ?_ _) | (with_reducible refine Below.alloc ?_ ?_ _) | (with_reducible refine Below.setCell ?_ ?_ _) | (with_reducible refine Below.extStep ?_ ?_ _) | (simp; done) | (simp; omega)))
  · have hc : (decide (z < 2) = true) ∨ (decide (z < 2) = false ∧ decide (5000 < z) = true) ∨ (decide (z < 2) = false ∧ decide (5000 < z) = false) := by simp; omega
    rcases hc with q1 | ⟨q1, q2⟩ | ⟨q1, q2⟩
    · have hE := HE.out
      simp only [of_decide_eq_true q1, if_true, Bool.true_eq_false, if_false] at hE
      subst hE
      clear HE
      go_enter Tryz.func130, Tryz.ntmps130
      go_wp2_with (first | (go_at_call 156; refine (HN.out _).mono ?_; rintro e w' ⟨rfl, x1, rfl⟩) | (go_at_call 157; refine (whole_any _ _).mono ?_; rintro e w' ⟨rfl, x2, rfl⟩))
      refine bodyPost_ret ?_ rfl (retX rfl ?_); (simp [results, Tryz.results130, go_sem]); (repeat' (first | (with_reducible exact Below.refl _ _) | (with_reducible assumption) | (with_reducible refine Below.drew ?_) | (with_reducible refine Below.drewNStep ?_ _) | (with_reducible refine Below.alloc ?_ ?_ _) | (with_reducible refine Below.setCell ?_ ?_ _) | (with_reducible refine Below.extStep ?_ ?_ _) | (simp; done) | (simp; omega)))
    · have hE := HE.out
      simp only [of_decide_eq_false q1, of_decide_eq_true q2, if_true, Bool.true_eq_false, if_false] at hE
      subst hE
      clear HE
      go_enter Tryz.func130, Tryz.ntmps130
      go_wp2_with (first | (go_at_call 156; refine (HN.out _).mono ?_; rintro e w' ⟨rfl, x1, rfl⟩) | (go_at_call 157; refine (whole_any _ _).mono ?_; rintro e w' ⟨rfl, x2, rfl⟩))
      refine bodyPost_ret ?_ rfl (retX rfl ?_); (simp [results, Tryz.results130, go_sem]); (repeat' (first | (with_reducible exact Below.refl _ _) | (with_reducible assumption) | (with_reducible refine Below.drew ?_) | (with_reducible refine Below.drewNStep ?_ _) | (with_reducible refine Below.alloc ?_ ?_ _) | (with_reducible refine Below.setCell ?_ ?_ _) | (with_reducible refine Below.extStep ?_ ?_ _) | (simp; done) | (simp; omega)))
    · have hE := HE.out
      simp only [of_decide_eq_false q1, of_decide_eq_false q2, Bool.true_eq_false, if_false] at hE
      subst hE
      clear HE
      go_enter Tryz.func130, Tryz.ntmps130
      go_wp2_with (first | (go_at_call 156; refine (HN.out _).mono ?_; rintro e w' ⟨rfl, x1, rfl⟩) | (go_at_call 157; refine (whole_any _ _).mono ?_; rintro e w' ⟨rfl, x2, rfl⟩))
      refine bodyPost_ret ?_ rfl (retX rfl ?_); (simp [results, Tryz.results130, go_sem]); (repeat' (first | (with_reducible exact Below.refl _ _) | (with_reducible assumption) | (with_reducible refine Below.drew ?_) | (with_reducible refine Below.drewNStep ?_ _) | (with_reducible refine Below.alloc ?_ ?_ _) | (with_reducible refine Below.setCell ?_ ?_ _) | (with_reducible refine Below.extStep ?_ ?_ _) | (simp; done) | (simp; omega)))
end Go.Proofs.YtbonjgeglhbhnaaGreat
