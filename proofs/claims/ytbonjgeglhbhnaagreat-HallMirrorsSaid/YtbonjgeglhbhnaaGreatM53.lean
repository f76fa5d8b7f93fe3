/- HallMirrors, behind awake. -/
import Derived.Test.YtbonjgeglhbhnaaGreatM52
set_option linter.unusedVariables false
set_option linter.unusedSimpArgs false
namespace Go.Proofs.YtbonjgeglhbhnaaGreat
open Go.RowKit

set_option maxRecDepth 100000 in set_option maxHeartbeats 4000000 in
theorem HallMirrors_any (k A x1 y1 z1 x2 y2 z2 : Int) (w : World) (hA : ∀ W : World, Calls Tryz.prog 11 #[] W (RetX W (.bool true))) :
    Calls Tryz.prog 3 #[.agg #[.int .i64 k, .int .i64 A], .agg #[.int .i64 x1, .int .i64 y1, .int .i64 z1], .agg #[.int .i64 x2, .int .i64 y2, .int .i64 z2]] w (RetX w (.bool true)) := by
  have HA := hidden hA
  have H1 := hidden (fun W => MirrorIn_any k A x1 y1 z1 W)
  have H2 := hidden (fun W => MirrorIn_any k A x2 y2 z2 W)
  have R1 := hidden (fun W => refMirrorIn_any k A x1 y1 z1 W)
  have R2 := hidden (fun W => refMirrorIn_any k A x2 y2 z2 W)
  rw [mirV_form] at H1 H2 R1 R2
  clear hA
  by_cases e1 : mirE k A x1 y1 z1 = 0
  · by_cases e2 : mirE k A x2 y2 z2 = 0
    · have B3 := mir_back e1
      have H3 := hidden (fun W => B3 ▸ MirrorIn_any k A (mirX k A x1 y1) (mirY k A x1 y1) (mirZ k A z1) W)
      obtain ⟨hk, hA, h1, h2⟩ := mirE_zero e1
      obtain ⟨_, _, h3, h4⟩ := mirE_zero e2
      obtain ⟨a1, a2, a3⟩ := beyond3P h1
      obtain ⟨a4, a5, a6⟩ := beyond3P h2
      obtain ⟨a7, a8, a9⟩ := beyond3P h3
      obtain ⟨b1, b2, b3⟩ := beyond3P h4
      have hA := beyond1P hA
      have S1 := hidden (fun W => law_square x1 y1 z1 x2 y2 z2 W a1 a2 a3 a7 a8 a9)
      have S2 := hidden (fun W => law_square (mirX k A x1 y1) (mirY k A x1 y1) (mirZ k A z1) (mirX k A x2 y2) (mirY k A x2 y2) (mirZ k A z2) W a4 a5 a6 b1 b2 b3)
      rw [sq_mir hk] at S2
      have P1 := hidden (fun W => refPointOf_any x1 y1 z1 W)
      have O1 := hidden (fun W => refOff_any k A x1 y1 z1 W hk hA a1 a2 a3)
      have iff := hidden (off_iff (A := A) (x := x1) (y := y1) (z := z1) hk)
      unfold gX gY gZ at H1 H2 R1 R2
      rw [e1] at H1 R1
      rw [e2] at H2 R2
      simp only [if_true] at H1 H2 R1 R2
      clear e1 e2 B3 h1 h2 h3 h4 a1 a2 a3 a4 a5 a6 a7 a8 a9 b1 b2 b3 hk hA
      generalize offI k A x1 y1 z1 1 = o at *
      generalize sqI (x1 - x2) (y1 - y2) (z1 - z2) = s at *
      generalize mirX k A x1 y1 = X at *
      generalize mirY k A x1 y1 = Y at *
      generalize mirZ k A z1 = Z at *
      generalize mirX k A x2 y2 = X' at *
      generalize mirY k A x2 y2 = Y' at *
      generalize mirZ k A z2 = Z' at *
      have cs : (X = x1 ∧ Y = y1 ∧ Z = z1 ∧ o = 0) ∨ ((o == 0) = false ∧ ¬ X = x1) ∨ ((o == 0) = false ∧ X = x1 ∧ ¬ Y = y1) ∨ ((o == 0) = false ∧ X = x1 ∧ Y = y1 ∧ ¬ Z = z1) := by
        have iff := iff.out
        by_cases ho : o = 0
        · obtain ⟨a, b, c⟩ := iff.2 ho
          exact .inl ⟨a, b, c, ho⟩
        · have hb : (o == 0) = false := by simpa using ho
          have hn := fun h => ho (iff.1 h)
          by_cases c1 : X = x1
          · by_cases c2 : Y = y1
            · exact .inr (.inr (.inr ⟨hb, c1, c2, fun c3 => hn ⟨c1, c2, c3⟩⟩))
            · exact .inr (.inr (.inl ⟨hb, c1, c2⟩))
          · exact .inr (.inl ⟨hb, c1⟩)
      clear iff
      rcases cs with ⟨rfl, rfl, rfl, rfl⟩ | ⟨q1, q2⟩ | ⟨q1, rfl, q2⟩ | ⟨q1, rfl, rfl, q2⟩
      all_goals
        go_enter Tryz.func3, Tryz.ntmps3
        go_wp2_with (first | (go_at_call 11; refine (HA.out _).mono ?_; rintro e w' ⟨rfl, m0, rfl⟩) | (go_at_call 12; first | ((with_reducible refine (H1.out _).mono ?_); rintro e w' ⟨rfl, m1, rfl⟩) | ((with_reducible refine (H2.out _).mono ?_); rintro e w' ⟨rfl, m2, rfl⟩) | ((with_reducible refine (H3.out _).mono ?_); rintro e w' ⟨rfl, m3, rfl⟩)) | (go_at_call 13; first | ((with_reducible refine (R1.out _).mono ?_); rintro e w' ⟨rfl, m4, rfl⟩) | ((with_reducible refine (R2.out _).mono ?_); rintro e w' ⟨rfl, m5, rfl⟩)))
        (refine wp_region_tameX (by kernel_rfl) (by kernel_rfl) ?_); (repeat (first | (refine wpTame_skip rfl ?_; simp only [Act.put, List.setIfInBounds_toArray, List.set_cons_succ, List.set_cons_zero]) | (refine wpTame_pure rfl rfl rfl (fun K hK => ?_); go_big_quiet_op; refine hK _ ?_; clear hK K) | (refine wpTame_eff rfl rfl (fun K hK => ?_); go_big_op; (first | (go_at_call 14; first | ((with_reducible refine (S1.out _).mono ?_); rintro e w' ⟨rfl, m6, rfl⟩) | ((with_reducible refine (S2.out _).mono ?_); rintro e w' ⟨rfl, m7, rfl⟩)) | (go_at_call 16; refine (P1.out _).mono ?_; rintro e w' ⟨rfl, m8, rfl⟩) | (go_at_call 15; refine (O1.out _).mono ?_; rintro e w' ⟨rfl, m9, rfl⟩) | skip); (refine hK _ _ rfl (ext_of_below (by (repeat' (first | (with_reducible exact Below.refl _ _) | (with_reducible assumption) | (with_reducible refine Below.drew ?_) | (with_reducible refine Below.drewNStep ?_ _) | (with_reducible refine Below.alloc ?_ ?_ _) | (with_reducible refine Below.setCell ?_ ?_ _) | (with_reducible refine Below.extStep ?_ ?_ _) | (simp; done) | (simp; omega))))) ?_; clear hK K)))); (refine wpTame_nil ?_)
        go_wp2
        go_ret
        refine retX_bool rfl ?_
        (repeat' (first | (with_reducible exact Below.refl _ _) | (with_reducible assumption) | (with_reducible refine Below.drew ?_) | (with_reducible refine Below.drewNStep ?_ _) | (with_reducible refine Below.alloc ?_ ?_ _) | (with_reducible refine Below.setCell ?_ ?_ _) | (with_reducible refine Below.extStep ?_ ?_ _) | (simp; done) | (simp; omega)))
    · unfold gX gY gZ at H1 H2 R1 R2
      rw [e1] at H1 R1
      simp only [if_true] at H1 R1
      simp only [if_neg e2] at H2 R2
      generalize mirE k A x2 y2 z2 = E at *
      have q1 : (E != 0) = true := by simpa using e2
      have q2 : (E == 0) = false := by simpa using e2
      clear e1 e2
      generalize mirX k A x1 y1 = X at *
      generalize mirY k A x1 y1 = Y at *
      generalize mirZ k A z1 = Z at *
      have H3 := H1
      go_enter Tryz.func3, Tryz.ntmps3
      go_wp2_with (first | (go_at_call 11; refine (HA.out _).mono ?_; rintro e w' ⟨rfl, m0, rfl⟩) | (go_at_call 12; first | ((with_reducible refine (H1.out _).mono ?_); rintro e w' ⟨rfl, m1, rfl⟩) | ((with_reducible refine (H2.out _).mono ?_); rintro e w' ⟨rfl, m2, rfl⟩) | ((with_reducible refine (H3.out _).mono ?_); rintro e w' ⟨rfl, m3, rfl⟩)) | (go_at_call 13; first | ((with_reducible refine (R1.out _).mono ?_); rintro e w' ⟨rfl, m4, rfl⟩) | ((with_reducible refine (R2.out _).mono ?_); rintro e w' ⟨rfl, m5, rfl⟩)))
      go_ret
      refine retX_bool rfl ?_
      (repeat' (first | (with_reducible exact Below.refl _ _) | (with_reducible assumption) | (with_reducible refine Below.drew ?_) | (with_reducible refine Below.drewNStep ?_ _) | (with_reducible refine Below.alloc ?_ ?_ _) | (with_reducible refine Below.setCell ?_ ?_ _) | (with_reducible refine Below.extStep ?_ ?_ _) | (simp; done) | (simp; omega)))
  · unfold gX gY gZ at H1 H2 R1 R2
    simp only [if_neg e1] at H1 R1
    generalize mirE k A x1 y1 z1 = E at *
    have q1 : (E != 0) = true := by simpa using e1
    have q2 : (E == 0) = false := by simpa using e1
    clear e1
    generalize mirE k A x2 y2 z2 = E' at *
    generalize (if E' = 0 then mirX k A x2 y2 else 0) = X' at *
    generalize (if E' = 0 then mirY k A x2 y2 else 0) = Y' at *
    generalize (if E' = 0 then mirZ k A z2 else 0) = Z' at *
    have H3 := H1
    go_enter Tryz.func3, Tryz.ntmps3
    go_wp2_with (first | (go_at_call 11; refine (HA.out _).mono ?_; rintro e w' ⟨rfl, m0, rfl⟩) | (go_at_call 12; first | ((with_reducible refine (H1.out _).mono ?_); rintro e w' ⟨rfl, m1, rfl⟩) | ((with_reducible refine (H2.out _).mono ?_); rintro e w' ⟨rfl, m2, rfl⟩) | ((with_reducible refine (H3.out _).mono ?_); rintro e w' ⟨rfl, m3, rfl⟩)) | (go_at_call 13; first | ((with_reducible refine (R1.out _).mono ?_); rintro e w' ⟨rfl, m4, rfl⟩) | ((with_reducible refine (R2.out _).mono ?_); rintro e w' ⟨rfl, m5, rfl⟩)))
    go_ret
    refine retX_bool rfl ?_
    (repeat' (first | (with_reducible exact Below.refl _ _) | (with_reducible assumption) | (with_reducible refine Below.drew ?_) | (with_reducible refine Below.drewNStep ?_ _) | (with_reducible refine Below.alloc ?_ ?_ _) | (with_reducible refine Below.setCell ?_ ?_ _) | (with_reducible refine Below.extStep ?_ ?_ _) | (simp; done) | (simp; omega)))
end Go.Proofs.YtbonjgeglhbhnaaGreat
