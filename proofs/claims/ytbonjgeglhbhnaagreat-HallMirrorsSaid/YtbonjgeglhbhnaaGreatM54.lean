/- The mirror image of a place is as specified, or the errors; its mirror image is the place, and two places and their images are equally far away: for every plane and every two places, without condition. -/
import Derived.Test.YtbonjgeglhbhnaaGreatM50
import Derived.Test.YtbonjgeglhbhnaaGreatM53
import Derived.Test.YtbonjgeglhbhnaaGreatRows
import Derived.ProofKit
import Derived.OpenShut
import Derived.ShutString
import Derived.ChangeOld
import Derived.Below
import Derived.Lib.SmallJoins
set_option linter.unusedVariables false
set_option linter.unusedSimpArgs false
namespace Go.Proofs.YtbonjgeglhbhnaaGreat.hallMirrors
open Go.ChangeShapes Go.WideShapes Go.ChangeAt Go.RowKit Go.Joins Go.Proofs.YtbonjgeglhbhnaaGreat

theorem own : ownKnob Tryz.prog.godebug = none := by kernel_rfl
theorem laidOut : laidOutB Tryz.prog = true := by kernel_rfl
theorem cellsP : Tryz.prog.cellsOf 23 = 2 := by kernel_rfl
theorem cellsQ : Tryz.prog.cellsOf 25 = 3 := by kernel_rfl

theorem walk (k A x1 y1 z1 x2 y2 z2 : Int) (w : World) :
    Calls Tryz.prog 3 #[.agg #[.int .i64 k, .int .i64 A], .agg #[.int .i64 x1, .int .i64 y1, .int .i64 z1], .agg #[.int .i64 x2, .int .i64 y2, .int .i64 z2]] w fun e w' => e = .returned (.bool true) ∧ Below w.heap.size w w' :=
  (HallMirrors_any k A x1 y1 z1 x2 y2 z2 w awake_true).mono (by rintro e w' ⟨rfl, x, rfl⟩; exact ⟨rfl, by (repeat' (first | (with_reducible exact Below.refl _ _) | (with_reducible assumption) | (with_reducible refine Below.drew ?_) | (with_reducible refine Below.drewNStep ?_ _) | (with_reducible refine Below.alloc ?_ ?_ _) | (with_reducible refine Below.setCell ?_ ?_ _) | (with_reducible refine Below.extStep ?_ ?_ _) | (simp; done) | (simp; omega)))⟩)

set_option maxRecDepth 100000 in
theorem lifted (os : Os) (started : os.Started) (H : Type) (enc : TypeId × Value → H) :
    ReturnsInHanded {} Tryz.checked os 3 .any (Rows.hallMirrorsSpec.pre6 enc Tryz.prog Tryz.f3 Rows.hallMirrorsRow.domain false) (Rows.hallMirrorsSpec.post enc Tryz.prog Tryz.f3 false true false false) := by
  refine returnsInHanded_of_change (C := Tryz.checked) own started (by kernel_rfl) Tryz.func3
    (ChangeSpec.witness6 (enc := enc) (C := Tryz.checked) false ⟨#[], #[.agg #[.int .i64 0, .int .i64 0], .agg #[.int .i64 0, .int .i64 0, .int .i64 0], .agg #[.int .i64 0, .int .i64 0, .int .i64 0]], []⟩ 8 (by kernel_rfl) (by kernel_rfl) (by kernel_rfl) (by kernel_rfl)) ?_
  intro W base args ds gs before hval0 hW hcnd _
  have hval : ∀ (j : Nat) t v, Tryz.f3.params[j]? = some t → args[j]? = some v → Value.okWide Tryz.prog W .any base t v := hval0
  have hW' := hW
  obtain ⟨p, q, hA0, hV, rfl, hfz, hnd⟩ := hW
  have hA : DataW.TrodAll enc Tryz.prog W 0 (fun _ => true) true Tryz.f3.params.toList args.toList ds p := hA0
  rw [Tryz.params3] at hA hval
  obtain ⟨v0, vs0, d0, ds0, p0, q0, hargs, rfl, rfl, h0, r0⟩ := trodAll_cons hA
  obtain ⟨v1, vs1, d1, ds1, p1, q1, rfl, rfl, rfl, h1, r1⟩ := trodAll_cons r0
  obtain ⟨v2, vs2, d2, ds2, p2, q2, rfl, rfl, rfl, h2, r2⟩ := trodAll_cons r1
  obtain ⟨rfl, rfl, rfl⟩ := trodAll_nil r2
  obtain rfl : args = #[v0, v1, v2] := by cases args; simp_all
  obtain ⟨rfl, rfl⟩ := trodVars_none hV
  have lt0 : ∀ x ∈ p0, x.block < W.heap.size := by obtain ⟨m, hm⟩ := h0; exact DataW.trod_lt m _ _ _ hm
  have lt1 : ∀ x ∈ p1, x.block < W.heap.size := by obtain ⟨m, hm⟩ := h1; exact DataW.trod_lt m _ _ _ hm
  have lt2 : ∀ x ∈ p2, x.block < W.heap.size := by obtain ⟨m, hm⟩ := h2; exact DataW.trod_lt m _ _ _ hm
  obtain ⟨c0, c1, y0, y1, m0, rfl, _, _, hy0, hy1⟩ := open_agg2 Tryz.underlying23 (by kernel_rfl) cellsP (hval 0 23 v0 rfl rfl) h0
  obtain ⟨c2, c3, c4, y2, y3, y4, m1, rfl, _, _, hy2, hy3, hy4⟩ := open_agg3 Tryz.underlying25 (by kernel_rfl) cellsQ (hval 1 25 v1 rfl rfl) h1
  obtain ⟨c5, c6, c7, y5, y6, y7, m2, rfl, _, _, hy5, hy6, hy7⟩ := open_agg3 Tryz.underlying25 (by kernel_rfl) cellsQ (hval 2 25 v2 rfl rfl) h2
  obtain ⟨k, e0, _, _⟩ := DataW.trod_int Tryz.underlying3 hy0
  obtain ⟨A, e1, _, _⟩ := DataW.trod_int Tryz.underlying3 hy1
  obtain ⟨xa, e2, _, _⟩ := DataW.trod_int Tryz.underlying3 hy2
  obtain ⟨ya, e3, _, _⟩ := DataW.trod_int Tryz.underlying3 hy3
  obtain ⟨za, e4, _, _⟩ := DataW.trod_int Tryz.underlying3 hy4
  obtain ⟨xb, e5, _, _⟩ := DataW.trod_int Tryz.underlying3 hy5
  obtain ⟨yb, e6, _, _⟩ := DataW.trod_int Tryz.underlying3 hy6
  obtain ⟨zb, e7, _, _⟩ := DataW.trod_int Tryz.underlying3 hy7
  simp at e0 e1 e2 e3 e4 e5 e6 e7
  subst e0 e1 e2 e3 e4 e5 e6 e7
  clear hA0 hval0
  refine (walk k A xa ya za xb yb zb W).mono fun e W' ⟨he, bel⟩ => ?_
  subst he
  exact ⟨_, rfl, _, _, _, [], _, [], hW', trodAll_mk1 (shut_bool Tryz.underlying4 _), (trodAll_cons_mk (Below.trod laidOut (by kernel_rfl) (of_decide_eq_true (by kernel_rfl)) h0 bel lt0) (trodAll_cons_mk (Below.trod laidOut (by kernel_rfl) (of_decide_eq_true (by kernel_rfl)) h1 bel lt1) (trodAll_cons_mk (Below.trod laidOut (by kernel_rfl) (of_decide_eq_true (by kernel_rfl)) h2 bel lt2) trodAll_mk0))), rfl, bel.frame _, fun h => by cases h⟩

theorem over : Rows.hallMirrorsRow.holds Tryz.pinned (OpenSpec.ofChange Rows.hallMirrorsSpec) :=
  OpenClaim.holds_of_wide 3 Tryz.f3 rfl rfl rfl rfl rfl rfl rfl ⟨rfl, rfl, rfl, rfl, rfl⟩ rfl rfl rfl rfl rfl (by kernel_rfl) Tryz.func3 (by kernel_rfl)
    (of_decide_eq_true (by kernel_rfl)) (by unfold Func.isWrapper; first | (rw [if_pos (by decide +kernel)]; kernel_rfl) | (rw [if_neg (by decide +kernel)]; exact ⟨rfl, rfl⟩))
    (fun os started H enc _ => lifted os started H enc)

theorem proved : Rows.HallMirrorsSaid :=
  over
#print axioms proved
end Go.Proofs.YtbonjgeglhbhnaaGreat.hallMirrors
