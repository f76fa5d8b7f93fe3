/- Which fields are right, and the field of a period, or the errors, are as specified: for any three numbers as a field, any period and any least number, without condition. -/
import Derived.Test.YtnnmnciaopaciaaG5
import Derived.Test.YtnnmnciaopaciaaM
import Derived.Test.YtnnmnciaopaciaaRows
import Derived.ProofKit
import Derived.OpenShut
import Derived.ShutString
import Derived.ChangeOld
import Derived.Below
import Derived.Lib.SmallJoins
import Derived.ChangeShapes
import Derived.ChangeArms
import Derived.WideShapes
set_option linter.unusedSimpArgs false
set_option linter.unusedVariables false
namespace Go.Proofs.Ytnnmnciaopaciaa.pulseFields
open Go Go.Rex Go.ChangeShapes Go.WideShapes Go.ChangeAt Go.RowKit Go.Joins Go.Proofs Go.Proofs.Ytnnmnciaopaciaa
theorem own : ownKnob Try.prog.godebug = none := by kernel_rfl
theorem laidOut : laidOutB Try.prog = true := by kernel_rfl
theorem open_int {P : Program} {W : World} {t : TypeId} (ht : P.underlying t = some (.int .i64)) {r : Reach} {b : Nat} {v : Value} (w : Value.okWide P W r b t v) : ∃ n : Int, v = .int .i64 n := by
  unfold Value.okWide at w
  simp only [ht] at w
  unfold Cell.okWide at w
  simp only [ht] at w
  unfold Cell.ok at w
  simp only [ht] at w
  cases v <;> first | exact ⟨_, by rw [w.1]⟩ | exact absurd w (by simp)
theorem cell_int {P : Program} {W : World} {t : TypeId} (ht : P.underlying t = some (.int .i64)) {r : Reach} {b : Nat} {v : Value} (w : Cell.okWide P W r b t v) : ∃ n : Int, v = .int .i64 n := by
  unfold Cell.okWide at w
  simp only [ht] at w
  unfold Cell.ok at w
  simp only [ht] at w
  cases v <;> first | exact ⟨_, by rw [w.1]⟩ | exact absurd w (by simp)
set_option maxRecDepth 100000 in
theorem open_field {W : World} {r : Reach} {b : Nat} {v : Value} (w : Value.okWide Try.prog W r b 76 v) : ∃ x y z : Int, v = .agg #[.int .i64 x, .int .i64 y, .int .i64 z] := by
  unfold Value.okWide at w
  simp only [Try.underlying76] at w
  obtain ⟨cs, rfl, hs, ts, hts, _, hc⟩ := w
  have e : Try.prog.cellTypes Try.prog.depth 76 = some [3, 3, 3] := by kernel_rfl
  rw [e] at hts
  obtain rfl := Option.some.inj hts
  rw [show Try.prog.cellsOf 76 = 3 by kernel_rfl] at hs
  obtain ⟨l⟩ := cs
  match l, hs with
  | [c0, c1, c2], _ =>
    obtain ⟨_, u0, h0⟩ := hc 0 c0 rfl
    obtain ⟨_, u1, h1⟩ := hc 1 c1 rfl
    obtain ⟨_, u2, h2⟩ := hc 2 c2 rfl
    obtain rfl := Option.some.inj u0
    obtain rfl := Option.some.inj u1
    obtain rfl := Option.some.inj u2
    obtain ⟨x, rfl⟩ := cell_int Try.underlying3 h0
    obtain ⟨y, rfl⟩ := cell_int Try.underlying3 h1
    obtain ⟨z, rfl⟩ := cell_int Try.underlying3 h2
    exact ⟨x, y, z, rfl⟩
set_option maxRecDepth 100000 in
theorem lifted (os : Os) (started : os.Started) (H : Type) (enc : TypeId × Value → H) :
    ReturnsInHanded {} Try.checked os 9 .any (Rows.pulseFieldsSpec.pre6 enc Try.prog Try.f9 Rows.pulseFieldsRow.domain false) (Rows.pulseFieldsSpec.post enc Try.prog Try.f9 false true false false) := by
  refine returnsInHanded_of_change (C := Try.checked) own started (by kernel_rfl) Try.func9
    (ChangeSpec.witness6 (enc := enc) (C := Try.checked) false ⟨#[], #[.agg #[.int .i64 0, .int .i64 0, .int .i64 0], .int .i64 0, .int .i64 0], []⟩ 8 (by kernel_rfl) (by kernel_rfl) (by kernel_rfl) (by kernel_rfl)) ?_
  intro W base args ds gs before hval0 hW hcnd _
  have hval : ∀ (j : Nat) t v, Try.f9.params[j]? = some t → args[j]? = some v → Value.okWide Try.prog W .any base t v := hval0
  have hW' := hW
  obtain ⟨p, q, hA0, hV, rfl, hfz, hnd⟩ := hW
  have hA : DataW.TrodAll enc Try.prog W 0 (fun _ => true) true Try.f9.params.toList args.toList ds p := hA0
  rw [Try.params9] at hA hval
  obtain ⟨v0, vs0, d0, ds0, p0, q0, hargs, rfl, rfl, h0, r0⟩ := trodAll_cons hA
  obtain ⟨v1, vs1, d1, ds1, p1, q1, rfl, rfl, rfl, h1, r1⟩ := trodAll_cons r0
  obtain ⟨v2, vs2, d2, ds2, p2, q2, rfl, rfl, rfl, h2, r2⟩ := trodAll_cons r1
  obtain ⟨rfl, rfl, rfl⟩ := trodAll_nil r2
  obtain rfl : args = #[v0, v1, v2] := by cases args; simp_all
  obtain ⟨rfl, rfl⟩ := trodVars_none hV
  have lt0 : ∀ x ∈ p0, x.block < W.heap.size := by obtain ⟨m, hm⟩ := h0; exact DataW.trod_lt m _ _ _ hm
  have lt1 : ∀ x ∈ p1, x.block < W.heap.size := by obtain ⟨m, hm⟩ := h1; exact DataW.trod_lt m _ _ _ hm
  have lt2 : ∀ x ∈ p2, x.block < W.heap.size := by obtain ⟨m, hm⟩ := h2; exact DataW.trod_lt m _ _ _ hm
  obtain ⟨x, y, z, rfl⟩ := open_field (hval 0 76 v0 rfl rfl)
  obtain ⟨c, rfl⟩ := open_int Try.underlying3 (hval 1 3 v1 rfl rfl)
  obtain ⟨s, rfl⟩ := open_int Try.underlying3 (hval 2 3 v2 rfl rfl)
  clear hA0 hval0
  have hag : VL (fun _ => False) [] noL (.agg [.v (.int .i64 x), .v (.int .i64 y), .v (.int .i64 z)]) (.agg ⟨[.int .i64 x, .int .i64 y, .int .i64 z]⟩) := by
    refine VL.agg _ _ _ rfl fun i p q hp hq => ?_
    match i, hp, hq with
    | 0, hp, hq => obtain rfl := Option.some.inj hp
                   obtain rfl := Option.some.inj hq
                   exact .v _ _ rfl
    | 1, hp, hq => obtain rfl := Option.some.inj hp
                   obtain rfl := Option.some.inj hq
                   exact .v _ _ rfl
    | 2, hp, hq => obtain rfl := Option.some.inj hp
                   obtain rfl := Option.some.inj hq
                   exact .v _ _ rfl
    | n + 3, hp, hq => simp at hp
  have hvr : VR (fun _ => False) (fun _ => ⟨0, 0, 0, 0⟩) (.agg ⟨[.int .i64 x, .int .i64 y, .int .i64 z]⟩) (.agg ⟨[.int .i64 x, .int .i64 y, .int .i64 z]⟩) := by
    refine VR.agg _ _ rfl fun i p q hp hq => ?_
    match i, hp, hq with
    | 0, hp, hq => obtain rfl := Option.some.inj hp
                   obtain rfl := Option.some.inj hq
                   exact .int _ _
    | 1, hp, hq => obtain rfl := Option.some.inj hp
                   obtain rfl := Option.some.inj hq
                   exact .int _ _
    | 2, hp, hq => obtain rfl := Option.some.inj hp
                   obtain rfl := Option.some.inj hq
                   exact .int _ _
    | n + 3, hp, hq => simp at hp
  refine (law04_PulseFields_law (fields_true x y z c s) (Fz := fun _ => False) (h := []) (vs := [.agg ⟨[.int .i64 x, .int .i64 y, .int .i64 z]⟩, .int .i64 c, .int .i64 s]) (fun n h => h.elim) (.cons hag (.cons (.v _ _ rfl) (.cons (.v _ _ rfl) .nil))) (Rel.empty W fun _ => ⟨0, 0, 0, 0⟩) (Nat.le_refl _) (args' := [.agg ⟨[.int .i64 x, .int .i64 y, .int .i64 z]⟩, .int .i64 c, .int .i64 s]) ?_).mono fun e W' ⟨he, bel⟩ => ?_
  · refine ⟨rfl, fun i a a' ha ha' => ?_⟩
    match i, ha, ha' with
    | 0, ha, ha' => obtain rfl := Option.some.inj ha
                    obtain rfl := Option.some.inj ha'
                    exact hvr
    | 1, ha, ha' => obtain rfl := Option.some.inj ha
                    obtain rfl := Option.some.inj ha'
                    exact .int _ _
    | 2, ha, ha' => obtain rfl := Option.some.inj ha
                    obtain rfl := Option.some.inj ha'
                    exact .int _ _
    | n + 3, ha, ha' => simp at ha
  subst he
  exact ⟨_, rfl, _, _, _, [], _, [], hW', trodAll_mk1 (shut_bool Try.underlying4 _), (trodAll_cons_mk (Below.trod laidOut (by kernel_rfl) (of_decide_eq_true (by kernel_rfl)) h0 bel lt0) (trodAll_cons_mk (Below.trod laidOut (by kernel_rfl) (of_decide_eq_true (by kernel_rfl)) h1 bel lt1) (trodAll_cons_mk (Below.trod laidOut (by kernel_rfl) (of_decide_eq_true (by kernel_rfl)) h2 bel lt2) trodAll_mk0))), rfl, bel.frame _, fun h => by cases h⟩

theorem over : Rows.pulseFieldsRow.holds Try.pinned (OpenSpec.ofChange Rows.pulseFieldsSpec) :=
  OpenClaim.holds_of_wide 9 Try.f9 rfl rfl rfl rfl rfl rfl rfl ⟨rfl, rfl, rfl, rfl, rfl⟩ rfl rfl rfl rfl rfl (by kernel_rfl) Try.func9 (by kernel_rfl)
    (of_decide_eq_true (by kernel_rfl)) (by unfold Func.isWrapper; first | (rw [if_pos (by decide +kernel)]; kernel_rfl) | (rw [if_neg (by decide +kernel)]; exact ⟨rfl, rfl⟩))
    (fun os started H enc _ => lifted os started H enc)

theorem proved : Rows.PulseFieldsSaid :=
  over
end Go.Proofs.Ytnnmnciaopaciaa.pulseFields
