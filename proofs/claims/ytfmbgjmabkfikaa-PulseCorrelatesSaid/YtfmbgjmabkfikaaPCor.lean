/- The correlation of two lists, or the errors, is as specified: for any two lists of numbers and any lag, without condition. -/
import Derived.Test.YtfmbgjmabkfikaaOpenA
import Derived.Test.YtfmbgjmabkfikaaRows
import Derived.ProofKit
import Derived.OpenShut
import Derived.ShutString
import Derived.ChangeOld
import Derived.Below
import Derived.Lib.SmallJoins
namespace Go.Proofs.Ytfmbgjmabkfikaa.pulseCorrelates
open Go.Rex Go.ChangeShapes Go.WideShapes Go.ChangeAt Go.RowKit Go.Joins Go.Proofs.Ytfmbgjmabkfikaa

theorem own : ownKnob Try.prog.godebug = none := by kernel_rfl
theorem laidOut : laidOutB Try.prog = true := by kernel_rfl
theorem cells3 : Try.prog.cellsOf 3 = 1 := by kernel_rfl
set_option maxRecDepth 100000 in
theorem lifted (os : Os) (started : os.Started) (H : Type) (enc : TypeId × Value → H) :
    ReturnsInHanded {} Try.checked os 7 .any (Rows.pulseCorrelatesSpec.pre6 enc Try.prog Try.f7 Rows.pulseCorrelatesRow.domain false) (Rows.pulseCorrelatesSpec.post enc Try.prog Try.f7 false true false false) := by
  refine returnsInHanded_of_change (C := Try.checked) own started (by kernel_rfl) Try.func7
    (ChangeSpec.witness6 (enc := enc) (C := Try.checked) false ⟨#[], #[.slice none 0 0, .slice none 0 0, .int .i64 0], []⟩ 8 (by kernel_rfl) (by kernel_rfl) (by kernel_rfl) (by kernel_rfl)) ?_
  intro W base args ds gs before hval0 hW hcnd _
  have hval : ∀ (j : Nat) t v, Try.f7.params[j]? = some t → args[j]? = some v → Value.okWide Try.prog W .any base t v := hval0
  have hW' := hW
  obtain ⟨p, q, hA0, hV, rfl, hfz, hnd⟩ := hW
  have hA : DataW.TrodAll enc Try.prog W 0 (fun _ => true) true Try.f7.params.toList args.toList ds p := hA0
  rw [Try.params7] at hA hval
  obtain ⟨v0, vs0, d0, ds0, p0, q0, hargs, rfl, rfl, h0, r0⟩ := trodAll_cons hA
  obtain ⟨v1, vs1, d1, ds1, p1, q1, rfl, rfl, rfl, h1, r1⟩ := trodAll_cons r0
  obtain ⟨v2, vs2, d2, ds2, p2, q2, rfl, rfl, rfl, h2, r2⟩ := trodAll_cons r1
  obtain ⟨rfl, rfl, rfl⟩ := trodAll_nil r2
  obtain rfl : args = #[v0, v1, v2] := by cases args; simp_all
  obtain ⟨rfl, rfl⟩ := trodVars_none hV
  have lt0 : ∀ x ∈ p0, x.block < W.heap.size := by obtain ⟨m, hm⟩ := h0; exact DataW.trod_lt m _ _ _ hm
  have lt1 : ∀ x ∈ p1, x.block < W.heap.size := by obtain ⟨m, hm⟩ := h1; exact DataW.trod_lt m _ _ _ hm
  have lt2 : ∀ x ∈ p2, x.block < W.heap.size := by obtain ⟨m, hm⟩ := h2; exact DataW.trod_lt m _ _ _ hm
  have w0 := hval 0 22 v0 rfl rfl
  have w1 := hval 1 22 v1 rfl rfl
  obtain ⟨xs, av0, b0, i0, s0⟩ : ∃ xs av b i, SlArg W v0 xs av b i := by
    obtain ⟨a, len, cap, rfl⟩ := okWide_slice Try.underlying22 w0
    obtain ⟨m, hm⟩ := h0
    exact open_ints Try.underlying22 Try.underlying3 cells3 w0 (by simpa [Value.cells] using hm)
  obtain ⟨ys, av1, b1, i1, s1⟩ : ∃ xs av b i, SlArg W v1 xs av b i := by
    obtain ⟨a, len, cap, rfl⟩ := okWide_slice Try.underlying22 w1
    obtain ⟨m, hm⟩ := h1
    exact open_ints Try.underlying22 Try.underlying3 cells3 w1 (by simpa [Value.cells] using hm)
  obtain ⟨lag, rfl⟩ : ∃ lag : Int, v2 = .int .i64 lag := by
    have w2 := hval 2 3 v2 rfl rfl
    unfold Value.okWide at w2
    simp only [Try.underlying3] at w2
    unfold Cell.okWide at w2
    simp only [Try.underlying3] at w2
    unfold Cell.ok at w2
    simp only [Try.underlying3] at w2
    cases v2 <;> first | exact ⟨_, by rw [w2.1]⟩ | exact absurd w2 (by simp)
  clear hA0 hval0
  let m : NMap := fun n => if n = 0 then i0 else i1
  have hr : Rel W.heap.size 2 (fun k => k < 2) m [b0, b1] W := by
    refine rel_args [b0, b1] m ?_ ?_
    · intro n b hb
      match n, hb with
      | 0, hb => obtain rfl : b0 = b := by simpa using hb
                 exact s0.ok _ _ _ rfl
      | 1, hb => obtain rfl : b1 = b := by simpa using hb
                 exact s1.ok _ _ _ rfl
      | n + 2, hb => simp at hb
    · intro n b hb hd
      match n, hb with
      | 0, hb => obtain rfl : b0 = b := by simpa using hb
                 exact s0.lt hd
      | 1, hb => obtain rfl : b1 = b := by simpa using hb
                 exact s1.lt hd
      | n + 2, hb => simp at hb
  have hargs' : VRs (fun k => k < 2) m [av0 0, av1 1, .int .i64 lag] [v0, v1, .int .i64 lag] := by
    refine ⟨rfl, fun i a a' ha ha' => ?_⟩
    match i, ha, ha' with
    | 0, ha, ha' => obtain rfl := Option.some.inj ha
                    obtain rfl := Option.some.inj ha'
                    exact s0.vr _ _ 0 (by omega) rfl
    | 1, ha, ha' => obtain rfl := Option.some.inj ha
                    obtain rfl := Option.some.inj ha'
                    exact s1.vr _ _ 1 (by omega) rfl
    | 2, ha, ha' => obtain rfl := Option.some.inj ha
                    obtain rfl := Option.some.inj ha'
                    exact .int _ _
    | n + 3, ha, ha' => simp at ha
  refine (law_call xs ys (av0 0) (av1 1) lag [b0, b1] (s0.slv _ 0 rfl) (s1.slv _ 1 rfl) hr (Nat.le_refl _) hargs').mono fun e W' ⟨he, bel⟩ => ?_
  subst he
  exact ⟨_, rfl, _, _, _, [], _, [], hW', trodAll_mk1 (shut_bool Try.underlying4 _), (trodAll_cons_mk (Below.trod laidOut (by kernel_rfl) (of_decide_eq_true (by kernel_rfl)) h0 bel lt0) (trodAll_cons_mk (Below.trod laidOut (by kernel_rfl) (of_decide_eq_true (by kernel_rfl)) h1 bel lt1) (trodAll_cons_mk (Below.trod laidOut (by kernel_rfl) (of_decide_eq_true (by kernel_rfl)) h2 bel lt2) trodAll_mk0))), rfl, bel.frame _, fun h => by cases h⟩

theorem over : Rows.pulseCorrelatesRow.holds Try.pinned (OpenSpec.ofChange Rows.pulseCorrelatesSpec) :=
  OpenClaim.holds_of_wide 7 Try.f7 rfl rfl rfl rfl rfl rfl rfl ⟨rfl, rfl, rfl, rfl, rfl⟩ rfl rfl rfl rfl rfl (by kernel_rfl) Try.func7 (by kernel_rfl)
    (of_decide_eq_true (by kernel_rfl)) (by unfold Func.isWrapper; first | (rw [if_pos (by decide +kernel)]; kernel_rfl) | (rw [if_neg (by decide +kernel)]; exact ⟨rfl, rfl⟩))
    (fun os started H enc _ => lifted os started H enc)

theorem proved : Rows.PulseCorrelatesSaid :=
  over
#print axioms proved
end Go.Proofs.Ytfmbgjmabkfikaa.pulseCorrelates
