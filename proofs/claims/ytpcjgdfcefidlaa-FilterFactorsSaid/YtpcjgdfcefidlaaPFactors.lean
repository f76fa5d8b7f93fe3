/- The product of two polynomials is stable if and only if both of them are, and one of the order 1 is so if its second number is smaller in size than its first. -/
import Derived.Test.YtpcjgdfcefidlaaG2
import Derived.Test.YtpcjgdfcefidlaaM
import Derived.Test.YtpcjgdfcefidlaaRows
set_option linter.unusedSimpArgs false
set_option linter.unusedVariables false
set_option linter.defProp false
namespace Go.Proofs.Ytpcjgdfcefidlaa.filterFactors
open Go Go.Rex Go.ChangeShapes Go.WideShapes Go.ChangeAt Go.RowKit Go.Joins Go.Proofs Go.Proofs.Ytpcjgdfcefidlaa
theorem own : ownKnob Try.prog.godebug = none := by kernel_rfl
theorem laidOut : laidOutB Try.prog = true := by kernel_rfl
set_option maxHeartbeats 1000000 in
set_option maxRecDepth 100000 in
theorem lifted (os : Os) (started : os.Started) (H : Type) (enc : TypeId × Value → H) :
    ReturnsInHanded {} Try.checked os 3 .any (Rows.filterFactorsSpec.pre6 enc Try.prog Try.f3 Rows.filterFactorsRow.domain false) (Rows.filterFactorsSpec.post enc Try.prog Try.f3 false true false false) := by
  refine returnsInHanded_of_change (C := Try.checked) own started (by kernel_rfl) Try.func3
    (ChangeSpec.witness6 (enc := enc) (C := Try.checked) false ⟨#[], #[.slice none 0 0, .slice none 0 0], []⟩ 8 (by kernel_rfl) (by kernel_rfl) (by kernel_rfl) (by kernel_rfl)) ?_
  intro W base args ds gs before hval0 hW hcnd _
  have hval : ∀ (j : Nat) t v, Try.f3.params[j]? = some t → args[j]? = some v → Value.okWide Try.prog W .any base t v := hval0
  have hW' := hW
  obtain ⟨p, q, hA0, hV, rfl, hfz, hnd⟩ := hW
  have hA : DataW.TrodAll enc Try.prog W 0 (fun _ => true) true Try.f3.params.toList args.toList ds p := hA0
  rw [Try.params3] at hA hval
  obtain ⟨v0, vs0, d0, ds0, p0, q0, hargs, rfl, rfl, h0, r0⟩ := trodAll_cons hA
  obtain ⟨v1, vs1, d1, ds1, p1, q1, rfl, rfl, rfl, h1, r1⟩ := trodAll_cons r0
  obtain ⟨rfl, rfl, rfl⟩ := trodAll_nil r1
  obtain rfl : args = #[v0, v1] := by cases args; simp_all
  obtain ⟨rfl, rfl⟩ := trodVars_none hV
  have lt0 : ∀ x ∈ p0, x.block < W.heap.size := by obtain ⟨m, hm⟩ := h0; exact DataW.trod_lt m _ _ _ hm
  have lt1 : ∀ x ∈ p1, x.block < W.heap.size := by obtain ⟨m, hm⟩ := h1; exact DataW.trod_lt m _ _ _ hm
  clear hA0 hval0
  have w0 := hval 0 22 v0 rfl rfl
  obtain ⟨x0, b0, i0, a0, A0⟩ : ∃ (xs : List Int) (bs : List Blk) (is : List Info) (av : Nat → Value), Arg W v0 (.list 1 (xs.map e_i)) bs is av := by
    obtain ⟨a, len, cap, rfl⟩ := okWide_slice Try.underlying22 w0
    obtain ⟨m, hm⟩ := h0
    refine open_rows (g := fun (x : Int) => [.int .i64 x]) (by decide) (fun _ => rfl) (fun _ => rfl) (fun x c hc => ?_) Try.underlying22 (by kernel_rfl) w0 (fun n cs y hy hl => ?_) (by simpa [Value.cells] using hm)
    · simp only [List.mem_cons, List.not_mem_nil, or_false] at hc
      subst hc; exact atomV_int _ _
    · obtain ⟨l, rfl⟩ := ((fun _ _ _ h => ai_int Try.underlying3 h) n cs y hy).list
      rw [List.length_map] at hl
      obtain ⟨y0, rfl⟩ := len1 hl
      exact ⟨y0, rfl⟩
  have w1 := hval 1 22 v1 rfl rfl
  obtain ⟨x1, b1, i1, a1, A1⟩ : ∃ (xs : List Int) (bs : List Blk) (is : List Info) (av : Nat → Value), Arg W v1 (.list 1 (xs.map e_i)) bs is av := by
    obtain ⟨a, len, cap, rfl⟩ := okWide_slice Try.underlying22 w1
    obtain ⟨m, hm⟩ := h1
    refine open_rows (g := fun (x : Int) => [.int .i64 x]) (by decide) (fun _ => rfl) (fun _ => rfl) (fun x c hc => ?_) Try.underlying22 (by kernel_rfl) w1 (fun n cs y hy hl => ?_) (by simpa [Value.cells] using hm)
    · simp only [List.mem_cons, List.not_mem_nil, or_false] at hc
      subst hc; exact atomV_int _ _
    · obtain ⟨l, rfl⟩ := ((fun _ _ _ h => ai_int Try.underlying3 h) n cs y hy).list
      rw [List.length_map] at hl
      obtain ⟨y0, rfl⟩ := len1 hl
      exact ⟨y0, rfl⟩
  have AA := Args.cons (A0) (Args.cons (A1) (Args.nil W))
  refine (law06_FilterFactors_law (factors_true x0 x1) (fun n h => h) AA.vls AA.rel (Nat.le_refl _) AA.vrs).mono fun e W' ⟨he, bel⟩ => ?_
  subst he
  exact ⟨_, rfl, _, _, _, [], _, [], hW', trodAll_mk1 (shut_bool Try.underlying4 _), (trodAll_cons_mk (Below.trod laidOut (by kernel_rfl) (of_decide_eq_true (by kernel_rfl)) h0 bel lt0) (trodAll_cons_mk (Below.trod laidOut (by kernel_rfl) (of_decide_eq_true (by kernel_rfl)) h1 bel lt1) trodAll_mk0)), rfl, bel.frame _, fun h => by cases h⟩
theorem over : Rows.filterFactorsRow.holds Try.pinned (OpenSpec.ofChange Rows.filterFactorsSpec) :=
  OpenClaim.holds_of_wide 3 Try.f3 rfl rfl rfl rfl rfl rfl rfl ⟨rfl, rfl, rfl, rfl, rfl⟩ rfl rfl rfl rfl rfl (by kernel_rfl) Try.func3 (by kernel_rfl)
    (of_decide_eq_true (by kernel_rfl)) (by unfold Func.isWrapper; first | (rw [if_pos (by decide +kernel)]; kernel_rfl) | (rw [if_neg (by decide +kernel)]; exact ⟨rfl, rfl⟩))
    (fun os started H enc _ => lifted os started H enc)
theorem proved : Rows.FilterFactorsSaid :=
  over
end Go.Proofs.Ytpcjgdfcefidlaa.filterFactors
