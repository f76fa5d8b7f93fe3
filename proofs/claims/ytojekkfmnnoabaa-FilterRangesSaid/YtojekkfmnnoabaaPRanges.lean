/- The enclosure of the gain squared of a cascade is as specified, or the errors; that of a section alone has its gain squared: for any list of sections and any turn, without condition. -/
import Derived.Test.YtojekkfmnnoabaaG4
import Derived.Test.YtojekkfmnnoabaaM
import Derived.Test.YtojekkfmnnoabaaRows
set_option linter.unusedSimpArgs false
set_option linter.unusedVariables false
set_option linter.defProp false
namespace Go.Proofs.Ytojekkfmnnoabaa.filterRanges
open Go Go.Rex Go.ChangeShapes Go.WideShapes Go.ChangeAt Go.RowKit Go.Joins Go.Proofs Go.Proofs.Ytojekkfmnnoabaa
theorem own : ownKnob Try.prog.godebug = none := by kernel_rfl
theorem laidOut : laidOutB Try.prog = true := by kernel_rfl
set_option maxHeartbeats 1000000 in
set_option maxRecDepth 100000 in
theorem lifted (os : Os) (started : os.Started) (H : Type) (enc : TypeId × Value → H) :
    ReturnsInHanded {} Try.checked os 14 .any (Rows.filterRangesSpec.pre6 enc Try.prog Try.f14 Rows.filterRangesRow.domain false) (Rows.filterRangesSpec.post enc Try.prog Try.f14 false true false false) := by
  refine returnsInHanded_of_change (C := Try.checked) own started (by kernel_rfl) Try.func14
    (ChangeSpec.witness6 (enc := enc) (C := Try.checked) false ⟨#[], #[.slice none 0 0, .agg #[.int .i64 0, .int .i64 0, .int .i64 0]], []⟩ 8 (by kernel_rfl) (by kernel_rfl) (by kernel_rfl) (by kernel_rfl)) ?_
  intro W base args ds gs before hval0 hW hcnd _
  have hval : ∀ (j : Nat) t v, Try.f14.params[j]? = some t → args[j]? = some v → Value.okWide Try.prog W .any base t v := hval0
  have hW' := hW
  obtain ⟨p, q, hA0, hV, rfl, hfz, hnd⟩ := hW
  have hA : DataW.TrodAll enc Try.prog W 0 (fun _ => true) true Try.f14.params.toList args.toList ds p := hA0
  rw [Try.params14] at hA hval
  obtain ⟨v0, vs0, d0, ds0, p0, q0, hargs, rfl, rfl, h0, r0⟩ := trodAll_cons hA
  obtain ⟨v1, vs1, d1, ds1, p1, q1, rfl, rfl, rfl, h1, r1⟩ := trodAll_cons r0
  obtain ⟨rfl, rfl, rfl⟩ := trodAll_nil r1
  obtain rfl : args = #[v0, v1] := by cases args; simp_all
  obtain ⟨rfl, rfl⟩ := trodVars_none hV
  have lt0 : ∀ x ∈ p0, x.block < W.heap.size := by obtain ⟨m, hm⟩ := h0; exact DataW.trod_lt m _ _ _ hm
  have lt1 : ∀ x ∈ p1, x.block < W.heap.size := by obtain ⟨m, hm⟩ := h1; exact DataW.trod_lt m _ _ _ hm
  clear hA0 hval0
  have w0 := hval 0 22 v0 rfl rfl
  obtain ⟨x0, b0, i0, a0, A0⟩ : ∃ (xs : List (Int × Int × Int × Int × Int)) (bs : List Blk) (is : List Info) (av : Nat → Value), Arg W v0 (.list 5 (xs.map e_iiiii)) bs is av := by
    obtain ⟨a, len, cap, rfl⟩ := okWide_slice Try.underlying22 w0
    obtain ⟨m, hm⟩ := h0
    refine open_rows (g := fun (x : (Int × Int × Int × Int × Int)) => [.int .i64 x.1, .int .i64 x.2.1, .int .i64 x.2.2.1, .int .i64 x.2.2.2.1, .int .i64 x.2.2.2.2]) (by decide) (fun _ => rfl) (fun _ => rfl) (fun x c hc => ?_) Try.underlying22 (by kernel_rfl) w0 (fun n cs y hy hl => ?_) (by simpa [Value.cells] using hm)
    · simp only [List.mem_cons, List.not_mem_nil, or_false] at hc
      rcases hc with rfl | rfl | rfl | rfl | rfl <;> exact atomV_int _ _
    · obtain ⟨l, rfl⟩ := ((fun _ _ _ h => ai_struct Try.underlying26 (by kernel_rfl) (by intro f hf; simp only [List.mem_cons, List.not_mem_nil, or_false] at hf; rcases hf with rfl | rfl; exact (fun _ _ _ h => ai_arr (k := 1) Try.underlying23 (by kernel_rfl) (by decide) (by kernel_rfl) (fun _ _ _ h => ai_int Try.underlying3 h) h); exact (fun _ _ _ h => ai_arr (k := 1) Try.underlying24 (by kernel_rfl) (by decide) (by kernel_rfl) (fun _ _ _ h => ai_int Try.underlying3 h) h)) h) n cs y hy).list
      rw [List.length_map] at hl
      obtain ⟨y0, y1, y2, y3, y4, rfl⟩ := len5 hl
      exact ⟨(y0, y1, y2, y3, y4), rfl⟩
  obtain ⟨l1, hl1, rfl⟩ := open_sti (n := 3) Try.underlying114 Try.underlying3 (by kernel_rfl) (by kernel_rfl) (hval 1 114 v1 rfl rfl)
  obtain ⟨x1_0, x1_1, x1_2, rfl⟩ := len3 hl1
  have AA := Args.cons (A0) (Args.cons (arg_ints [x1_0, x1_1, x1_2]) (Args.nil W))
  refine (law06_FilterRanges_law (ranges_true x0 x1_0 x1_1 x1_2) (fun n h => h) AA.vls AA.rel (Nat.le_refl _) AA.vrs).mono fun e W' ⟨he, bel⟩ => ?_
  subst he
  exact ⟨_, rfl, _, _, _, [], _, [], hW', trodAll_mk1 (shut_bool Try.underlying4 _), (trodAll_cons_mk (Below.trod laidOut (by kernel_rfl) (of_decide_eq_true (by kernel_rfl)) h0 bel lt0) (trodAll_cons_mk (Below.trod laidOut (by kernel_rfl) (of_decide_eq_true (by kernel_rfl)) h1 bel lt1) trodAll_mk0)), rfl, bel.frame _, fun h => by cases h⟩
theorem over : Rows.filterRangesRow.holds Try.pinned (OpenSpec.ofChange Rows.filterRangesSpec) :=
  OpenClaim.holds_of_wide 14 Try.f14 rfl rfl rfl rfl rfl rfl rfl ⟨rfl, rfl, rfl, rfl, rfl⟩ rfl rfl rfl rfl rfl (by kernel_rfl) Try.func14 (by kernel_rfl)
    (of_decide_eq_true (by kernel_rfl)) (by unfold Func.isWrapper; first | (rw [if_pos (by decide +kernel)]; kernel_rfl) | (rw [if_neg (by decide +kernel)]; exact ⟨rfl, rfl⟩))
    (fun os started H enc _ => lifted os started H enc)
theorem proved : Rows.FilterRangesSaid :=
  over
end Go.Proofs.Ytojekkfmnnoabaa.filterRanges
