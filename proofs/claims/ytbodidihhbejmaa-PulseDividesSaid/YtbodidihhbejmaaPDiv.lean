/- A response that is recorded by a chirp and divided by it is the response again, with zeros behind it, and the recording of a sum is the sum of both. -/
import Derived.Test.YtbodidihhbejmaaG2
import Derived.Test.YtbodidihhbejmaaM
import Derived.Test.YtbodidihhbejmaaRows
set_option linter.unusedSimpArgs false
set_option linter.unusedVariables false
set_option linter.defProp false
namespace Go.Proofs.Ytbodidihhbejmaa.pulseDivides
open Go Go.Rex Go.ChangeShapes Go.WideShapes Go.ChangeAt Go.RowKit Go.Joins Go.Proofs Go.Proofs.Ytbodidihhbejmaa
theorem own : ownKnob Try.prog.godebug = none := by kernel_rfl
theorem laidOut : laidOutB Try.prog = true := by kernel_rfl
set_option maxHeartbeats 1000000 in
set_option maxRecDepth 100000 in
theorem lifted (os : Os) (started : os.Started) (H : Type) (enc : TypeId × Value → H) :
    ReturnsInHanded {} Try.checked os 5 .any (Rows.pulseDividesSpec.pre6 enc Try.prog Try.f5 Rows.pulseDividesRow.domain false) (Rows.pulseDividesSpec.post enc Try.prog Try.f5 false true false false) := by
  refine returnsInHanded_of_change (C := Try.checked) own started (by kernel_rfl) Try.func5
    (ChangeSpec.witness6 (enc := enc) (C := Try.checked) false ⟨#[], #[.slice none 0 0, .slice none 0 0, .agg #[.int .i64 0, .int .i64 0]], []⟩ 8 (by kernel_rfl) (by kernel_rfl) (by kernel_rfl) (by kernel_rfl)) ?_
  intro W base args ds gs before hval0 hW hcnd _
  have hval : ∀ (j : Nat) t v, Try.f5.params[j]? = some t → args[j]? = some v → Value.okWide Try.prog W .any base t v := hval0
  have hW' := hW
  obtain ⟨p, q, hA0, hV, rfl, hfz, hnd⟩ := hW
  have hA : DataW.TrodAll enc Try.prog W 0 (fun _ => true) true Try.f5.params.toList args.toList ds p := hA0
  rw [Try.params5] at hA hval
  obtain ⟨v0, vs0, d0, ds0, p0, q0, hargs, rfl, rfl, h0, r0⟩ := trodAll_cons hA
  obtain ⟨v1, vs1, d1, ds1, p1, q1, rfl, rfl, rfl, h1, r1⟩ := trodAll_cons r0
  obtain ⟨v2, vs2, d2, ds2, p2, q2, rfl, rfl, rfl, h2, r2⟩ := trodAll_cons r1
  obtain ⟨rfl, rfl, rfl⟩ := trodAll_nil r2
  obtain rfl : args = #[v0, v1, v2] := by cases args; simp_all
  obtain ⟨rfl, rfl⟩ := trodVars_none hV
  have lt0 : ∀ x ∈ p0, x.block < W.heap.size := by obtain ⟨m, hm⟩ := h0; exact DataW.trod_lt m _ _ _ hm
  have lt1 : ∀ x ∈ p1, x.block < W.heap.size := by obtain ⟨m, hm⟩ := h1; exact DataW.trod_lt m _ _ _ hm
  have lt2 : ∀ x ∈ p2, x.block < W.heap.size := by obtain ⟨m, hm⟩ := h2; exact DataW.trod_lt m _ _ _ hm
  clear hA0 hval0
  have w0 := hval 0 46 v0 rfl rfl
  obtain ⟨x0, b0, i0, a0, A0⟩ : ∃ (xs : List (Int × Int)) (bs : List Blk) (is : List Info) (av : Nat → Value), Arg W v0 (.list 2 (xs.map e_ii)) bs is av := by
    obtain ⟨a, len, cap, rfl⟩ := okWide_slice Try.underlying46 w0
    obtain ⟨m, hm⟩ := h0
    refine open_rows (g := fun (x : (Int × Int)) => [.int .i64 x.1, .int .i64 x.2]) (by decide) (fun _ => rfl) (fun _ => rfl) (fun x c hc => ?_) Try.underlying46 (by kernel_rfl) w0 (fun n cs y hy hl => ?_) (by simpa [Value.cells] using hm)
    · simp only [List.mem_cons, List.not_mem_nil, or_false] at hc
      rcases hc with rfl | rfl <;> exact atomV_int _ _
    · obtain ⟨l, rfl⟩ := ((fun _ _ _ h => ai_arr (k := 1) Try.underlying47 (by kernel_rfl) (by decide) (by kernel_rfl) (fun _ _ _ h => ai_int Try.underlying3 h) h) n cs y hy).list
      rw [List.length_map] at hl
      obtain ⟨y0, y1, rfl⟩ := len2 hl
      exact ⟨(y0, y1), rfl⟩
  have w1 := hval 1 46 v1 rfl rfl
  obtain ⟨x1, b1, i1, a1, A1⟩ : ∃ (xs : List (Int × Int)) (bs : List Blk) (is : List Info) (av : Nat → Value), Arg W v1 (.list 2 (xs.map e_ii)) bs is av := by
    obtain ⟨a, len, cap, rfl⟩ := okWide_slice Try.underlying46 w1
    obtain ⟨m, hm⟩ := h1
    refine open_rows (g := fun (x : (Int × Int)) => [.int .i64 x.1, .int .i64 x.2]) (by decide) (fun _ => rfl) (fun _ => rfl) (fun x c hc => ?_) Try.underlying46 (by kernel_rfl) w1 (fun n cs y hy hl => ?_) (by simpa [Value.cells] using hm)
    · simp only [List.mem_cons, List.not_mem_nil, or_false] at hc
      rcases hc with rfl | rfl <;> exact atomV_int _ _
    · obtain ⟨l, rfl⟩ := ((fun _ _ _ h => ai_arr (k := 1) Try.underlying47 (by kernel_rfl) (by decide) (by kernel_rfl) (fun _ _ _ h => ai_int Try.underlying3 h) h) n cs y hy).list
      rw [List.length_map] at hl
      obtain ⟨y0, y1, rfl⟩ := len2 hl
      exact ⟨(y0, y1), rfl⟩
  obtain ⟨l2, hl2, rfl⟩ := open_ari (n := 2) Try.underlying47 Try.underlying3 (by kernel_rfl) (by kernel_rfl) (hval 2 47 v2 rfl rfl)
  obtain ⟨x2_0, x2_1, rfl⟩ := len2 hl2
  have AA := NArgs.cons (A0.n) (NArgs.cons (A1.n) (NArgs.cons ((arg_ints [x2_0, x2_1]).n) (NArgs.nil W)))
  have hgw : GW W := fun g es c hg => by simp [GH, ghCells] at hg
  have hgs : NG ≤ W.heap.size := by unfold NG GH ghCells; exact Nat.zero_le _
  refine (law04_PulseDivides_law (divides_true x0 x1 x2_0 x2_1) AA.fz AA.vls (AA.rel hgw hgs) (Nat.le_refl _) AA.vrs).mono fun e W' ⟨he, bel⟩ => ?_
  subst he
  exact ⟨_, rfl, _, _, _, [], _, [], hW', trodAll_mk1 (shut_bool Try.underlying4 _), (trodAll_cons_mk (Below.trod laidOut (by kernel_rfl) (of_decide_eq_true (by kernel_rfl)) h0 bel lt0) (trodAll_cons_mk (Below.trod laidOut (by kernel_rfl) (of_decide_eq_true (by kernel_rfl)) h1 bel lt1) (trodAll_cons_mk (Below.trod laidOut (by kernel_rfl) (of_decide_eq_true (by kernel_rfl)) h2 bel lt2) trodAll_mk0))), rfl, bel.frame _, fun h => by cases h⟩
theorem over : Rows.pulseDividesRow.holds Try.pinned (OpenSpec.ofChange Rows.pulseDividesSpec) :=
  OpenClaim.holds_of_wide 5 Try.f5 rfl rfl rfl rfl rfl rfl rfl ⟨rfl, rfl, rfl, rfl, rfl⟩ rfl rfl rfl rfl rfl (by kernel_rfl) Try.func5 (by kernel_rfl)
    (of_decide_eq_true (by kernel_rfl)) (by unfold Func.isWrapper; first | (rw [if_pos (by decide +kernel)]; kernel_rfl) | (rw [if_neg (by decide +kernel)]; exact ⟨rfl, rfl⟩))
    (fun os started H enc _ => lifted os started H enc)
theorem proved : Rows.PulseDividesSaid :=
  over
end Go.Proofs.Ytbodidihhbejmaa.pulseDivides
