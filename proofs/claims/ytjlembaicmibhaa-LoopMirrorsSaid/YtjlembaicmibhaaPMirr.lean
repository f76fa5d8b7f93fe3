/- The value of a loop at - m and that of the opposite taps meet the value at m with opposite parts, and the ball of an arc meets the value at each of its numbers. -/
import Derived.Test.YtjlembaicmibhaaG3
import Derived.Test.YtjlembaicmibhaaM
import Derived.Test.YtjlembaicmibhaaRows
set_option linter.unusedSimpArgs false
set_option linter.unusedVariables false
set_option linter.defProp false
namespace Go.Proofs.Ytjlembaicmibhaa.loopMirrors
open Go Go.Rex Go.ChangeShapes Go.WideShapes Go.ChangeAt Go.RowKit Go.Joins Go.Proofs Go.Proofs.Ytjlembaicmibhaa
theorem own : ownKnob Try.prog.godebug = none := by kernel_rfl
theorem laidOut : laidOutB Try.prog = true := by kernel_rfl
set_option maxHeartbeats 1000000 in
set_option maxRecDepth 100000 in
theorem lifted (os : Os) (started : os.Started) (H : Type) (enc : TypeId × Value → H) :
    ReturnsInHanded {} Try.checked os 3 .any (Rows.loopMirrorsSpec.pre6 enc Try.prog Try.f3 Rows.loopMirrorsRow.domain false) (Rows.loopMirrorsSpec.post enc Try.prog Try.f3 false true false false) := by
  refine returnsInHanded_of_change (C := Try.checked) own started (by kernel_rfl) Try.func3
    (ChangeSpec.witness6 (enc := enc) (C := Try.checked) false ⟨#[], #[.agg #[.slice none 0 0, .int .i64 0], .int .i64 0, .agg #[.int .i64 0, .int .i64 0]], []⟩ 8 (by kernel_rfl) (by kernel_rfl) (by kernel_rfl) (by kernel_rfl)) ?_
  intro W base args ds gs before hval0 hW hcnd _
  have hval : ∀ (j : Nat) t v, Try.f3.params[j]? = some t → args[j]? = some v → Value.okWide Try.prog W .any base t v := hval0
  have hW' := hW
  obtain ⟨p, q, hA0, hV, rfl, hfz, hnd⟩ := hW
  have hA : DataW.TrodAll enc Try.prog W 0 (fun _ => true) true Try.f3.params.toList args.toList ds p := hA0
  rw [Try.params3] at hA hval
  obtain ⟨v0, vs0, d0, ds0, p0, q0, hargs, rfl, rfl, h0, r0⟩ := trodAll_cons hA
  obtain ⟨v1, vs1, d1, ds1, p1, q1, rfl, rfl, rfl, h1, r1⟩ := trodAll_cons r0
  obtain ⟨v2, vs2, d2, ds2, p2, q2, rfl, rfl, rfl, h2, r2⟩ := trodAll_cons r1
  obtain ⟨rfl, rfl, rfl⟩ := trodAll_nil r2
  obtain rfl : args = #[v0, v1, v2] := by cases args; simp_all
  obtain ⟨rfl, rfl⟩ := trodVars_none hV
  have lt0 : ∀ x ∈ p0, x.block < W.heap.size := by obtain ⟨m, hm⟩ := h0; exact DataW.trod_lt m _ _ _ hm
  have lt1 : ∀ x ∈ p1, x.block < W.heap.size := by obtain ⟨m, hm⟩ := h1; exact DataW.trod_lt m _ _ _ hm
  have lt2 : ∀ x ∈ p2, x.block < W.heap.size := by obtain ⟨m, hm⟩ := h2; exact DataW.trod_lt m _ _ _ hm
  clear hA0 hval0
  obtain ⟨l0, rfl, hl0, hc0⟩ := open_cells (ts := [22, 3]) Try.underlying24 (by kernel_rfl) (by kernel_rfl) (hval 0 24 v0 rfl rfl)
  obtain ⟨c0_0, c0_1, rfl⟩ := len2 (show l0.length = 2 from hl0)
  have w0_0 := hc0 0 _ 22 rfl rfl
  obtain ⟨x0_0, b0_0, i0_0, a0_0, A0_0⟩ : ∃ (xs : List Int) (bs : List Blk) (is : List Info) (av : Nat → Value), Arg W c0_0 (.list 1 (xs.map e_i)) bs is av := by
    obtain ⟨m0, hm0⟩ := h0
    obtain ⟨m1, z1, hm1⟩ := st_field (i := 0) Try.underlying24 rfl hm0
    refine open_rowsC (g := fun (x : Int) => [.int .i64 x]) (by decide) (fun _ => rfl) (fun _ => rfl) (fun x c hc => ?_) Try.underlying22 (by kernel_rfl) w0_0 (fun n cs y hy hl => ?_) hm1
    · simp only [List.mem_cons, List.not_mem_nil, or_false] at hc
      subst hc; exact atomV_int _ _
    · obtain ⟨l, rfl⟩ := ((fun _ _ _ h => ai_int Try.underlying3 h) n cs y hy).list
      rw [List.length_map] at hl
      obtain ⟨y0, rfl⟩ := len1 hl
      exact ⟨y0, rfl⟩
  obtain ⟨x0_1, rfl⟩ := okW_int Try.underlying3 (hc0 1 _ 3 rfl rfl)
  obtain ⟨x1, rfl⟩ := Rex.open_int Try.underlying3 (hval 1 3 v1 rfl rfl)
  obtain ⟨l2, hl2, rfl⟩ := open_sti (n := 2) Try.underlying26 Try.underlying3 (by kernel_rfl) (by kernel_rfl) (hval 2 26 v2 rfl rfl)
  obtain ⟨x2_0, x2_1, rfl⟩ := len2 hl2
  have AA := Args.cons (Arg.ofArgs (Args.cons (A0_0) (Args.cons ((Arg.atom (atomV_int .i64 x0_1))) (Args.nil W)))) (Args.cons ((Arg.atom (atomV_int .i64 x1))) (Args.cons ((arg_ints [x2_0, x2_1])) (Args.nil W)))
  refine (law08_LoopMirrors_law (mirrors_true x0_0 x0_1 x1 x2_0 x2_1) (fun n h => h) AA.vls AA.rel (Nat.le_refl _) AA.vrs).mono fun e W' ⟨he, bel⟩ => ?_
  subst he
  exact ⟨_, rfl, _, _, _, [], _, [], hW', trodAll_mk1 (shut_bool Try.underlying4 _), (trodAll_cons_mk (Below.trod laidOut (by kernel_rfl) (of_decide_eq_true (by kernel_rfl)) h0 bel lt0) (trodAll_cons_mk (Below.trod laidOut (by kernel_rfl) (of_decide_eq_true (by kernel_rfl)) h1 bel lt1) (trodAll_cons_mk (Below.trod laidOut (by kernel_rfl) (of_decide_eq_true (by kernel_rfl)) h2 bel lt2) trodAll_mk0))), rfl, bel.frame _, fun h => by cases h⟩
theorem over : Rows.loopMirrorsRow.holds Try.pinned (OpenSpec.ofChange Rows.loopMirrorsSpec) :=
  OpenClaim.holds_of_wide 3 Try.f3 rfl rfl rfl rfl rfl rfl rfl ⟨rfl, rfl, rfl, rfl, rfl⟩ rfl rfl rfl rfl rfl (by kernel_rfl) Try.func3 (by kernel_rfl)
    (of_decide_eq_true (by kernel_rfl)) (by unfold Func.isWrapper; first | (rw [if_pos (by decide +kernel)]; kernel_rfl) | (rw [if_neg (by decide +kernel)]; exact ⟨rfl, rfl⟩))
    (fun os started H enc _ => lifted os started H enc)
theorem proved : Rows.LoopMirrorsSaid :=
  over
end Go.Proofs.Ytjlembaicmibhaa.loopMirrors
