/- The lines of loops, or the error, are as specified, for at most 6 rows of at most 6 loops of at most 34 taps. -/
import Derived.Test.YtjlembaicmibhaaG3
import Derived.Test.YtjlembaicmibhaaM
import Derived.Test.YtjlembaicmibhaaRows
set_option linter.unusedSimpArgs false
set_option linter.unusedVariables false
set_option linter.defProp false
namespace Go.Proofs.Ytjlembaicmibhaa.loopLinesOf
open Go Go.Rex Go.ChangeShapes Go.WideShapes Go.ChangeAt Go.RowKit Go.Joins Go.Proofs Go.Proofs.Ytjlembaicmibhaa
theorem own : ownKnob Try.prog.godebug = none := by kernel_rfl
theorem laidOut : laidOutB Try.prog = true := by kernel_rfl
set_option maxHeartbeats 1000000 in
set_option maxRecDepth 100000 in
theorem lifted (os : Os) (started : os.Started) (H : Type) (enc : TypeId × Value → H) :
    ReturnsInHanded {} Try.checked os 8 .any (Rows.loopLinesOfSpec.pre6 enc Try.prog Try.f8 Rows.loopLinesOfRow.domain false) (Rows.loopLinesOfSpec.post enc Try.prog Try.f8 false true false false) := by
  refine returnsInHanded_of_change (C := Try.checked) own started (by kernel_rfl) Try.func8
    (ChangeSpec.witness6 (enc := enc) (C := Try.checked) false ⟨#[], #[.slice none 0 0], []⟩ 8 (by kernel_rfl) (by kernel_rfl) (by kernel_rfl) (by kernel_rfl)) ?_
  intro W base args ds gs before hval0 hW hcnd _
  have hval : ∀ (j : Nat) t v, Try.f8.params[j]? = some t → args[j]? = some v → Value.okWide Try.prog W .any base t v := hval0
  have hW' := hW
  obtain ⟨p, q, hA0, hV, rfl, hfz, hnd⟩ := hW
  have hA : DataW.TrodAll enc Try.prog W 0 (fun _ => true) true Try.f8.params.toList args.toList ds p := hA0
  rw [Try.params8] at hA hval
  obtain ⟨v0, vs0, d0, ds0, p0, q0, hargs, rfl, rfl, h0, r0⟩ := trodAll_cons hA
  obtain ⟨rfl, rfl, rfl⟩ := trodAll_nil r0
  obtain rfl : args = #[v0] := by cases args; simp_all
  obtain ⟨rfl, rfl⟩ := trodVars_none hV
  have lt0 : ∀ x ∈ p0, x.block < W.heap.size := by obtain ⟨m, hm⟩ := h0; exact DataW.trod_lt m _ _ _ hm
  clear hA0 hval0
  have w0 := hval 0 73 v0 rfl rfl
  obtain ⟨x0, b0, i0, a0, A0⟩ : ∃ (xs : (List (List ((List Int) × Int)))) (bs : Nat → List Blk) (is : List Info) (av : Nat → Value), NArg W v0 (.list 1 (xs.map e_LLi_i_)) bs is av := by
    obtain ⟨a, len, cap, rfl⟩ := okWide_slice Try.underlying73 w0
    obtain ⟨m, hm⟩ := h0
    exact Rex.open_lists (F := fun x : (List ((List Int) × Int)) => .list 2 (x.map e_Li_i)) Try.underlying73 (by kernel_rfl) (fun n c y hy => Rex.open_rowsN (F := e_Li_i) (by decide) (fun _ => rfl) Try.underlying74 (by kernel_rfl) (fun n cs y hl hy => by
      obtain ⟨c0, c1, rfl⟩ := len2 hl
      obtain ⟨m0, z0, h0⟩ := st_field (i := 0) Try.underlying24 rfl hy
      obtain ⟨x0, _, _, _, A0⟩ : ∃ (x : (List Int)) (bs : Nat → List Blk) (is : List Info) (av : Nat → Value), NArg W c0 (.list 1 (x.map e_i)) bs is av := Rex.open_ints Try.underlying22 Try.underlying3 (by kernel_rfl) (fun _ => rfl) h0
      obtain ⟨m1, z1, h1⟩ := st_field (i := 1) Try.underlying24 rfl hy
      obtain ⟨x1, hx1, _⟩ := DataW.trod_int Try.underlying3 (show DataW.trod _ _ _ _ _ _ _ _ [c1] = _ from h1)
      obtain rfl : c1 = .int .i64 x1 := by simpa using hx1
      have A1 := (Arg.atom (W := W) (atomV_int .i64 x1)).n
      exact ⟨(x0, x1), _, _, _, NArgs.cons A0 (NArgs.cons A1 (NArgs.nil W))⟩) hy) (by simpa [Value.cells] using hm)
  have AA := NArgs.cons (A0) (NArgs.nil W)
  refine (law08_LoopLinesOf_law (linesOf_true x0) (fun n h => h) AA.vls AA.rel (Nat.le_refl _) AA.vrs).mono fun e W' ⟨he, bel⟩ => ?_
  subst he
  exact ⟨_, rfl, _, _, _, [], _, [], hW', trodAll_mk1 (shut_bool Try.underlying4 _), (trodAll_cons_mk (Below.trod laidOut (by kernel_rfl) (of_decide_eq_true (by kernel_rfl)) h0 bel lt0) trodAll_mk0), rfl, bel.frame _, fun h => by cases h⟩
theorem over : Rows.loopLinesOfRow.holds Try.pinned (OpenSpec.ofChange Rows.loopLinesOfSpec) :=
  OpenClaim.holds_of_wide 8 Try.f8 rfl rfl rfl rfl rfl rfl rfl ⟨rfl, rfl, rfl, rfl, rfl⟩ rfl rfl rfl rfl rfl (by kernel_rfl) Try.func8 (by kernel_rfl)
    (of_decide_eq_true (by kernel_rfl)) (by unfold Func.isWrapper; first | (rw [if_pos (by decide +kernel)]; kernel_rfl) | (rw [if_neg (by decide +kernel)]; exact ⟨rfl, rfl⟩))
    (fun os started H enc _ => lifted os started H enc)
theorem proved : Rows.LoopLinesOfSaid :=
  over
end Go.Proofs.Ytjlembaicmibhaa.loopLinesOf
