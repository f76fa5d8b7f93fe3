/- The bound of a total behind some steps is as specified, and what is left behind as many steps lies in it, for every input within the bounds that the statement names. -/
import Derived.Test.YtnjbkoobeobfiaaGreatG3
import Derived.Test.YtnjbkoobeobfiaaGreatM
import Derived.Test.YtnjbkoobeobfiaaGreatRows
set_option linter.unusedSimpArgs false
set_option linter.unusedVariables false
set_option linter.defProp false
namespace Go.Proofs.YtnjbkoobeobfiaaGreat.energyBounded
open Go Go.Rex Go.ChangeShapes Go.WideShapes Go.ChangeAt Go.RowKit Go.Joins Go.Proofs Go.Proofs.YtnjbkoobeobfiaaGreat
theorem own : ownKnob Tryz.prog.godebug = none := by kernel_rfl
theorem laidOut : laidOutB Tryz.prog = true := by kernel_rfl
set_option maxHeartbeats 1000000 in
set_option maxRecDepth 100000 in
theorem lifted (os : Os) (started : os.Started) (H : Type) (enc : TypeId × Value → H) :
    ReturnsInHanded {} Tryz.checked os 6 .any (Rows.energyBoundedSpec.pre6 enc Tryz.prog Tryz.f6 Rows.energyBoundedRow.domain false) (Rows.energyBoundedSpec.post enc Tryz.prog Tryz.f6 false true false false) := by
  refine returnsInHanded_of_change (C := Tryz.checked) own started (by kernel_rfl) Tryz.func6
    (ChangeSpec.witness6 (enc := enc) (C := Tryz.checked) false ⟨#[], #[.agg #[.slice none 0 0, .slice none 0 0], .slice none 0 0, .agg #[.int .i64 0, .int .i64 0]], []⟩ 8 (by kernel_rfl) (by kernel_rfl) (by kernel_rfl) (by kernel_rfl)) ?_
  intro W base args ds gs before hval0 hW hcnd _
  have hval : ∀ (j : Nat) t v, Tryz.f6.params[j]? = some t → args[j]? = some v → Value.okWide Tryz.prog W .any base t v := hval0
  have hW' := hW
  obtain ⟨p, q, hA0, hV, rfl, hfz, hnd⟩ := hW
  have hA : DataW.TrodAll enc Tryz.prog W 0 (fun _ => true) true Tryz.f6.params.toList args.toList ds p := hA0
  rw [Tryz.params6] at hA hval
  obtain ⟨v0, vs0, d0, ds0, p0, q0, hargs, rfl, rfl, h0, r0⟩ := trodAll_cons hA
  obtain ⟨v1, vs1, d1, ds1, p1, q1, rfl, rfl, rfl, h1, r1⟩ := trodAll_cons r0
  obtain ⟨v2, vs2, d2, ds2, p2, q2, rfl, rfl, rfl, h2, r2⟩ := trodAll_cons r1
  obtain ⟨rfl, rfl, rfl⟩ := trodAll_nil r2
  obtain rfl : args = #[v0, v1, v2] := by cases args; simp_all
  obtain ⟨rfl, rfl⟩ := trodVars_none hV
  have lt0 : ∀ x ∈ p0, x.block < W.heap.size := by obtain ⟨m, hm⟩ := h0; exact DataW.trod_lt m _ _ _ hm
  have lt1 : ∀ x ∈ p1, x.block < W.heap.size := by obtain ⟨m, hm⟩ := h1; exact DataW.trod_lt m _ _ _ hm
  have lt2 : ∀ x ∈ p2, x.block < W.heap.size := by obtain ⟨m, hm⟩ := h2; exact DataW.trod_lt m _ _ _ hm
  clear hA0 hval0
  obtain ⟨l0, rfl, hl0, hc0⟩ := open_cells (ts := [43, 44]) Tryz.underlying46 (by kernel_rfl) (by kernel_rfl) (hval 0 46 v0 rfl rfl)
  obtain ⟨c0_0, c0_1, rfl⟩ := len2 (show l0.length = 2 from hl0)
  obtain ⟨x0_0, b0_0, i0_0, a0_0, A0_0⟩ : ∃ (xs : List (List Int)) (bs : Nat → List Blk) (is : List Info) (av : Nat → Value), NArg W c0_0 (.list 1 (xs.map e_Li_)) bs is av := by
    obtain ⟨m0, hm0⟩ := h0
    obtain ⟨m1, z1, hm1⟩ := st_field (i := 0) Tryz.underlying46 rfl hm0
    have hm := hm1
    exact Rex.open_lists (F := fun x : List Int => .list 1 (x.map e_i)) Tryz.underlying43 (by kernel_rfl) (fun n c y hy => Rex.open_ints Tryz.underlying44 Tryz.underlying3 (by kernel_rfl) (fun _ => rfl) hy) hm
  have w0_1 := hc0 1 _ 44 rfl rfl
  obtain ⟨x0_1, b0_1, i0_1, a0_1, A0_1⟩ : ∃ (xs : List Int) (bs : List Blk) (is : List Info) (av : Nat → Value), Arg W c0_1 (.list 1 (xs.map e_i)) bs is av := by
    obtain ⟨m0, hm0⟩ := h0
    obtain ⟨m1, z1, hm1⟩ := st_field (i := 1) Tryz.underlying46 rfl hm0
    refine open_rowsC (g := fun (x : Int) => [.int .i64 x]) (by decide) (fun _ => rfl) (fun _ => rfl) (fun x c hc => ?_) Tryz.underlying44 (by kernel_rfl) w0_1 (fun n cs y hy hl => ?_) hm1
    · simp only [List.mem_cons, List.not_mem_nil, or_false] at hc
      subst hc; exact atomV_int _ _
    · obtain ⟨l, rfl⟩ := ((fun _ _ _ h => ai_int Tryz.underlying3 h) n cs y hy).list
      rw [List.length_map] at hl
      obtain ⟨y0, rfl⟩ := len1 hl
      exact ⟨y0, rfl⟩
  have w1 := hval 1 44 v1 rfl rfl
  obtain ⟨x1, b1, i1, a1, A1⟩ : ∃ (xs : List Int) (bs : List Blk) (is : List Info) (av : Nat → Value), Arg W v1 (.list 1 (xs.map e_i)) bs is av := by
    obtain ⟨a, len, cap, rfl⟩ := okWide_slice Tryz.underlying44 w1
    obtain ⟨m, hm⟩ := h1
    refine open_rows (g := fun (x : Int) => [.int .i64 x]) (by decide) (fun _ => rfl) (fun _ => rfl) (fun x c hc => ?_) Tryz.underlying44 (by kernel_rfl) w1 (fun n cs y hy hl => ?_) (by simpa [Value.cells] using hm)
    · simp only [List.mem_cons, List.not_mem_nil, or_false] at hc
      subst hc; exact atomV_int _ _
    · obtain ⟨l, rfl⟩ := ((fun _ _ _ h => ai_int Tryz.underlying3 h) n cs y hy).list
      rw [List.length_map] at hl
      obtain ⟨y0, rfl⟩ := len1 hl
      exact ⟨y0, rfl⟩
  obtain ⟨l2, hl2, rfl⟩ := open_ari (n := 2) Tryz.underlying61 Tryz.underlying3 (by kernel_rfl) (by kernel_rfl) (hval 2 61 v2 rfl rfl)
  obtain ⟨x2_0, x2_1, rfl⟩ := len2 hl2
  have AA := NArgs.cons (NArg.ofArgs (NArgs.cons (A0_0) (NArgs.cons (A0_1.n) (NArgs.nil W)))) (NArgs.cons (A1.n) (NArgs.cons ((arg_ints [x2_0, x2_1]).n) (NArgs.nil W)))
  refine (law03_EnergyBounded_law (bounded_true x0_0 x0_1 x1 x2_0 x2_1) (fun n h => h) AA.vls AA.rel (Nat.le_refl _) AA.vrs).mono fun e W' ⟨he, bel⟩ => ?_
  subst he
  exact ⟨_, rfl, _, _, _, [], _, [], hW', trodAll_mk1 (shut_bool Tryz.underlying4 _), (trodAll_cons_mk (Below.trod laidOut (by kernel_rfl) (of_decide_eq_true (by kernel_rfl)) h0 bel lt0) (trodAll_cons_mk (Below.trod laidOut (by kernel_rfl) (of_decide_eq_true (by kernel_rfl)) h1 bel lt1) (trodAll_cons_mk (Below.trod laidOut (by kernel_rfl) (of_decide_eq_true (by kernel_rfl)) h2 bel lt2) trodAll_mk0))), rfl, bel.frame _, fun h => by cases h⟩
theorem over : Rows.energyBoundedRow.holds Tryz.pinned (OpenSpec.ofChange Rows.energyBoundedSpec) :=
  OpenClaim.holds_of_wide 6 Tryz.f6 rfl rfl rfl rfl rfl rfl rfl ⟨rfl, rfl, rfl, rfl, rfl⟩ rfl rfl rfl rfl rfl (by kernel_rfl) Tryz.func6 (by kernel_rfl)
    (of_decide_eq_true (by kernel_rfl)) (by unfold Func.isWrapper; first | (rw [if_pos (by decide +kernel)]; kernel_rfl) | (rw [if_neg (by decide +kernel)]; exact ⟨rfl, rfl⟩))
    (fun os started H enc _ => lifted os started H enc)
theorem proved : Rows.EnergyBoundedSaid :=
  over
end Go.Proofs.YtnjbkoobeobfiaaGreat.energyBounded
