/- The length of a path, its delay, also in samples, and a path that is turned, or the errors, are as specified, for every input. -/
import Derived.Test.YthjoipggampleaaGreatG2
import Derived.Test.YthjoipggampleaaGreatM
import Derived.Test.YthjoipggampleaaGreatRows
set_option linter.unusedSimpArgs false
set_option linter.unusedVariables false
set_option linter.defProp false
namespace Go.Proofs.YthjoipggampleaaGreat.imageDelays
open Go Go.Rex Go.ChangeShapes Go.WideShapes Go.ChangeAt Go.RowKit Go.Joins Go.Proofs Go.Proofs.YthjoipggampleaaGreat
theorem own : ownKnob Tryz.prog.godebug = none := by kernel_rfl
theorem laidOut : laidOutB Tryz.prog = true := by kernel_rfl
set_option maxHeartbeats 1000000 in
set_option maxRecDepth 100000 in
theorem lifted (os : Os) (started : os.Started) (H : Type) (enc : TypeId × Value → H) :
    ReturnsInHanded {} Tryz.checked os 3 .any (Rows.imageDelaysSpec.pre6 enc Tryz.prog Tryz.f3 Rows.imageDelaysRow.domain false) (Rows.imageDelaysSpec.post enc Tryz.prog Tryz.f3 false true false false) := by
  refine returnsInHanded_of_change (C := Tryz.checked) own started (by kernel_rfl) Tryz.func3
    (ChangeSpec.witness6 (enc := enc) (C := Tryz.checked) false ⟨#[], #[.agg #[.slice none 0 0, .slice none 0 0, .int .i64 0], .agg #[.int .i64 0, .int .i64 0, .int .i64 0]], []⟩ 8 (by kernel_rfl) (by kernel_rfl) (by kernel_rfl) (by kernel_rfl)) ?_
  intro W base args ds gs before hval0 hW hcnd _
  have hval : ∀ (j : Nat) t v, Tryz.f3.params[j]? = some t → args[j]? = some v → Value.okWide Tryz.prog W .any base t v := hval0
  have hW' := hW
  obtain ⟨p, q, hA0, hV, rfl, hfz, hnd⟩ := hW
  have hA : DataW.TrodAll enc Tryz.prog W 0 (fun _ => true) true Tryz.f3.params.toList args.toList ds p := hA0
  rw [Tryz.params3] at hA hval
  obtain ⟨v0, vs0, d0, ds0, p0, q0, hargs, rfl, rfl, h0, r0⟩ := trodAll_cons hA
  obtain ⟨v1, vs1, d1, ds1, p1, q1, rfl, rfl, rfl, h1, r1⟩ := trodAll_cons r0
  obtain ⟨rfl, rfl, rfl⟩ := trodAll_nil r1
  obtain rfl : args = #[v0, v1] := by cases args; simp_all
  obtain ⟨rfl, rfl⟩ := trodVars_none hV
  have lt0 : ∀ x ∈ p0, x.block < W.heap.size := by obtain ⟨m, hm⟩ := h0; exact DataW.trod_lt m _ _ _ hm
  have lt1 : ∀ x ∈ p1, x.block < W.heap.size := by obtain ⟨m, hm⟩ := h1; exact DataW.trod_lt m _ _ _ hm
  clear hA0 hval0
  obtain ⟨l0, rfl, hl0, hc0⟩ := open_cells (ts := [22, 23, 3]) Tryz.underlying25 (by kernel_rfl) (by kernel_rfl) (hval 0 25 v0 rfl rfl)
  obtain ⟨c0_0, c0_1, c0_2, rfl⟩ := len3 (show l0.length = 3 from hl0)
  have w0_0 := hc0 0 _ 22 rfl rfl
  obtain ⟨x0_0, b0_0, i0_0, a0_0, A0_0⟩ : ∃ (xs : List Int) (bs : List Blk) (is : List Info) (av : Nat → Value), Arg W c0_0 (.list 1 (xs.map e_i)) bs is av := by
    obtain ⟨m0, hm0⟩ := h0
    obtain ⟨m1, z1, hm1⟩ := st_field (i := 0) Tryz.underlying25 rfl hm0
    refine open_rowsC (g := fun (x : Int) => [.int .i64 x]) (by decide) (fun _ => rfl) (fun _ => rfl) (fun x c hc => ?_) Tryz.underlying22 (by kernel_rfl) w0_0 (fun n cs y hy hl => ?_) hm1
    · simp only [List.mem_cons, List.not_mem_nil, or_false] at hc
      subst hc; exact atomV_int _ _
    · obtain ⟨l, rfl⟩ := ((fun _ _ _ h => ai_int Tryz.underlying3 h) n cs y hy).list
      rw [List.length_map] at hl
      obtain ⟨y0, rfl⟩ := len1 hl
      exact ⟨y0, rfl⟩
  have w0_1 := hc0 1 _ 23 rfl rfl
  obtain ⟨x0_1, b0_1, i0_1, a0_1, A0_1⟩ : ∃ (xs : List (Int × Int × Int × Int)) (bs : List Blk) (is : List Info) (av : Nat → Value), Arg W c0_1 (.list 4 (xs.map e_iiii)) bs is av := by
    obtain ⟨m0, hm0⟩ := h0
    obtain ⟨m1, z1, hm1⟩ := st_field (i := 1) Tryz.underlying25 rfl hm0
    refine open_rowsC (g := fun (x : (Int × Int × Int × Int)) => [.int .i64 x.1, .int .i64 x.2.1, .int .i64 x.2.2.1, .int .i64 x.2.2.2]) (by decide) (fun _ => rfl) (fun _ => rfl) (fun x c hc => ?_) Tryz.underlying23 (by kernel_rfl) w0_1 (fun n cs y hy hl => ?_) hm1
    · simp only [List.mem_cons, List.not_mem_nil, or_false] at hc
      rcases hc with rfl | rfl | rfl | rfl <;> exact atomV_int _ _
    · obtain ⟨l, rfl⟩ := ((fun _ _ _ h => ai_struct Tryz.underlying93 (by kernel_rfl) (by intro f hf; simp only [List.mem_cons, List.not_mem_nil, or_false] at hf; rcases hf with rfl | rfl | rfl | rfl; exact (fun _ _ _ h => ai_int Tryz.underlying3 h); exact (fun _ _ _ h => ai_int Tryz.underlying3 h); exact (fun _ _ _ h => ai_int Tryz.underlying3 h); exact (fun _ _ _ h => ai_int Tryz.underlying3 h)) h) n cs y hy).list
      rw [List.length_map] at hl
      obtain ⟨y0, y1, y2, y3, rfl⟩ := len4 hl
      exact ⟨(y0, y1, y2, y3), rfl⟩
  obtain ⟨x0_2, rfl⟩ := okW_int Tryz.underlying3 (hc0 2 _ 3 rfl rfl)
  obtain ⟨l1, hl1, rfl⟩ := open_sti (n := 3) Tryz.underlying27 Tryz.underlying3 (by kernel_rfl) (by kernel_rfl) (hval 1 27 v1 rfl rfl)
  obtain ⟨x1_0, x1_1, x1_2, rfl⟩ := len3 hl1
  have AA := NArgs.cons (NArg.ofArgs (NArgs.cons (A0_0.n) (NArgs.cons (A0_1.n) (NArgs.cons ((Arg.atom (atomV_int .i64 x0_2)).n) (NArgs.nil W))))) (NArgs.cons ((arg_ints [x1_0, x1_1, x1_2]).n) (NArgs.nil W))
  have hgw : GW W := fun g es c hg => by simp [GH, ghCells] at hg
  have hgs : NG ≤ W.heap.size := by unfold NG GH ghCells; exact Nat.zero_le _
  refine (law02_ImageDelays_law (delays_true x0_0 x0_1 x0_2 x1_0 x1_1 x1_2) (fun n h => h) AA.vls (AA.rel hgw hgs) (Nat.le_refl _) AA.vrs).mono fun e W' ⟨he, bel⟩ => ?_
  subst he
  exact ⟨_, rfl, _, _, _, [], _, [], hW', trodAll_mk1 (shut_bool Tryz.underlying4 _), (trodAll_cons_mk (Below.trod laidOut (by kernel_rfl) (of_decide_eq_true (by kernel_rfl)) h0 bel lt0) (trodAll_cons_mk (Below.trod laidOut (by kernel_rfl) (of_decide_eq_true (by kernel_rfl)) h1 bel lt1) trodAll_mk0)), rfl, bel.frame _, fun h => by cases h⟩
theorem over : Rows.imageDelaysRow.holds Tryz.pinned (OpenSpec.ofChange Rows.imageDelaysSpec) :=
  OpenClaim.holds_of_wide 3 Tryz.f3 rfl rfl rfl rfl rfl rfl rfl ⟨rfl, rfl, rfl, rfl, rfl⟩ rfl rfl rfl rfl rfl (by kernel_rfl) Tryz.func3 (by kernel_rfl)
    (of_decide_eq_true (by kernel_rfl)) (by unfold Func.isWrapper; first | (rw [if_pos (by decide +kernel)]; kernel_rfl) | (rw [if_neg (by decide +kernel)]; exact ⟨rfl, rfl⟩))
    (fun os started H enc _ => lifted os started H enc)
theorem proved : Rows.ImageDelaysSaid :=
  over
end Go.Proofs.YthjoipggampleaaGreat.imageDelays
