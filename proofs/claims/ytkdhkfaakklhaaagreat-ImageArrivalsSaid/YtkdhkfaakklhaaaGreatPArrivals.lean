/- The gap between two paths, and which of them arrive within a window, are as specified, whatever the input. -/
import Derived.Test.YtkdhkfaakklhaaaGreatG2
import Derived.Test.YtkdhkfaakklhaaaGreatM
import Derived.Test.YtkdhkfaakklhaaaGreatRows
set_option linter.unusedSimpArgs false
set_option linter.unusedVariables false
set_option linter.defProp false
namespace Go.Proofs.YtkdhkfaakklhaaaGreat.imageArrivals
open Go Go.Rex Go.ChangeShapes Go.WideShapes Go.ChangeAt Go.RowKit Go.Joins Go.Proofs Go.Proofs.YtkdhkfaakklhaaaGreat
theorem own : ownKnob Tryz.prog.godebug = none := by kernel_rfl
theorem laidOut : laidOutB Tryz.prog = true := by kernel_rfl
set_option maxHeartbeats 1000000 in
set_option maxRecDepth 100000 in
theorem lifted (os : Os) (started : os.Started) (H : Type) (enc : TypeId × Value → H) :
    ReturnsInHanded {} Tryz.checked os 3 .any (Rows.imageArrivalsSpec.pre6 enc Tryz.prog Tryz.f3 Rows.imageArrivalsRow.domain false) (Rows.imageArrivalsSpec.post enc Tryz.prog Tryz.f3 false true false false) := by
  refine returnsInHanded_of_change (C := Tryz.checked) own started (by kernel_rfl) Tryz.func3
    (ChangeSpec.witness6 (enc := enc) (C := Tryz.checked) false ⟨#[], #[.slice none 0 0, .agg #[.int .i64 0, .int .i64 0, .int .i64 0]], []⟩ 8 (by kernel_rfl) (by kernel_rfl) (by kernel_rfl) (by kernel_rfl)) ?_
  intro W base args ds gs before hval0 hW hcnd _
  have hval : ∀ (j : Nat) t v, Tryz.f3.params[j]? = some t → args[j]? = some v → Value.okWide Tryz.prog W .any base t v := hval0
  have hW' := hW
  obtain ⟨p, q, hA0, hV, rfl, hfz, hnd⟩ := hW
  have hA : DataW.TrodAll enc Tryz.prog W 0 (fun _ => true) true Tryz.f3.params.toList args.toList ds p := hA0
  rw [Tryz.params3] at hA hval
  obtain ⟨v0, vs0, d0, ds0, p0, q0, hargs, rfl, rfl, h0, r0⟩ := trodAll_cons hA
  obtain ⟨v1, vs1, d1, ds1, p1, q1, rfl, rfl, rfl, h1, r1⟩ := trodAll_cons r0
  obtain ⟨rfl, rfl, rfl⟩ := trodAll_nil r1
  obtain rfl : args = #[v0, v1] := by cases args; simp_all
  obtain ⟨rfl, rfl⟩ := trodVars_none hV
  have lt0 : ∀ x ∈ p0, x.block < W.heap.size := by obtain ⟨m, hm⟩ := h0; exact DataW.trod_lt m _ _ _ hm
  have lt1 : ∀ x ∈ p1, x.block < W.heap.size := by obtain ⟨m, hm⟩ := h1; exact DataW.trod_lt m _ _ _ hm
  clear hA0 hval0
  have w0 := hval 0 22 v0 rfl rfl
  obtain ⟨x0, b0, i0, a0, A0⟩ : ∃ (xs : (List ((List Int) × (List (Int × Int × Int × Int)) × Int))) (bs : Nat → List Blk) (is : List Info) (av : Nat → Value), NArg W v0 (.list 3 (xs.map e_Li_Liiii_i)) bs is av := by
    obtain ⟨a, len, cap, rfl⟩ := okWide_slice Tryz.underlying22 w0
    obtain ⟨m, hm⟩ := h0
    exact Rex.open_rowsN (F := e_Li_Liiii_i) (by decide) (fun _ => rfl) Tryz.underlying22 (by kernel_rfl) (fun n cs y hl hy => by
      obtain ⟨c0, c1, c2, rfl⟩ := len3 hl
      obtain ⟨m0_0, z0_0, h0_0⟩ := st_field (i := 0) Tryz.underlying29 rfl hy
      obtain ⟨x0, _, _, _, A0⟩ : ∃ (x : (List Int)) (bs : Nat → List Blk) (is : List Info) (av : Nat → Value), NArg W c0 (.list 1 (x.map e_i)) bs is av := Rex.open_ints Tryz.underlying26 Tryz.underlying3 (by kernel_rfl) (fun _ => rfl) h0_0
      obtain ⟨m1_0, z1_0, h1_0⟩ := st_field (i := 1) Tryz.underlying29 rfl hy
      obtain ⟨x1, _, _, _, A1⟩ : ∃ (x : (List (Int × Int × Int × Int))) (bs : Nat → List Blk) (is : List Info) (av : Nat → Value), NArg W c1 (.list 4 (x.map e_iiii)) bs is av := Rex.open_rowsN (F := e_iiii) (by decide) (fun _ => rfl) Tryz.underlying27 (by kernel_rfl) (fun n cs y hl hy => by
      obtain ⟨c0, c1, c2, c3, rfl⟩ := len4 hl
      obtain ⟨m0_0, z0_0, h0_0⟩ := st_field (i := 0) Tryz.underlying72 rfl hy
      obtain ⟨x0, hx0, _⟩ := DataW.trod_int Tryz.underlying3 (show DataW.trod _ _ _ _ _ _ _ _ [c0] = _ from h0_0)
      obtain rfl : c0 = .int .i64 x0 := by simpa using hx0
      have A0 := (Arg.atom (W := W) (atomV_int .i64 x0)).n
      obtain ⟨m1_0, z1_0, h1_0⟩ := st_field (i := 1) Tryz.underlying72 rfl hy
      obtain ⟨x1, hx1, _⟩ := DataW.trod_int Tryz.underlying3 (show DataW.trod _ _ _ _ _ _ _ _ [c1] = _ from h1_0)
      obtain rfl : c1 = .int .i64 x1 := by simpa using hx1
      have A1 := (Arg.atom (W := W) (atomV_int .i64 x1)).n
      obtain ⟨m2_0, z2_0, h2_0⟩ := st_field (i := 2) Tryz.underlying72 rfl hy
      obtain ⟨x2, hx2, _⟩ := DataW.trod_int Tryz.underlying3 (show DataW.trod _ _ _ _ _ _ _ _ [c2] = _ from h2_0)
      obtain rfl : c2 = .int .i64 x2 := by simpa using hx2
      have A2 := (Arg.atom (W := W) (atomV_int .i64 x2)).n
      obtain ⟨m3_0, z3_0, h3_0⟩ := st_field (i := 3) Tryz.underlying72 rfl hy
      obtain ⟨x3, hx3, _⟩ := DataW.trod_int Tryz.underlying3 (show DataW.trod _ _ _ _ _ _ _ _ [c3] = _ from h3_0)
      obtain rfl : c3 = .int .i64 x3 := by simpa using hx3
      have A3 := (Arg.atom (W := W) (atomV_int .i64 x3)).n
      exact ⟨(x0, x1, x2, x3), _, _, _, NArgs.cons A0 (NArgs.cons A1 (NArgs.cons A2 (NArgs.cons A3 (NArgs.nil W))))⟩) h1_0
      obtain ⟨m2_0, z2_0, h2_0⟩ := st_field (i := 2) Tryz.underlying29 rfl hy
      obtain ⟨x2, hx2, _⟩ := DataW.trod_int Tryz.underlying3 (show DataW.trod _ _ _ _ _ _ _ _ [c2] = _ from h2_0)
      obtain rfl : c2 = .int .i64 x2 := by simpa using hx2
      have A2 := (Arg.atom (W := W) (atomV_int .i64 x2)).n
      exact ⟨(x0, x1, x2), _, _, _, NArgs.cons A0 (NArgs.cons A1 (NArgs.cons A2 (NArgs.nil W)))⟩) (by simpa [Value.cells] using hm)
  obtain ⟨l1, hl1, rfl⟩ := open_sti (n := 3) Tryz.underlying24 Tryz.underlying3 (by kernel_rfl) (by kernel_rfl) (hval 1 24 v1 rfl rfl)
  obtain ⟨x1_0, x1_1, x1_2, rfl⟩ := len3 hl1
  have AA := NArgs.cons (A0) (NArgs.cons ((arg_ints [x1_0, x1_1, x1_2]).n) (NArgs.nil W))
  have hgw : GW W := fun g es c hg => by simp [GH, ghCells] at hg
  have hgs : NG ≤ W.heap.size := by unfold NG GH ghCells; exact Nat.zero_le _
  refine (law02_ImageArrivals_law (arrivals_true x0 x1_0 x1_1 x1_2) (fun n h => h) AA.vls (AA.rel hgw hgs) (Nat.le_refl _) AA.vrs).mono fun e W' ⟨he, bel⟩ => ?_
  subst he
  exact ⟨_, rfl, _, _, _, [], _, [], hW', trodAll_mk1 (shut_bool Tryz.underlying4 _), (trodAll_cons_mk (Below.trod laidOut (by kernel_rfl) (of_decide_eq_true (by kernel_rfl)) h0 bel lt0) (trodAll_cons_mk (Below.trod laidOut (by kernel_rfl) (of_decide_eq_true (by kernel_rfl)) h1 bel lt1) trodAll_mk0)), rfl, bel.frame _, fun h => by cases h⟩
theorem over : Rows.imageArrivalsRow.holds Tryz.pinned (OpenSpec.ofChange Rows.imageArrivalsSpec) :=
  OpenClaim.holds_of_wide 3 Tryz.f3 rfl rfl rfl rfl rfl rfl rfl ⟨rfl, rfl, rfl, rfl, rfl⟩ rfl rfl rfl rfl rfl (by kernel_rfl) Tryz.func3 (by kernel_rfl)
    (of_decide_eq_true (by kernel_rfl)) (by unfold Func.isWrapper; first | (rw [if_pos (by decide +kernel)]; kernel_rfl) | (rw [if_neg (by decide +kernel)]; exact ⟨rfl, rfl⟩))
    (fun os started H enc _ => lifted os started H enc)
theorem proved : Rows.ImageArrivalsSaid :=
  over
end Go.Proofs.YtkdhkfaakklhaaaGreat.imageArrivals
