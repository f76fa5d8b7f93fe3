/- What has arrived until a moment, and the burst of echoes within a window, or the errors, are as specified, for every input within the bounds that the statement names. -/
import Derived.Test.YtnjbkoobeobfiaaGreatG2
import Derived.Test.YtnjbkoobeobfiaaGreatM
import Derived.Test.YtnjbkoobeobfiaaGreatRows
set_option linter.unusedSimpArgs false
set_option linter.unusedVariables false
set_option linter.defProp false
namespace Go.Proofs.YtnjbkoobeobfiaaGreat.energyArrives
open Go Go.Rex Go.ChangeShapes Go.WideShapes Go.ChangeAt Go.RowKit Go.Joins Go.Proofs Go.Proofs.YtnjbkoobeobfiaaGreat
theorem own : ownKnob Tryz.prog.godebug = none := by kernel_rfl
theorem laidOut : laidOutB Tryz.prog = true := by kernel_rfl
set_option maxHeartbeats 1000000 in
set_option maxRecDepth 100000 in
theorem lifted (os : Os) (started : os.Started) (H : Type) (enc : TypeId × Value → H) :
    ReturnsInHanded {} Tryz.checked os 3 .any (Rows.energyArrivesSpec.pre6 enc Tryz.prog Tryz.f3 Rows.energyArrivesRow.domain false) (Rows.energyArrivesSpec.post enc Tryz.prog Tryz.f3 false true false false) := by
  refine returnsInHanded_of_change (C := Tryz.checked) own started (by kernel_rfl) Tryz.func3
    (ChangeSpec.witness6 (enc := enc) (C := Tryz.checked) false ⟨#[], #[.slice none 0 0, .int .i64 0, .int .i64 0], []⟩ 8 (by kernel_rfl) (by kernel_rfl) (by kernel_rfl) (by kernel_rfl)) ?_
  intro W base args ds gs before hval0 hW hcnd _
  have hval : ∀ (j : Nat) t v, Tryz.f3.params[j]? = some t → args[j]? = some v → Value.okWide Tryz.prog W .any base t v := hval0
  have hW' := hW
  obtain ⟨p, q, hA0, hV, rfl, hfz, hnd⟩ := hW
  have hA : DataW.TrodAll enc Tryz.prog W 0 (fun _ => true) true Tryz.f3.params.toList args.toList ds p := hA0
  rw [Tryz.params3] at hA hval
  obtain ⟨v0, vs0, d0, ds0, p0, q0, hargs, rfl, rfl, h0, r0⟩ := trodAll_cons hA
  obtain ⟨v1, vs1, d1, ds1, p1, q1, rfl, rfl, rfl, h1, r1⟩ := trodAll_cons r0
  obtain ⟨v2, vs2, d2, ds2, p2, q2, rfl, rfl, rfl, h2, r2⟩ := trodAll_cons r1
  obtain ⟨rfl, rfl, rfl⟩ := trodAll_nil r2
  obtain rfl : args = #[v0, v1, v2] := by cases args; simp_all
  obtain ⟨rfl, rfl⟩ := trodVars_none hV
  have lt0 : ∀ x ∈ p0, x.block < W.heap.size := by obtain ⟨m, hm⟩ := h0; exact DataW.trod_lt m _ _ _ hm
  have lt1 : ∀ x ∈ p1, x.block < W.heap.size := by obtain ⟨m, hm⟩ := h1; exact DataW.trod_lt m _ _ _ hm
  have lt2 : ∀ x ∈ p2, x.block < W.heap.size := by obtain ⟨m, hm⟩ := h2; exact DataW.trod_lt m _ _ _ hm
  clear hA0 hval0
  have w0 := hval 0 22 v0 rfl rfl
  obtain ⟨x0, b0, i0, a0, A0⟩ : ∃ (xs : (List ((List Int) × Int × Int × Int × Int))) (bs : Nat → List Blk) (is : List Info) (av : Nat → Value), NArg W v0 (.list 5 (xs.map e_Li_iiii)) bs is av := by
    obtain ⟨a, len, cap, rfl⟩ := okWide_slice Tryz.underlying22 w0
    obtain ⟨m, hm⟩ := h0
    exact Rex.open_rowsN (F := e_Li_iiii) (by decide) (fun _ => rfl) Tryz.underlying22 (by kernel_rfl) (fun n cs y hl hy => by
      obtain ⟨c0, c1, c2, c3, c4, rfl⟩ := len5 hl
      obtain ⟨m0_0, z0_0, h0_0⟩ := st_field (i := 0) Tryz.underlying91 rfl hy
      obtain ⟨x0, _, _, _, A0⟩ : ∃ (x : (List Int)) (bs : Nat → List Blk) (is : List Info) (av : Nat → Value), NArg W c0 (.list 1 (x.map e_i)) bs is av := Rex.open_ints Tryz.underlying44 Tryz.underlying3 (by kernel_rfl) (fun _ => rfl) h0_0
      obtain ⟨m1_0, z1_0, h1_0⟩ := st_field (i := 1) Tryz.underlying91 rfl hy
      obtain ⟨m1_1, z1_1, h1_1⟩ := st_field (i := 0) Tryz.underlying30 rfl h1_0
      obtain ⟨x1, hx1, _⟩ := DataW.trod_int Tryz.underlying3 (show DataW.trod _ _ _ _ _ _ _ _ [c1] = _ from h1_1)
      obtain rfl : c1 = .int .i64 x1 := by simpa using hx1
      have A1 := (Arg.atom (W := W) (atomV_int .i64 x1)).n
      obtain ⟨m2_0, z2_0, h2_0⟩ := st_field (i := 1) Tryz.underlying91 rfl hy
      obtain ⟨m2_1, z2_1, h2_1⟩ := st_field (i := 1) Tryz.underlying30 rfl h2_0
      obtain ⟨x2, hx2, _⟩ := DataW.trod_int Tryz.underlying3 (show DataW.trod _ _ _ _ _ _ _ _ [c2] = _ from h2_1)
      obtain rfl : c2 = .int .i64 x2 := by simpa using hx2
      have A2 := (Arg.atom (W := W) (atomV_int .i64 x2)).n
      obtain ⟨m3_0, z3_0, h3_0⟩ := st_field (i := 2) Tryz.underlying91 rfl hy
      obtain ⟨m3_1, z3_1, h3_1⟩ := st_field (i := 0) Tryz.underlying30 rfl h3_0
      obtain ⟨x3, hx3, _⟩ := DataW.trod_int Tryz.underlying3 (show DataW.trod _ _ _ _ _ _ _ _ [c3] = _ from h3_1)
      obtain rfl : c3 = .int .i64 x3 := by simpa using hx3
      have A3 := (Arg.atom (W := W) (atomV_int .i64 x3)).n
      obtain ⟨m4_0, z4_0, h4_0⟩ := st_field (i := 2) Tryz.underlying91 rfl hy
      obtain ⟨m4_1, z4_1, h4_1⟩ := st_field (i := 1) Tryz.underlying30 rfl h4_0
      obtain ⟨x4, hx4, _⟩ := DataW.trod_int Tryz.underlying3 (show DataW.trod _ _ _ _ _ _ _ _ [c4] = _ from h4_1)
      obtain rfl : c4 = .int .i64 x4 := by simpa using hx4
      have A4 := (Arg.atom (W := W) (atomV_int .i64 x4)).n
      exact ⟨(x0, x1, x2, x3, x4), _, _, _, NArgs.cons A0 (NArgs.cons A1 (NArgs.cons A2 (NArgs.cons A3 (NArgs.cons A4 (NArgs.nil W)))))⟩) (by simpa [Value.cells] using hm)
  obtain ⟨x1, rfl⟩ := Rex.open_int Tryz.underlying3 (hval 1 3 v1 rfl rfl)
  obtain ⟨x2, rfl⟩ := Rex.open_int Tryz.underlying3 (hval 2 3 v2 rfl rfl)
  have AA := NArgs.cons (A0) (NArgs.cons ((Arg.atom (atomV_int .i64 x1)).n) (NArgs.cons ((Arg.atom (atomV_int .i64 x2)).n) (NArgs.nil W)))
  have hgw : GW W := fun g es c hg => by simp [GH, ghCells] at hg
  have hgs : NG ≤ W.heap.size := by unfold NG GH ghCells; exact Nat.zero_le _
  refine (law03_EnergyArrives_law (arrives_true x0 x1 x2) (fun n h => h) AA.vls (AA.rel hgw hgs) (Nat.le_refl _) AA.vrs).mono fun e W' ⟨he, bel⟩ => ?_
  subst he
  exact ⟨_, rfl, _, _, _, [], _, [], hW', trodAll_mk1 (shut_bool Tryz.underlying4 _), (trodAll_cons_mk (Below.trod laidOut (by kernel_rfl) (of_decide_eq_true (by kernel_rfl)) h0 bel lt0) (trodAll_cons_mk (Below.trod laidOut (by kernel_rfl) (of_decide_eq_true (by kernel_rfl)) h1 bel lt1) (trodAll_cons_mk (Below.trod laidOut (by kernel_rfl) (of_decide_eq_true (by kernel_rfl)) h2 bel lt2) trodAll_mk0))), rfl, bel.frame _, fun h => by cases h⟩
theorem over : Rows.energyArrivesRow.holds Tryz.pinned (OpenSpec.ofChange Rows.energyArrivesSpec) :=
  OpenClaim.holds_of_wide 3 Tryz.f3 rfl rfl rfl rfl rfl rfl rfl ⟨rfl, rfl, rfl, rfl, rfl⟩ rfl rfl rfl rfl rfl (by kernel_rfl) Tryz.func3 (by kernel_rfl)
    (of_decide_eq_true (by kernel_rfl)) (by unfold Func.isWrapper; first | (rw [if_pos (by decide +kernel)]; kernel_rfl) | (rw [if_neg (by decide +kernel)]; exact ⟨rfl, rfl⟩))
    (fun os started H enc _ => lifted os started H enc)
theorem proved : Rows.EnergyArrivesSaid :=
  over
end Go.Proofs.YtnjbkoobeobfiaaGreat.energyArrives
