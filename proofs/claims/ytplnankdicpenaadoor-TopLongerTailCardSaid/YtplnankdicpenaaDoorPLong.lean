/- With more noise and a longer tail the ends of sums, decay times and definitions of an ask only widen. -/
import Derived.Test.YtplnankdicpenaaDoorG1
import Derived.Test.YtplnankdicpenaaDoorM
import Derived.Test.YtplnankdicpenaaDoorRows
import Derived.Test.YtplnankdicpenaaDoorTie
import Derived.Test.YtplnankdicpenaaDoorCards
set_option linter.unusedSimpArgs false
set_option linter.unusedVariables false
set_option linter.defProp false
namespace Go.Proofs.YtplnankdicpenaaDoor.topLongerTail
open Go Go.Rex Go.ChangeShapes Go.WideShapes Go.ChangeAt Go.RowKit Go.Joins Go.Proofs Go.Proofs.YtplnankdicpenaaDoor
theorem own : ownKnob Tryd.prog.godebug = none := by kernel_rfl
theorem laidOut : laidOutB Tryd.prog = true := by kernel_rfl
set_option maxHeartbeats 1000000 in
set_option maxRecDepth 100000 in
theorem laid_met (os : Os) (args : Array Value) : laidMetH Tryd.prog Rows.topLongerTailRow.laid ((World.laidAll Tryd.prog os Rows.topLongerTailRow.laid).forCall (fun _ _ => 0) ⟨#[], args, []⟩).memory := by
  rw [MakeChecks.laidMetH_plain _ _ _ (by kernel_rfl)]
  exact laidMet_laidAll args (by kernel_rfl) (by kernel_rfl)
set_option maxHeartbeats 1000000 in
set_option maxRecDepth 100000 in
theorem lifted (os : Os) (started : os.Started) (H : Type) (enc : TypeId × Value → H) :
    ReturnsInHanded {} Tryd.checked os 3 .any (fun w args => (Rows.topLongerTailSpec.pre enc Tryd.prog Tryd.f3 [] false w args ∧ laidMetH Tryd.prog Rows.topLongerTailRow.laid w) ∧ sizedMet enc Tryd.prog Tryd.f3 (OpenSpec.ofChange Rows.topLongerTailSpec) false w args) (Rows.topLongerTailSpec.post enc Tryd.prog Tryd.f3 false true false false) := by
  refine returnsInHanded_of_change_and (C := Tryd.checked) (X := fun w _ => laidMetH Tryd.prog Rows.topLongerTailRow.laid w) (fun _ _ _ hh h => h.of_heap hh) own started (by kernel_rfl) Tryd.func3
    (ChangeSpec.witness_shaped (enc := enc) (C := Tryd.checked) (os := os) (X := fun w _ => laidMetH Tryd.prog Rows.topLongerTailRow.laid w) false (World.laidAll Tryd.prog os Rows.topLongerTailRow.laid) #[.agg #[.int .i64 0, .slice none 0 0, .int .i64 0, .int .i64 0], .agg #[.int .i64 0, .int .i64 0], .int .i64 0] 8 (World.laidAll_os _ _ _) (World.shaped_of_ZipB (by kernel_rfl) (by kernel_rfl)) (by kernel_rfl) (by kernel_rfl) (by kernel_rfl) (laid_met os _)) ?_
  intro W base args ds gs before hval0 hW hcnd _ hL _
  rw [MakeChecks.laidMetH_plain _ _ _ (by kernel_rfl)] at hL
  have hval : ∀ (j : Nat) t v, Tryd.f3.params[j]? = some t → args[j]? = some v → Value.okWide Tryd.prog W .any base t v := hval0
  have hW' := hW
  obtain ⟨p, q, hA0, hV, rfl, hfz, hnd⟩ := hW
  have hA : DataW.TrodAll enc Tryd.prog W 0 (fun _ => true) true Tryd.f3.params.toList args.toList ds p := hA0
  rw [Tryd.params3] at hA hval
  obtain ⟨v0, vs0, d0, ds0, p0, q0, hargs, rfl, rfl, h0, r0⟩ := trodAll_cons hA
  obtain ⟨v1, vs1, d1, ds1, p1, q1, rfl, rfl, rfl, h1, r1⟩ := trodAll_cons r0
  obtain ⟨v2, vs2, d2, ds2, p2, q2, rfl, rfl, rfl, h2, r2⟩ := trodAll_cons r1
  obtain ⟨rfl, rfl, rfl⟩ := trodAll_nil r2
  obtain rfl : args = #[v0, v1, v2] := by cases args; simp_all
  obtain ⟨rfl, rfl⟩ := trodVars_none hV
  have lt0 : ∀ x ∈ p0, x.block < W.heap.size := by obtain ⟨m, hm⟩ := h0; exact DataW.trod_lt m _ _ _ hm
  have lt1 : ∀ x ∈ p1, x.block < W.heap.size := by obtain ⟨m, hm⟩ := h1; exact DataW.trod_lt m _ _ _ hm
  have lt2 : ∀ x ∈ p2, x.block < W.heap.size := by obtain ⟨m, hm⟩ := h2; exact DataW.trod_lt m _ _ _ hm
  clear hA0 hval0
  obtain ⟨l0, rfl, hl0, hc0⟩ := open_cells (ts := [3, 22, 3, 3]) Tryd.underlying26 (by kernel_rfl) (by kernel_rfl) (hval 0 26 v0 rfl rfl)
  obtain ⟨c0_0, c0_1, c0_2, c0_3, rfl⟩ := len4 (show l0.length = 4 from hl0)
  obtain ⟨x0_0, rfl⟩ := okW_int Tryd.underlying3 (hc0 0 _ 3 rfl rfl)
  have w0_1 := hc0 1 _ 22 rfl rfl
  obtain ⟨x0_1, b0_1, i0_1, a0_1, A0_1⟩ : ∃ (xs : List Nat) (bs : List Blk) (is : List Info) (av : Nat → Value), Arg W c0_1 (.list 1 (xs.map e_f)) bs is av := by
    obtain ⟨m0, hm0⟩ := h0
    obtain ⟨m1, z1, hm1⟩ := st_field (i := 0) Tryd.underlying26 rfl hm0
    obtain ⟨m2, z2, hm2⟩ := st_field (i := 1) Tryd.underlying24 rfl hm1
    refine open_rowsC (g := fun (x : Nat) => [.float .f32 x]) (by decide) (fun _ => rfl) (fun _ => rfl) (fun x c hc => ?_) Tryd.underlying22 (by kernel_rfl) w0_1 (fun n cs y hy hl => ?_) hm2
    · simp only [List.mem_cons, List.not_mem_nil, or_false] at hc
      subst hc; exact atomV_float _ _
    · exact Rex.trod_float Tryd.underlying63 hy
  obtain ⟨x0_2, rfl⟩ := okW_int Tryd.underlying3 (hc0 2 _ 3 rfl rfl)
  obtain ⟨x0_3, rfl⟩ := okW_int Tryd.underlying3 (hc0 3 _ 3 rfl rfl)
  obtain ⟨l1, hl1, rfl⟩ := open_ari (n := 2) Tryd.underlying27 Tryd.underlying3 (by kernel_rfl) (by kernel_rfl) (hval 1 27 v1 rfl rfl)
  obtain ⟨x1_0, x1_1, rfl⟩ := len2 hl1
  obtain ⟨x2, rfl⟩ := Rex.open_int Tryd.underlying3 (hval 2 3 v2 rfl rfl)
  have AA := NArgs.cons (NArg.ofArgs (NArgs.cons ((Arg.atom (atomV_int .i64 x0_0)).n) (NArgs.cons (A0_1.n) (NArgs.cons ((Arg.atom (atomV_int .i64 x0_2)).n) (NArgs.cons ((Arg.atom (atomV_int .i64 x0_3)).n) (NArgs.nil W)))))) (NArgs.cons ((arg_ints [x1_0, x1_1]).n) (NArgs.cons ((Arg.atom (atomV_int .i64 x2)).n) (NArgs.nil W)))
  have hc0 := listed_cells (P := Tryd.prog) (w := W) hL (n := "shoebox/figure.slopes") (d := Rows.laid_shoebox_figure_slopes) (.tail _ (.tail _ (.tail _ (.head _)))) (g := 0) (t := 76) (cs := ghc0) (by kernel_rfl) (by kernel_rfl) (by kernel_rfl)
  have hc1 := listed_cells (P := Tryd.prog) (w := W) hL (n := "internal/strconv.uint64pow10") (d := Rows.laid_internal_strconv_uint64pow10) (.tail _ (.tail _ (.head _))) (g := 1) (t := 128) (cs := ghc1) (by kernel_rfl) (by kernel_rfl) (by kernel_rfl)
  have hc6 := listed_cells (P := Tryd.prog) (w := W) hL (n := "shoebox/figure.tenths") (d := Rows.laid_shoebox_figure_tenths) (.tail _ (.tail _ (.tail _ (.tail _ (.head _))))) (g := 6) (t := 139) (cs := ghc6) (by kernel_rfl) (by kernel_rfl) (by kernel_rfl)
  have hc7 := listed_cells (P := Tryd.prog) (w := W) hL (n := "math/bits.deBruijn32tab") (d := Rows.laid_math_bits_deBruijn32tab) (.head _) (g := 7) (t := 140) (cs := ghc7) (by kernel_rfl) (by kernel_rfl) (by kernel_rfl)
  have hc8 := listed_cells (P := Tryd.prog) (w := W) hL (n := "math/bits.deBruijn64tab") (d := Rows.laid_math_bits_deBruijn64tab) (.tail _ (.head _)) (g := 8) (t := 141) (cs := ghc8) (by kernel_rfl) (by kernel_rfl) (by kernel_rfl)
  have hgw : GW W := gw_all (show AllC W 0 ghCells from ⟨hc0, hc1, noCells, noCells, noCells, noCells, hc6, hc7, hc8, trivial⟩)
  have hgs : NG ≤ W.heap.size := by
    have := gh_size (hc8 0 _ rfl)
    rw [show NG = 9 from by kernel_rfl]
    omega
  refine (top_TopLongerTail_law (longer_true x0_0 x0_1 x0_2 x0_3 x1_0 x1_1 x2) AA.fz AA.vls (AA.rel hgw hgs) (Nat.le_refl _) AA.vrs).mono fun e W' ⟨he, bel⟩ => ?_
  subst he
  exact ⟨_, rfl, _, _, _, [], _, [], hW', trodAll_mk1 (shut_bool Tryd.underlying4 _), (trodAll_cons_mk (Below.trod laidOut (by kernel_rfl) (of_decide_eq_true (by kernel_rfl)) h0 bel lt0) (trodAll_cons_mk (Below.trod laidOut (by kernel_rfl) (of_decide_eq_true (by kernel_rfl)) h1 bel lt1) (trodAll_cons_mk (Below.trod laidOut (by kernel_rfl) (of_decide_eq_true (by kernel_rfl)) h2 bel lt2) trodAll_mk0))), rfl, bel.frame _, fun h => by cases h⟩
theorem over : Rows.topLongerTailRow.holds Tryd.pinned (OpenSpec.ofChange Rows.topLongerTailSpec) :=
  OpenClaim.holds_of_wide 3 Tryd.f3 rfl rfl rfl rfl rfl rfl rfl ⟨rfl, rfl, rfl, rfl, rfl⟩ rfl rfl rfl rfl rfl (by kernel_rfl) Tryd.func3 (by kernel_rfl)
    (of_decide_eq_true (by kernel_rfl)) (by unfold Func.isWrapper; first | (rw [if_pos (by decide +kernel)]; kernel_rfl) | (rw [if_neg (by decide +kernel)]; exact ⟨rfl, rfl⟩))
    (fun os started H enc _ => lifted os started H enc)
theorem proved : Rows.TopLongerTailCardSaid :=
  Claim7.holds_tied_plain_at .later [] [.data, .data, .data, .data, .data] true (true, "baeec455870b2789ad209280a8a9dfeb59488c5be53ec54c6be1f3086616c933") false
    over (fun _ h => by cases h) (by kernel_rfl) (fun _ h => by cases h) topLongerTail_row_tie rfl ⟨rfl, rfl⟩ (by kernel_rfl) rfl
    (fun f fn hf hfn => by
      obtain rfl : f = 3 := Option.some.inj ((show Tryd.prog.funcNamed "shoebox/shoeboxtop.TopLongerTail" = some 3 by kernel_rfl).symm.trans hf) |>.symm
      obtain rfl : fn = Tryd.f3 := (Option.some.inj (Tryd.func3.symm.trans hfn)).symm
      exact ⟨by kernel_rfl, fun j t ht => by
        rw [Tryd.params3] at ht
        have hm : t ∈ [26, 27, 3] := by simpa using Array.mem_of_getElem? ht
        have hall : ([26, 27, 3].all fun u => !Tryd.prog.wantsStandIn u) = true := by kernel_rfl
        exact (show Tryd.prog.wantsStandIn t = false by simpa using List.all_eq_true.1 hall t hm)⟩)
    (by kernel_rfl)
end Go.Proofs.YtplnankdicpenaaDoor.topLongerTail
