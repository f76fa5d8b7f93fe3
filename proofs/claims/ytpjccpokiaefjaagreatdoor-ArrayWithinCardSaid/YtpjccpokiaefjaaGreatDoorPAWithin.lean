/- The pressure lies within its ends, and its size within that told, whatever the input. -/
import Derived.Test.YtpjccpokiaefjaaGreatDoorG2
import Derived.Test.YtpjccpokiaefjaaGreatDoorM
import Derived.Test.YtpjccpokiaefjaaGreatDoorRows
import Derived.Test.YtpjccpokiaefjaaGreatDoorTie
import Derived.Test.YtpjccpokiaefjaaGreatDoorCards
set_option linter.unusedSimpArgs false
set_option linter.unusedVariables false
set_option linter.defProp false
namespace Go.Proofs.YtpjccpokiaefjaaGreatDoor.arrayWithin
open Go Go.Rex Go.ChangeShapes Go.WideShapes Go.ChangeAt Go.RowKit Go.Joins Go.Proofs Go.Proofs.YtpjccpokiaefjaaGreatDoor
theorem own : ownKnob Tryz.prog.godebug = none := by kernel_rfl
theorem laidOut : laidOutB Tryz.prog = true := by kernel_rfl
set_option maxHeartbeats 1000000 in
set_option maxRecDepth 100000 in
theorem laid_met (os : Os) (args : Array Value) : laidMetH Tryz.prog Rows.arrayWithinRow.laid ((World.laidAll Tryz.prog os Rows.arrayWithinRow.laid).forCall (fun _ _ => 0) ⟨#[], args, []⟩).memory := by
  rw [MakeChecks.laidMetH_plain _ _ _ (by kernel_rfl)]
  exact laidMet_laidAll args (by kernel_rfl) (by kernel_rfl)
set_option maxHeartbeats 1000000 in
set_option maxRecDepth 100000 in
theorem lifted (os : Os) (started : os.Started) (H : Type) (enc : TypeId × Value → H) :
    ReturnsInHanded {} Tryz.checked os 6 .any (fun w args => (Rows.arrayWithinSpec.pre enc Tryz.prog Tryz.f6 [] false w args ∧ laidMetH Tryz.prog Rows.arrayWithinRow.laid w) ∧ sizedMet enc Tryz.prog Tryz.f6 (OpenSpec.ofChange Rows.arrayWithinSpec) false w args) (Rows.arrayWithinSpec.post enc Tryz.prog Tryz.f6 false true false false) := by
  refine returnsInHanded_of_change_and (C := Tryz.checked) (X := fun w _ => laidMetH Tryz.prog Rows.arrayWithinRow.laid w) (fun _ _ _ hh h => h.of_heap hh) own started (by kernel_rfl) Tryz.func6
    (ChangeSpec.witness_shaped (enc := enc) (C := Tryz.checked) (os := os) (X := fun w _ => laidMetH Tryz.prog Rows.arrayWithinRow.laid w) false (World.laidAll Tryz.prog os Rows.arrayWithinRow.laid) #[.agg #[.int .i64 0, .int .i64 0, .slice none 0 0], .agg #[.int .i64 0, .int .i64 0, .int .i64 0]] 8 (World.laidAll_os _ _ _) (World.shaped_of_ZipB (by kernel_rfl) (by kernel_rfl)) (by kernel_rfl) (by kernel_rfl) (by kernel_rfl) (laid_met os _)) ?_
  intro W base args ds gs before hval0 hW hcnd _ hL _
  rw [MakeChecks.laidMetH_plain _ _ _ (by kernel_rfl)] at hL
  have hval : ∀ (j : Nat) t v, Tryz.f6.params[j]? = some t → args[j]? = some v → Value.okWide Tryz.prog W .any base t v := hval0
  have hW' := hW
  obtain ⟨p, q, hA0, hV, rfl, hfz, hnd⟩ := hW
  have hA : DataW.TrodAll enc Tryz.prog W 0 (fun _ => true) true Tryz.f6.params.toList args.toList ds p := hA0
  rw [Tryz.params6] at hA hval
  obtain ⟨v0, vs0, d0, ds0, p0, q0, hargs, rfl, rfl, h0, r0⟩ := trodAll_cons hA
  obtain ⟨v1, vs1, d1, ds1, p1, q1, rfl, rfl, rfl, h1, r1⟩ := trodAll_cons r0
  obtain ⟨rfl, rfl, rfl⟩ := trodAll_nil r1
  obtain rfl : args = #[v0, v1] := by cases args; simp_all
  obtain ⟨rfl, rfl⟩ := trodVars_none hV
  have lt0 : ∀ x ∈ p0, x.block < W.heap.size := by obtain ⟨m, hm⟩ := h0; exact DataW.trod_lt m _ _ _ hm
  have lt1 : ∀ x ∈ p1, x.block < W.heap.size := by obtain ⟨m, hm⟩ := h1; exact DataW.trod_lt m _ _ _ hm
  clear hA0 hval0
  obtain ⟨l0, rfl, hl0, hc0⟩ := open_cells (ts := [3, 3, 22]) Tryz.underlying24 (by kernel_rfl) (by kernel_rfl) (hval 0 24 v0 rfl rfl)
  obtain ⟨c0_0, c0_1, c0_2, rfl⟩ := len3 (show l0.length = 3 from hl0)
  obtain ⟨x0_0, rfl⟩ := okW_int Tryz.underlying3 (hc0 0 _ 3 rfl rfl)
  obtain ⟨x0_1, rfl⟩ := okW_int Tryz.underlying3 (hc0 1 _ 3 rfl rfl)
  have w0_2 := hc0 2 _ 22 rfl rfl
  obtain ⟨x0_2, b0_2, i0_2, a0_2, A0_2⟩ : ∃ (xs : List (Int × Int × Int × Int × Int)) (bs : List Blk) (is : List Info) (av : Nat → Value), Arg W c0_2 (.list 5 (xs.map e_iiiii)) bs is av := by
    obtain ⟨m0, hm0⟩ := h0
    obtain ⟨m1, z1, hm1⟩ := st_field (i := 2) Tryz.underlying24 rfl hm0
    refine open_rowsC (g := fun (x : (Int × Int × Int × Int × Int)) => [.int .i64 x.1, .int .i64 x.2.1, .int .i64 x.2.2.1, .int .i64 x.2.2.2.1, .int .i64 x.2.2.2.2]) (by decide) (fun _ => rfl) (fun _ => rfl) (fun x c hc => ?_) Tryz.underlying22 (by kernel_rfl) w0_2 (fun n cs y hy hl => ?_) hm1
    · simp only [List.mem_cons, List.not_mem_nil, or_false] at hc
      rcases hc with rfl | rfl | rfl | rfl | rfl <;> exact atomV_int _ _
    · obtain ⟨l, rfl⟩ := ((fun _ _ _ h => ai_struct Tryz.underlying40 (by kernel_rfl) (by intro f hf; simp only [List.mem_cons, List.not_mem_nil, or_false] at hf; rcases hf with rfl | rfl | rfl; exact (fun _ _ _ h => ai_struct Tryz.underlying38 (by kernel_rfl) (by intro f hf; simp only [List.mem_cons, List.not_mem_nil, or_false] at hf; rcases hf with rfl | rfl | rfl; exact (fun _ _ _ h => ai_int Tryz.underlying3 h); exact (fun _ _ _ h => ai_int Tryz.underlying3 h); exact (fun _ _ _ h => ai_int Tryz.underlying3 h)) h); exact (fun _ _ _ h => ai_int Tryz.underlying3 h); exact (fun _ _ _ h => ai_int Tryz.underlying3 h)) h) n cs y hy).list
      rw [List.length_map] at hl
      obtain ⟨y0, y1, y2, y3, y4, rfl⟩ := len5 hl
      exact ⟨(y0, y1, y2, y3, y4), rfl⟩
  obtain ⟨l1, hl1, rfl⟩ := open_sti (n := 3) Tryz.underlying38 Tryz.underlying3 (by kernel_rfl) (by kernel_rfl) (hval 1 38 v1 rfl rfl)
  obtain ⟨x1_0, x1_1, x1_2, rfl⟩ := len3 hl1
  have AA := NArgs.cons (NArg.ofArgs (NArgs.cons ((Arg.atom (atomV_int .i64 x0_0)).n) (NArgs.cons ((Arg.atom (atomV_int .i64 x0_1)).n) (NArgs.cons (A0_2.n) (NArgs.nil W))))) (NArgs.cons ((arg_ints [x1_0, x1_1, x1_2]).n) (NArgs.nil W))
  have hc3 := listed_cells (P := Tryz.prog) (w := W) hL (n := "math/bits.deBruijn64tab") (d := Rows.laid_math_bits_deBruijn64tab) (.tail _ (.head _)) (g := 3) (t := 257) (cs := ghc3) (by kernel_rfl) (by kernel_rfl) (by kernel_rfl)
  have hc8 := listed_cells (P := Tryz.prog) (w := W) hL (n := "internal/strconv.uint64pow10") (d := Rows.laid_internal_strconv_uint64pow10) (.tail _ (.tail _ (.head _))) (g := 8) (t := 281) (cs := ghc8) (by kernel_rfl) (by kernel_rfl) (by kernel_rfl)
  have hgw : GW W := gw_all (show AllC W 0 ghCells from ⟨noCells, noCells, noCells, hc3, noCells, noCells, noCells, noCells, hc8, trivial⟩)
  have hgs : NG ≤ W.heap.size := by
    have := gh_size (hc8 0 _ rfl)
    rw [show NG = 9 from by kernel_rfl]
    omega
  refine (law07_ArrayWithin_law (within_true x0_0 x0_1 x0_2 x1_0 x1_1 x1_2) (fun n h => h) AA.vls (AA.rel hgw hgs) (Nat.le_refl _) AA.vrs).mono fun e W' ⟨he, bel⟩ => ?_
  subst he
  exact ⟨_, rfl, _, _, _, [], _, [], hW', trodAll_mk1 (shut_bool Tryz.underlying4 _), (trodAll_cons_mk (Below.trod laidOut (by kernel_rfl) (of_decide_eq_true (by kernel_rfl)) h0 bel lt0) (trodAll_cons_mk (Below.trod laidOut (by kernel_rfl) (of_decide_eq_true (by kernel_rfl)) h1 bel lt1) trodAll_mk0)), rfl, bel.frame _, fun h => by cases h⟩
theorem over : Rows.arrayWithinRow.holds Tryz.pinned (OpenSpec.ofChange Rows.arrayWithinSpec) :=
  OpenClaim.holds_of_wide 6 Tryz.f6 rfl rfl rfl rfl rfl rfl rfl ⟨rfl, rfl, rfl, rfl, rfl⟩ rfl rfl rfl rfl rfl (by kernel_rfl) Tryz.func6 (by kernel_rfl)
    (of_decide_eq_true (by kernel_rfl)) (by unfold Func.isWrapper; first | (rw [if_pos (by decide +kernel)]; kernel_rfl) | (rw [if_neg (by decide +kernel)]; exact ⟨rfl, rfl⟩))
    (fun os started H enc _ => lifted os started H enc)
theorem proved : Rows.ArrayWithinCardSaid :=
  Claim7.holds_tied_plain_at .later [] [.data, .data, .data, .data, .sentinel, .sentinel, .pinned] true (true, "1d1fd9411b62ebc537e1cfe24c30aaab22037fdf40891c6276f1122716f53824") true
    over (fun _ h => by cases h) (by kernel_rfl) (fun _ h => by cases h) arrayWithin_row_tie rfl ⟨rfl, rfl⟩ (by kernel_rfl) rfl
    (fun f fn hf hfn => by
      obtain rfl : f = 6 := Option.some.inj ((show Tryz.prog.funcNamed "shoebox/shoeboxlaw07.ArrayWithin" = some 6 by kernel_rfl).symm.trans hf) |>.symm
      obtain rfl : fn = Tryz.f6 := (Option.some.inj (Tryz.func6.symm.trans hfn)).symm
      exact ⟨by kernel_rfl, fun j t ht => by
        rw [Tryz.params6] at ht
        have hm : t ∈ [24, 38] := by simpa using Array.mem_of_getElem? ht
        have hall : ([24, 38].all fun u => !Tryz.prog.wantsStandIn u) = true := by kernel_rfl
        exact (show Tryz.prog.wantsStandIn t = false by simpa using List.all_eq_true.1 hall t hm)⟩)
    (by kernel_rfl)
end Go.Proofs.YtpjccpokiaefjaaGreatDoor.arrayWithin
