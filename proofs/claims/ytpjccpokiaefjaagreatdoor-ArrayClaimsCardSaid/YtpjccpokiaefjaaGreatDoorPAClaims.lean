/- What a task, its gains and its weights are answered, and that no gains go past what weights prove, is as specified, whatever the input. -/
import Derived.Test.YtpjccpokiaefjaaGreatDoorG2
import Derived.Test.YtpjccpokiaefjaaGreatDoorM
import Derived.Test.YtpjccpokiaefjaaGreatDoorRows
import Derived.Test.YtpjccpokiaefjaaGreatDoorTie
import Derived.Test.YtpjccpokiaefjaaGreatDoorCards
set_option linter.unusedSimpArgs false
set_option linter.unusedVariables false
set_option linter.defProp false
namespace Go.Proofs.YtpjccpokiaefjaaGreatDoor.arrayClaims
open Go Go.Rex Go.ChangeShapes Go.WideShapes Go.ChangeAt Go.RowKit Go.Joins Go.Proofs Go.Proofs.YtpjccpokiaefjaaGreatDoor
theorem own : ownKnob Tryz.prog.godebug = none := by kernel_rfl
theorem laidOut : laidOutB Tryz.prog = true := by kernel_rfl
set_option maxHeartbeats 1000000 in
set_option maxRecDepth 100000 in
theorem laid_met (os : Os) (args : Array Value) : laidMetH Tryz.prog Rows.arrayClaimsRow.laid ((World.laidAll Tryz.prog os Rows.arrayClaimsRow.laid).forCall (fun _ _ => 0) ⟨#[], args, []⟩).memory := by
  rw [MakeChecks.laidMetH_plain _ _ _ (by kernel_rfl)]
  exact laidMet_laidAll args (by kernel_rfl) (by kernel_rfl)
set_option maxHeartbeats 1000000 in
set_option maxRecDepth 100000 in
theorem lifted (os : Os) (started : os.Started) (H : Type) (enc : TypeId × Value → H) :
    ReturnsInHanded {} Tryz.checked os 10 .any (fun w args => (Rows.arrayClaimsSpec.pre enc Tryz.prog Tryz.f10 [] false w args ∧ laidMetH Tryz.prog Rows.arrayClaimsRow.laid w) ∧ sizedMet enc Tryz.prog Tryz.f10 (OpenSpec.ofChange Rows.arrayClaimsSpec) false w args) (Rows.arrayClaimsSpec.post enc Tryz.prog Tryz.f10 false true false false) := by
  refine returnsInHanded_of_change_and (C := Tryz.checked) (X := fun w _ => laidMetH Tryz.prog Rows.arrayClaimsRow.laid w) (fun _ _ _ hh h => h.of_heap hh) own started (by kernel_rfl) Tryz.func10
    (ChangeSpec.witness_shaped (enc := enc) (C := Tryz.checked) (os := os) (X := fun w _ => laidMetH Tryz.prog Rows.arrayClaimsRow.laid w) false (World.laidAll Tryz.prog os Rows.arrayClaimsRow.laid) #[.agg #[.slice none 0 0, .int .i64 0], .agg #[.int .i64 0, .slice none 0 0, .int .i64 0, .slice none 0 0, .slice none 0 0, .slice none 0 0], .int .i64 0] 8 (World.laidAll_os _ _ _) (World.shaped_of_ZipB (by kernel_rfl) (by kernel_rfl)) (by kernel_rfl) (by kernel_rfl) (by kernel_rfl) (laid_met os _)) ?_
  intro W base args ds gs before hval0 hW hcnd _ hL _
  rw [MakeChecks.laidMetH_plain _ _ _ (by kernel_rfl)] at hL
  have hval : ∀ (j : Nat) t v, Tryz.f10.params[j]? = some t → args[j]? = some v → Value.okWide Tryz.prog W .any base t v := hval0
  have hW' := hW
  obtain ⟨p, q, hA0, hV, rfl, hfz, hnd⟩ := hW
  have hA : DataW.TrodAll enc Tryz.prog W 0 (fun _ => true) true Tryz.f10.params.toList args.toList ds p := hA0
  rw [Tryz.params10] at hA hval
  obtain ⟨v0, vs0, d0, ds0, p0, q0, hargs, rfl, rfl, h0, r0⟩ := trodAll_cons hA
  obtain ⟨v1, vs1, d1, ds1, p1, q1, rfl, rfl, rfl, h1, r1⟩ := trodAll_cons r0
  obtain ⟨v2, vs2, d2, ds2, p2, q2, rfl, rfl, rfl, h2, r2⟩ := trodAll_cons r1
  obtain ⟨rfl, rfl, rfl⟩ := trodAll_nil r2
  obtain rfl : args = #[v0, v1, v2] := by cases args; simp_all
  obtain ⟨rfl, rfl⟩ := trodVars_none hV
  have lt0 : ∀ x ∈ p0, x.block < W.heap.size := by obtain ⟨m, hm⟩ := h0; exact DataW.trod_lt m _ _ _ hm
  have lt1 : ∀ x ∈ p1, x.block < W.heap.size := by obtain ⟨m, hm⟩ := h1; exact DataW.trod_lt m _ _ _ hm
  have lt2 : ∀ x ∈ p2, x.block < W.heap.size := by obtain ⟨m, hm⟩ := h2; exact DataW.trod_lt m _ _ _ hm
  clear hA0 hval0
  obtain ⟨l0, rfl, hl0, hc0⟩ := open_cells (ts := [77, 3]) Tryz.underlying86 (by kernel_rfl) (by kernel_rfl) (hval 0 86 v0 rfl rfl)
  obtain ⟨c0_0, c0_1, rfl⟩ := len2 (show l0.length = 2 from hl0)
  obtain ⟨x0_0, b0_0, i0_0, a0_0, A0_0⟩ : ∃ (xs : List (List Int)) (bs : Nat → List Blk) (is : List Info) (av : Nat → Value), NArg W c0_0 (.list 1 (xs.map e_Li_)) bs is av := by
    obtain ⟨m0, hm0⟩ := h0
    obtain ⟨m1, z1, hm1⟩ := st_field (i := 0) Tryz.underlying86 rfl hm0
    have hm := hm1
    exact Rex.open_lists (F := fun x : List Int => .list 1 (x.map e_i)) Tryz.underlying77 (by kernel_rfl) (fun n c y hy => Rex.open_ints Tryz.underlying87 Tryz.underlying3 (by kernel_rfl) (fun _ => rfl) hy) hm
  obtain ⟨x0_1, rfl⟩ := okW_int Tryz.underlying3 (hc0 1 _ 3 rfl rfl)
  obtain ⟨l1, rfl, hl1, hc1⟩ := open_cells (ts := [3, 87, 3, 87, 87, 87]) Tryz.underlying93 (by kernel_rfl) (by kernel_rfl) (hval 1 93 v1 rfl rfl)
  obtain ⟨c1_0, c1_1, c1_2, c1_3, c1_4, c1_5, rfl⟩ := len6 (show l1.length = 6 from hl1)
  obtain ⟨x1_0, rfl⟩ := okW_int Tryz.underlying3 (hc1 0 _ 3 rfl rfl)
  have w1_1 := hc1 1 _ 87 rfl rfl
  obtain ⟨x1_1, b1_1, i1_1, a1_1, A1_1⟩ : ∃ (xs : List Int) (bs : List Blk) (is : List Info) (av : Nat → Value), Arg W c1_1 (.list 1 (xs.map e_i)) bs is av := by
    obtain ⟨m0, hm0⟩ := h1
    obtain ⟨m1, z1, hm1⟩ := st_field (i := 0) Tryz.underlying93 rfl hm0
    obtain ⟨m2, z2, hm2⟩ := st_field (i := 1) Tryz.underlying89 rfl hm1
    refine open_rowsC (g := fun (x : Int) => [.int .i64 x]) (by decide) (fun _ => rfl) (fun _ => rfl) (fun x c hc => ?_) Tryz.underlying87 (by kernel_rfl) w1_1 (fun n cs y hy hl => ?_) hm2
    · simp only [List.mem_cons, List.not_mem_nil, or_false] at hc
      subst hc; exact atomV_int _ _
    · obtain ⟨l, rfl⟩ := ((fun _ _ _ h => ai_int Tryz.underlying3 h) n cs y hy).list
      rw [List.length_map] at hl
      obtain ⟨y0, rfl⟩ := len1 hl
      exact ⟨y0, rfl⟩
  obtain ⟨x1_2, rfl⟩ := okW_int Tryz.underlying3 (hc1 2 _ 3 rfl rfl)
  have w1_3 := hc1 3 _ 87 rfl rfl
  obtain ⟨x1_3, b1_3, i1_3, a1_3, A1_3⟩ : ∃ (xs : List Int) (bs : List Blk) (is : List Info) (av : Nat → Value), Arg W c1_3 (.list 1 (xs.map e_i)) bs is av := by
    obtain ⟨m0, hm0⟩ := h1
    obtain ⟨m1, z1, hm1⟩ := st_field (i := 1) Tryz.underlying93 rfl hm0
    obtain ⟨m2, z2, hm2⟩ := st_field (i := 1) Tryz.underlying91 rfl hm1
    refine open_rowsC (g := fun (x : Int) => [.int .i64 x]) (by decide) (fun _ => rfl) (fun _ => rfl) (fun x c hc => ?_) Tryz.underlying87 (by kernel_rfl) w1_3 (fun n cs y hy hl => ?_) hm2
    · simp only [List.mem_cons, List.not_mem_nil, or_false] at hc
      subst hc; exact atomV_int _ _
    · obtain ⟨l, rfl⟩ := ((fun _ _ _ h => ai_int Tryz.underlying3 h) n cs y hy).list
      rw [List.length_map] at hl
      obtain ⟨y0, rfl⟩ := len1 hl
      exact ⟨y0, rfl⟩
  have w1_4 := hc1 4 _ 87 rfl rfl
  obtain ⟨x1_4, b1_4, i1_4, a1_4, A1_4⟩ : ∃ (xs : List Int) (bs : List Blk) (is : List Info) (av : Nat → Value), Arg W c1_4 (.list 1 (xs.map e_i)) bs is av := by
    obtain ⟨m0, hm0⟩ := h1
    obtain ⟨m1, z1, hm1⟩ := st_field (i := 1) Tryz.underlying93 rfl hm0
    obtain ⟨m2, z2, hm2⟩ := st_field (i := 2) Tryz.underlying91 rfl hm1
    refine open_rowsC (g := fun (x : Int) => [.int .i64 x]) (by decide) (fun _ => rfl) (fun _ => rfl) (fun x c hc => ?_) Tryz.underlying87 (by kernel_rfl) w1_4 (fun n cs y hy hl => ?_) hm2
    · simp only [List.mem_cons, List.not_mem_nil, or_false] at hc
      subst hc; exact atomV_int _ _
    · obtain ⟨l, rfl⟩ := ((fun _ _ _ h => ai_int Tryz.underlying3 h) n cs y hy).list
      rw [List.length_map] at hl
      obtain ⟨y0, rfl⟩ := len1 hl
      exact ⟨y0, rfl⟩
  have w1_5 := hc1 5 _ 87 rfl rfl
  obtain ⟨x1_5, b1_5, i1_5, a1_5, A1_5⟩ : ∃ (xs : List Int) (bs : List Blk) (is : List Info) (av : Nat → Value), Arg W c1_5 (.list 1 (xs.map e_i)) bs is av := by
    obtain ⟨m0, hm0⟩ := h1
    obtain ⟨m1, z1, hm1⟩ := st_field (i := 1) Tryz.underlying93 rfl hm0
    obtain ⟨m2, z2, hm2⟩ := st_field (i := 3) Tryz.underlying91 rfl hm1
    refine open_rowsC (g := fun (x : Int) => [.int .i64 x]) (by decide) (fun _ => rfl) (fun _ => rfl) (fun x c hc => ?_) Tryz.underlying87 (by kernel_rfl) w1_5 (fun n cs y hy hl => ?_) hm2
    · simp only [List.mem_cons, List.not_mem_nil, or_false] at hc
      subst hc; exact atomV_int _ _
    · obtain ⟨l, rfl⟩ := ((fun _ _ _ h => ai_int Tryz.underlying3 h) n cs y hy).list
      rw [List.length_map] at hl
      obtain ⟨y0, rfl⟩ := len1 hl
      exact ⟨y0, rfl⟩
  obtain ⟨x2, rfl⟩ := Rex.open_int Tryz.underlying3 (hval 2 3 v2 rfl rfl)
  have AA := NArgs.cons (NArg.ofArgs (NArgs.cons (A0_0) (NArgs.cons ((Arg.atom (atomV_int .i64 x0_1)).n) (NArgs.nil W)))) (NArgs.cons (NArg.ofArgs (NArgs.cons ((Arg.atom (atomV_int .i64 x1_0)).n) (NArgs.cons (A1_1.n) (NArgs.cons ((Arg.atom (atomV_int .i64 x1_2)).n) (NArgs.cons (A1_3.n) (NArgs.cons (A1_4.n) (NArgs.cons (A1_5.n) (NArgs.nil W)))))))) (NArgs.cons ((Arg.atom (atomV_int .i64 x2)).n) (NArgs.nil W)))
  have hc3 := listed_cells (P := Tryz.prog) (w := W) hL (n := "math/bits.deBruijn64tab") (d := Rows.laid_math_bits_deBruijn64tab) (.tail _ (.head _)) (g := 3) (t := 257) (cs := ghc3) (by kernel_rfl) (by kernel_rfl) (by kernel_rfl)
  have hc8 := listed_cells (P := Tryz.prog) (w := W) hL (n := "internal/strconv.uint64pow10") (d := Rows.laid_internal_strconv_uint64pow10) (.tail _ (.tail _ (.head _))) (g := 8) (t := 281) (cs := ghc8) (by kernel_rfl) (by kernel_rfl) (by kernel_rfl)
  have hgw : GW W := gw_all (show AllC W 0 ghCells from ⟨noCells, noCells, noCells, hc3, noCells, noCells, noCells, noCells, hc8, trivial⟩)
  have hgs : NG ≤ W.heap.size := by
    have := gh_size (hc8 0 _ rfl)
    rw [show NG = 9 from by kernel_rfl]
    omega
  refine (law07_ArrayClaims_law (claims_true x0_0 x0_1 x1_0 x1_1 x1_2 x1_3 x1_4 x1_5 x2) (fun n h => h) AA.vls (AA.rel hgw hgs) (Nat.le_refl _) AA.vrs).mono fun e W' ⟨he, bel⟩ => ?_
  subst he
  exact ⟨_, rfl, _, _, _, [], _, [], hW', trodAll_mk1 (shut_bool Tryz.underlying4 _), (trodAll_cons_mk (Below.trod laidOut (by kernel_rfl) (of_decide_eq_true (by kernel_rfl)) h0 bel lt0) (trodAll_cons_mk (Below.trod laidOut (by kernel_rfl) (of_decide_eq_true (by kernel_rfl)) h1 bel lt1) (trodAll_cons_mk (Below.trod laidOut (by kernel_rfl) (of_decide_eq_true (by kernel_rfl)) h2 bel lt2) trodAll_mk0))), rfl, bel.frame _, fun h => by cases h⟩
theorem over : Rows.arrayClaimsRow.holds Tryz.pinned (OpenSpec.ofChange Rows.arrayClaimsSpec) :=
  OpenClaim.holds_of_wide 10 Tryz.f10 rfl rfl rfl rfl rfl rfl rfl ⟨rfl, rfl, rfl, rfl, rfl⟩ rfl rfl rfl rfl rfl (by kernel_rfl) Tryz.func10 (by kernel_rfl)
    (of_decide_eq_true (by kernel_rfl)) (by unfold Func.isWrapper; first | (rw [if_pos (by decide +kernel)]; kernel_rfl) | (rw [if_neg (by decide +kernel)]; exact ⟨rfl, rfl⟩))
    (fun os started H enc _ => lifted os started H enc)
theorem proved : Rows.ArrayClaimsCardSaid :=
  Claim7.holds_tied_plain_at .later [] [.data, .data, .data, .data, .sentinel, .sentinel, .pinned] true (true, "1d1fd9411b62ebc537e1cfe24c30aaab22037fdf40891c6276f1122716f53824") true
    over (fun _ h => by cases h) (by kernel_rfl) (fun _ h => by cases h) arrayClaims_row_tie rfl ⟨rfl, rfl⟩ (by kernel_rfl) rfl
    (fun f fn hf hfn => by
      obtain rfl : f = 10 := Option.some.inj ((show Tryz.prog.funcNamed "shoebox/shoeboxlaw07.ArrayClaims" = some 10 by kernel_rfl).symm.trans hf) |>.symm
      obtain rfl : fn = Tryz.f10 := (Option.some.inj (Tryz.func10.symm.trans hfn)).symm
      exact ⟨by kernel_rfl, fun j t ht => by
        rw [Tryz.params10] at ht
        have hm : t ∈ [86, 93, 3] := by simpa using Array.mem_of_getElem? ht
        have hall : ([86, 93, 3].all fun u => !Tryz.prog.wantsStandIn u) = true := by kernel_rfl
        exact (show Tryz.prog.wantsStandIn t = false by simpa using List.all_eq_true.1 hall t hm)⟩)
    (by kernel_rfl)
end Go.Proofs.YtpjccpokiaefjaaGreatDoor.arrayClaims
