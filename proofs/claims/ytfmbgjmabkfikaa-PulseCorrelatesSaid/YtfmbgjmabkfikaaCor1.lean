import Derived.Test.YtfmbgjmabkfikaaCond4
namespace Go.Proofs.Ytfmbgjmabkfikaa
open Go Go.Rex
set_option maxRecDepth 100000
attribute [local simp] runCall exec runOps Region.wanted pop ev nth putL orGen fastBin liftE regOk opsOk Op.operands opndOk isClean depth clean runEnd takeDefers resAll resV oneOf wmin_n1 wmin_n2 wmin_ss wge_n wge_s bhop List.set List.replicate bpop Call.operands lenV seqQ blockQ drawAll drawStep drawHeap_ext Ext.refl Ext.app xop hop slots List.map xcall_eq yielded genP_neg genP_not
/-- the error of two lists and a lag -/
def corErr (xs ys : List Int) (lag : Int) : List Int :=
  [if (decide (xs.length = 0) || !decide (ys.length = xs.length)) = true then 10 else 0, if decide (1024 < xs.length) = true then 8 else 0, firstE (xs.map (bigE 16777216)), firstE (ys.map (bigE 16777216)), if -1000000000 ≤ lag ∧ lag ≤ 1000000000 then 0 else 2]
/-- the sum -/
def corSum (xs ys : List Int) (lag : Int) : Nat → Int
  | 0 => 0
  | k + 1 => IntKind.i64.wrap (corSum xs ys lag k + IntKind.i64.wrap (xs[k]?.getD 0 * ys[(((k : Int) + lag) % (ys.length : Int)).toNat]?.getD 0))

theorem corr_conds (xs ys : List Int) (u v : Value) (lag : Int) (h : List Blk) (hu : SlV h u xs) (hv : SlV h v ys) (hlx : xs.length < 1000000) (hly : ys.length < 1000000) :
    ∃ c1 c2 c3 c4 c5 H1 H2 H3 H4 H5 H6, (lim Try.prog).call 77 [.bool (decide (xs.length = 0) || !decide (ys.length = xs.length)), .int .i64 10] h = some (c1, H1, none) ∧ (lim Try.prog).call 77 [.bool (decide (1024 < xs.length)), .int .i64 8] H1 = some (c2, H2, none) ∧
      (lim Try.prog).call 90 [u, .int .i64 16777216] H2 = some (c3, H3, none) ∧ (lim Try.prog).call 90 [v, .int .i64 16777216] H3 = some (c4, H4, none) ∧ (lim Try.prog).call 74 [.int .i64 lag, .int .i64 (-1000000000), .int .i64 1000000000] H4 = some (c5, H5, none) ∧
      buildSliceV Try.prog 166 5 #[(0, c1), (1, c2), (2, c3), (3, c4), (4, c5)] H5 = some (.slice (some ⟨H5.length, 0, none⟩) 5 5, H6) ∧ (lim Try.prog).call 71 [.slice (some ⟨H5.length, 0, none⟩) 5 5] H6 = some (.int .i64 (firstE (corErr xs ys lag)), H6, none) ∧ Ext h H6 := by
  obtain ⟨c1, H1, f1, x1, k1⟩ := refuse_call (decide (xs.length = 0) || !decide (ys.length = xs.length)) 10 h
  obtain ⟨c2, H2, f2, x2, k2⟩ := refuse_call (decide (1024 < xs.length)) 8 H1
  have y2 := x1.trans x2
  obtain ⟨c3, H3, f3, x3, k3⟩ := allSmall_call xs u 16777216 H2 (by omega) (by omega) (hu.ext y2)
  have y3 := y2.trans x3
  obtain ⟨c4, H4, f4, x4, k4⟩ := allSmall_call ys v 16777216 H3 (by omega) (by omega) (hv.ext y3)
  have y4 := y3.trans x4
  obtain ⟨c5, H5, f5, x5, k5⟩ := within_call lag (-1000000000) 1000000000 H4
  have y5 := y4.trans x5
  have y6 := y5.trans (Ext.app _ [Blk.cells 1 [c1, c2, c3, c4, c5]])
  have f6 := bs166 c1 c2 c3 c4 c5 H5 k1.cells k2.cells k3.cells k4.cells k5.cells
  have f7 : (lim Try.prog).call 71 [.slice (some ⟨H5.length, 0, none⟩) 5 5] (H5 ++ [Blk.cells 1 [c1, c2, c3, c4, c5]]) = some (.int .i64 (firstE (corErr xs ys lag)), H5 ++ [Blk.cells 1 [c1, c2, c3, c4, c5]], none) := by
    refine firstError_call (corErr xs ys lag) _ _ (by simp [corErr]) ⟨_, _, 1, [c1, c2, c3, c4, c5], rfl, by simp, ?_⟩
    have hx6 := Ext.app H5 [Blk.cells 1 [c1, c2, c3, c4, c5]]
    have g1 := k1.ext (x2.trans (x3.trans (x4.trans (x5.trans hx6))))
    have g2 := k2.ext (x3.trans (x4.trans (x5.trans hx6)))
    have g3 := k3.ext (x4.trans (x5.trans hx6))
    have g4 := k4.ext (x5.trans hx6)
    have g5 := k5.ext hx6
    unfold corErr
    generalize (if (decide (xs.length = 0) || !decide (ys.length = xs.length)) = true then (10 : Int) else 0) = q1 at g1 ⊢
    generalize (if decide (1024 < xs.length) = true then (8 : Int) else 0) = q2 at g2 ⊢
    generalize firstE (xs.map (bigE 16777216)) = q3 at g3 ⊢
    generalize firstE (ys.map (bigE 16777216)) = q4 at g4 ⊢
    generalize (if -1000000000 ≤ lag ∧ lag ≤ 1000000000 then (0 : Int) else 2) = q5 at g5 ⊢
    intro i e he
    match i, he with
    | 0, he => exact ⟨c1, rfl, by obtain rfl := Option.some.inj he; exact g1⟩
    | 1, he => exact ⟨c2, rfl, by obtain rfl := Option.some.inj he; exact g2⟩
    | 2, he => exact ⟨c3, rfl, by obtain rfl := Option.some.inj he; exact g3⟩
    | 3, he => exact ⟨c4, rfl, by obtain rfl := Option.some.inj he; exact g4⟩
    | 4, he => exact ⟨c5, rfl, by obtain rfl := Option.some.inj he; exact g5⟩
    | n + 5, he => simp at he
  exact ⟨c1, c2, c3, c4, c5, H1, H2, H3, H4, H5, _, f1, f2, f3, f4, f5, f6, f7, y6⟩


end Go.Proofs.Ytfmbgjmabkfikaa
