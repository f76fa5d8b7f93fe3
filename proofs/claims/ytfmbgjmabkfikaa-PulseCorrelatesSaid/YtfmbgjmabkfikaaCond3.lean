import Derived.Test.YtfmbgjmabkfikaaCond2
namespace Go.Proofs.Ytfmbgjmabkfikaa
open Go Go.Rex
set_option maxRecDepth 100000
attribute [local simp] runCall exec runOps Region.wanted pop ev nth putL orGen fastBin liftE regOk opsOk Op.operands opndOk isClean depth clean runEnd takeDefers resAll resV oneOf wmin_n1 wmin_n2 wmin_ss wge_n wge_s bhop List.set List.replicate bpop Call.operands lenV seqQ blockQ drawAll drawStep drawHeap_ext Ext.refl Ext.app xop hop slots List.map xcall_eq yielded genP_neg genP_not
theorem info3 : (Try.prog.info? 3).isSome = true := by decide +kernel
theorem cellsOf3 : Try.prog.cellsOf 3 = 1 := by decide +kernel
/-- a slice that reads as a list -/
def SlV (h : List Blk) (v : Value) (xs : List Int) : Prop :=
  (v = .slice none 0 0 ∧ xs = []) ∨ ∃ n o c es cs, v = .slice (some ⟨n, o, none⟩) xs.length c ∧ h[n]? = some (.cells es cs) ∧ o + xs.length ≤ cs.length ∧ ∀ i x, xs[i]? = some x → cs[o + i]? = some (.int .i64 x)
theorem SlV.len {h : List Blk} {v : Value} {xs : List Int} (hs : SlV h v xs) : ∃ a c, v = .slice a xs.length c := by
  rcases hs with ⟨rfl, rfl⟩ | ⟨n, o, c, es, cs, rfl, _⟩
  · exact ⟨_, _, rfl⟩
  · exact ⟨_, _, rfl⟩
theorem SlV.ext {h h' : List Blk} {v : Value} {xs : List Int} (hs : SlV h v xs) (hx : Ext h h') : SlV h' v xs := by
  rcases hs with ⟨rfl, rfl⟩ | ⟨n, o, c, es, cs, rfl, hb, hle, hc⟩
  · exact .inl ⟨rfl, rfl⟩
  · exact .inr ⟨n, o, c, es, cs, rfl, hx.at hb, hle, hc⟩
/-- an element -/
theorem SlV.at {h : List Blk} {v : Value} {xs : List Int} (hs : SlV h v xs) {i : Nat} {x : Int} (hx : xs[i]? = some x) : ∃ n o, indexAddrV Try.prog 22 v (.int .i64 i) = some (.pointer (some ⟨n, o, none⟩)) ∧ loadV Try.prog 3 h n o = some (.int .i64 x) := by
  rcases hs with ⟨rfl, rfl⟩ | ⟨n, o, c, es, cs, rfl, hb, hle, hc⟩
  · simp at hx
  · have hi : i < xs.length := (List.getElem?_eq_some_iff.1 hx).1
    refine ⟨n, o + i, ?_, load1 agg3 hb (hc i x hx)⟩
    simp [indexAddrV, hi, info3, cellsOf3, Try.underlying22]

/-- too great -/
def bigE (most x : Int) : Int := if -most ≤ x ∧ x ≤ most then 0 else 2
theorem allSmall_call (xs : List Int) (v : Value) (most : Int) (h : List Blk) (hn : xs.length < 1000000000) (hm : 0 ≤ most ∧ most < 1000000000000) (hv : SlV h v xs) : ∃ c h', (lim Try.prog).call 90 [v, .int .i64 most] h = some (c, h', none) ∧ Ext h h' ∧ Cond h' c (firstE (xs.map (bigE most))) := by
  obtain ⟨a, cp, rfl⟩ := hv.len
  -- the family
  have fam : CondI (h ++ [Blk.cells (esOf Try.prog 22) (Value.slice a xs.length cp).cells.toList, Blk.cells (esOf Try.prog 3) (Value.int .i64 most).cells.toList]) (.func (.func 146) #[] #[.pointer (some ⟨h.length, 0, none⟩), .pointer (some ⟨h.length + 1, 0, none⟩)]) xs.length (fun i => bigE most (xs[i]?.getD 0)) := by
    refine ⟨146, _, rfl, rfl, goFn146, ?_⟩
    intro h' hx i hi
    have hv' := hv.ext ((Ext.app _ _).trans hx)
    obtain ⟨n1, o1, i1, ld⟩ := hv'.at (List.getElem?_eq_getElem hi)
    have l1 : loadV Try.prog 22 h' h.length 0 = some (Value.slice a xs.length cp) := by simp [loadV, agg22, readCells, hx.at, Value.cells]
    have l2 : loadV Try.prog 3 h' (h.length + 1) 0 = some (.int .i64 most) := by simp [loadV, agg3, readCells, hx.at, Value.cells]
    have ew : IntKind.i64.wrap (-most) = -most := IntWalk.i64_in _ (by omega)
    obtain ⟨c1, h1, e1, x1, k1⟩ := within_call xs[i] (-most) most h'
    obtain ⟨g, caps, rfl, hcl, hg, hcall⟩ := k1
    have e2 := hcall h1 (Ext.refl _)
    apply pure_fun Try.func146 rfl
    (focus (simp [Try.f146] <;> exact rfl))
    repeat (first | with_reducible refine XP.seq ?_ | with_reducible refine XP.block ?_ | with_reducible refine XP.skip ?_ | with_reducible refine XP.exit ?_ | with_reducible refine XP.ret ?_ | with_reducible refine seqQ_n ?_ | with_reducible refine seqQ_e ?_ | with_reducible refine seqQ_r ?_ | with_reducible refine blockQ_n ?_ | with_reducible refine blockQ_r ?_ | with_reducible refine blockQ_e ?_ | with_reducible refine blockQ_ne rfl ?_ | with_reducible refine RO.nil ?_ | with_reducible refine RD.nil rfl ?_ | ((with_reducible apply RO.pop); (focus (first | rfl | (simp [l1, l2, i1, ld, ew, goFn74, e1, hg, e2, x1]; done))); (focus (simp [] <;> exact rfl)); (focus (dsimp only [putL, List.set, slots] <;> exact rfl))) | ((with_reducible apply RO.act); (focus (first | rfl | (simp [l1, l2, i1, ld, ew, goFn74, e1, hg, e2, x1]; done))); (focus rfl); (focus (simp [l1, l2, i1, ld, ew, goFn74, e1, hg, e2, x1] <;> exact ⟨rfl, rfl, rfl⟩)); (focus (first | rfl | simp)); (focus (dsimp only [putL, List.set, slots] <;> exact rfl))) | ((with_reducible apply RO.skip); (focus (simp [l1, l2, i1, ld, ew, goFn74, e1, hg, e2, x1]; done)); (focus (dsimp only [putL, List.set, slots] <;> exact rfl))) | ((with_reducible apply RD.pop); (focus (first | rfl | (simp [l1, l2, i1, ld, ew, goFn74, e1, hg, e2, x1]; done))); (focus (simp [i1, ew] <;> exact rfl)); (focus (dsimp only [putL, List.set, slots] <;> exact rfl))) | ((with_reducible apply RD.act); (focus (first | rfl | (simp [l1, l2, i1, ld, ew, goFn74, e1, hg, e2, x1]; done))); (focus rfl); (focus (simp [l1, l2, ld, goFn74, e1, hg, e2] <;> exact ⟨rfl, rfl⟩)); (focus (simp [x1]; done)); (focus (dsimp only [putL, List.set, slots] <;> exact rfl))) | ((with_reducible apply RD.skip); (focus (simp [l1, l2, i1, ld, ew, goFn74, e1, hg, e2, x1]; done)); (focus (dsimp only [putL, List.set, slots] <;> exact rfl))) | ((with_reducible apply XP.region); (focus (simp only [] <;> exact rfl)); (focus rfl); dsimp only) | ((with_reducible apply XP.drawn); (focus decide +kernel); (focus (simp only [] <;> exact rfl)); (focus exact rfl); dsimp only) | ((with_reducible apply XP.cond_true); (focus rfl); (focus (simp [l1, l2, i1, ld, ew, goFn74, e1, hg, e2, x1]; first | done | omega))) | ((with_reducible apply XP.cond_false); (focus rfl); (focus (simp [l1, l2, i1, ld, ew, goFn74, e1, hg, e2, x1]; first | done | omega))) | fail)
    exact ⟨.inr rfl, rfl, _, rfl, rfl, by simp [bigE, List.getElem?_eq_getElem hi]⟩
  obtain ⟨c1, h1, e1, x1, k1⟩ := each_call xs.length _ _ _ hn fam
  have em : (List.range xs.length).map (fun i => bigE most (xs[i]?.getD 0)) = xs.map (bigE most) := by
    apply List.ext_getElem
    · simp
    · intro i h1 h2
      have : i < xs.length := by simpa using h1
      simp [this]
  rw [em] at k1
  apply name_fun Try.func90 rfl
  (focus (simp [Try.f90] <;> exact rfl))
  have l1 : loadV Try.prog 22 (h ++ [Blk.cells (esOf Try.prog 22) (Value.slice a xs.length cp).cells.toList, Blk.cells (esOf Try.prog 3) (Value.int .i64 most).cells.toList]) h.length 0 = some (Value.slice a xs.length cp) := by simp [loadV, agg22, readCells, Value.cells]
  repeat (first | with_reducible refine XP.seq ?_ | with_reducible refine XP.block ?_ | with_reducible refine XP.skip ?_ | with_reducible refine XP.exit ?_ | with_reducible refine XP.ret ?_ | with_reducible refine seqQ_n ?_ | with_reducible refine seqQ_e ?_ | with_reducible refine seqQ_r ?_ | with_reducible refine blockQ_n ?_ | with_reducible refine blockQ_r ?_ | with_reducible refine blockQ_e ?_ | with_reducible refine blockQ_ne rfl ?_ | with_reducible refine RO.nil ?_ | with_reducible refine RD.nil rfl ?_ | ((with_reducible apply RO.pop); (focus (first | rfl | (simp [l1, e1, goFn129]; done))); (focus (simp [] <;> exact rfl)); (focus (dsimp only [putL, List.set, slots] <;> exact rfl))) | ((with_reducible apply RO.act); (focus (first | rfl | (simp [l1, e1, goFn129]; done))); (focus rfl); (focus (simp [l1, e1, goFn129] <;> exact ⟨rfl, rfl, rfl⟩)); (focus (first | rfl | simp)); (focus (dsimp only [putL, List.set, slots] <;> exact rfl))) | ((with_reducible apply RO.skip); (focus (simp [l1, e1, goFn129]; done)); (focus (dsimp only [putL, List.set, slots] <;> exact rfl))) | ((with_reducible apply RD.pop); (focus (first | rfl | (simp [l1, e1, goFn129]; done))); (focus (simp [l1, e1, goFn129] <;> exact rfl)); (focus (dsimp only [putL, List.set, slots] <;> exact rfl))) | ((with_reducible apply RD.act); (focus (first | rfl | (simp [l1, e1, goFn129]; done))); (focus rfl); (focus (simp [l1, e1, goFn129] <;> exact ⟨rfl, rfl⟩)); (focus (simp [l1, e1, goFn129]; done)); (focus (dsimp only [putL, List.set, slots] <;> exact rfl))) | ((with_reducible apply RD.skip); (focus (simp [l1, e1, goFn129]; done)); (focus (dsimp only [putL, List.set, slots] <;> exact rfl))) | ((with_reducible apply XP.region); (focus (simp only [] <;> exact rfl)); (focus rfl); dsimp only) | ((with_reducible apply XP.drawn); (focus decide +kernel); (focus (simp only [List.toList_toArray] <;> exact rfl)); (focus exact rfl); dsimp only) | ((with_reducible apply XP.cond_true); (focus rfl); (focus (simp [l1, e1, goFn129]; first | done | omega))) | ((with_reducible apply XP.cond_false); (focus rfl); (focus (simp [l1, e1, goFn129]; first | done | omega))) | fail)
  exact ⟨.inr rfl, rfl, _, rfl, k1.clean, (Ext.app _ _).trans x1, k1⟩


end Go.Proofs.Ytfmbgjmabkfikaa
