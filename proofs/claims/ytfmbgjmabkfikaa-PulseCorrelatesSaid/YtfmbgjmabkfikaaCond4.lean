import Derived.Test.YtfmbgjmabkfikaaCond3
namespace Go.Proofs.Ytfmbgjmabkfikaa
open Go Go.Rex
set_option maxRecDepth 100000
attribute [local simp] runCall exec runOps Region.wanted pop ev nth putL orGen fastBin liftE regOk opsOk Op.operands opndOk isClean depth clean runEnd takeDefers resAll resV oneOf wmin_n1 wmin_n2 wmin_ss wge_n wge_s bhop List.set List.replicate bpop Call.operands lenV seqQ blockQ drawAll drawStep drawHeap_ext Ext.refl Ext.app xop hop slots List.map xcall_eq yielded genP_neg genP_not
theorem goFn90 : goFn Try.prog 90 = true := by decide +kernel
theorem goFn77' : goFn Try.prog 77 = true := by decide +kernel
theorem goFn71 : goFn Try.prog 71 = true := by decide +kernel
theorem goFn91 : goFn Try.prog 91 = true := by decide +kernel
theorem agg116 : aggB Try.prog 116 = some false := by decide +kernel
theorem cellsOf116 : Try.prog.cellsOf 116 = 1 := by decide +kernel
theorem info116 : (Try.prog.info? 116).isSome = true := by decide +kernel
/-- conditions in a row -/
def CondsV (h : List Blk) (v : Value) (es : List Int) : Prop :=
  ∃ n c z, ∃ cs : List Value, v = .slice (some ⟨n, 0, none⟩) es.length c ∧ h[n]? = some (.cells z cs) ∧ ∀ (i : Nat) e, es[i]? = some e → ∃ f, cs[i]? = some f ∧ Cond h f e
theorem firstError_call (es : List Int) (v : Value) (h : List Blk) (hn : es.length < 1000000000) (hv : CondsV h v es) : (lim Try.prog).call 71 [v] h = some (.int .i64 (firstE es), h, none) := by
  obtain ⟨n, c, z, cs, rfl, hb, hc⟩ := hv
  apply pure_fun Try.func71 rfl
  (focus (simp [Try.f71] <;> exact rfl))
  repeat (first | with_reducible refine XP.seq ?_ | with_reducible refine XP.block ?_ | with_reducible refine XP.skip ?_ | with_reducible refine XP.exit ?_ | with_reducible refine XP.ret ?_ | with_reducible refine seqQ_n ?_ | with_reducible refine seqQ_e ?_ | with_reducible refine seqQ_r ?_ | with_reducible refine blockQ_n ?_ | with_reducible refine blockQ_r ?_ | with_reducible refine blockQ_e ?_ | with_reducible refine blockQ_ne rfl ?_ | with_reducible refine RO.nil ?_ | with_reducible refine RD.nil rfl ?_ | ((with_reducible apply RO.pop); (focus (first | rfl | (simp; done))); (focus (simp <;> exact rfl)); (focus (dsimp only [putL, List.set, slots] <;> exact rfl))) | ((with_reducible apply RO.act); (focus (first | rfl | (simp; done))); (focus rfl); (focus (simp <;> exact ⟨rfl, rfl, rfl⟩)); (focus (first | rfl | simp)); (focus (dsimp only [putL, List.set, slots] <;> exact rfl))) | ((with_reducible apply RO.skip); (focus (simp; done)); (focus (dsimp only [putL, List.set, slots] <;> exact rfl))) | ((with_reducible apply RD.pop); (focus (first | rfl | (simp; done))); (focus (simp <;> exact rfl)); (focus (dsimp only [putL, List.set, slots] <;> exact rfl))) | ((with_reducible apply RD.act); (focus (first | rfl | (simp; done))); (focus rfl); (focus (simp <;> exact ⟨rfl, rfl⟩)); (focus (simp; done)); (focus (dsimp only [putL, List.set, slots] <;> exact rfl))) | ((with_reducible apply RD.skip); (focus (simp; done)); (focus (dsimp only [putL, List.set, slots] <;> exact rfl))) | ((with_reducible apply XP.region); (focus (simp only [] <;> exact rfl)); (focus rfl); dsimp only) | ((with_reducible apply XP.drawn); (focus decide +kernel); (focus (simp only [List.toList_toArray] <;> exact rfl)); (focus exact rfl); dsimp only) | ((with_reducible apply XP.cond_true); (focus rfl); (focus (simp; first | done | omega))) | ((with_reducible apply XP.cond_false); (focus rfl); (focus (simp; first | done | omega))) | fail)
  refine XP.count es.length (fun k a h2 => h2 = h ∧ a.df = [] ∧ a.tm.length = 18 ∧ nth a.tm 6 = .slice (some ⟨n, 0, none⟩) es.length c ∧ nth a.tm 7 = .int .i64 es.length ∧ nth a.tm 8 = .int .i64 k ∧ firstE es = firstE (es.drop k)) ⟨rfl, rfl, rfl, rfl, rfl, rfl, rfl⟩ ?_
  rintro k ⟨tm, df⟩ h2 hk ⟨rfl, rfl, hlen, h6, h7, h8, hE⟩
  simp only at hlen h6 h7 h8
  obtain ⟨j, rfl⟩ := expl hlen
  simp at h6 h7 h8
  simp only [slots, Nat.reduceAdd, h6, h7, h8]
  by_cases hkn : k < es.length
  · have hd := firstE_drop hkn
    obtain ⟨f, hf, hcond⟩ := hc k es[k] (List.getElem?_eq_getElem hkn)
    obtain ⟨g, caps, rfl, hcl, hg, hcall⟩ := hcond
    have i1 : indexAddrV Try.prog 166 (.slice (some ⟨n, 0, none⟩) es.length c) (.int .i64 k) = some (.pointer (some ⟨n, k, none⟩)) := by
      simp [indexAddrV, hkn, info116, cellsOf116, Try.underlying166]
    have l1 : loadV Try.prog 116 h2 n k = some (.func (.func g) #[] ⟨caps⟩) := load1 agg116 hb hf
    have e2 := hcall h2 (Ext.refl _)
    have ew : IntKind.i64.wrap ((k : Int) + 1) = ((k + 1 : Nat) : Int) := by rw [IntWalk.i64_in _ (by omega)]; omega
    by_cases he : es[k] = 0
    · rw [he] at e2
      repeat (first | with_reducible refine XP.seq ?_ | with_reducible refine XP.block ?_ | with_reducible refine XP.skip ?_ | with_reducible refine XP.exit ?_ | with_reducible refine XP.ret ?_ | with_reducible refine seqQ_n ?_ | with_reducible refine seqQ_e ?_ | with_reducible refine seqQ_r ?_ | with_reducible refine blockQ_n ?_ | with_reducible refine blockQ_r ?_ | with_reducible refine blockQ_e ?_ | with_reducible refine blockQ_ne rfl ?_ | with_reducible refine RO.nil ?_ | with_reducible refine RD.nil rfl ?_ | ((with_reducible apply RO.pop); (focus (first | rfl | (simp [h6, h7, h8, l1, i1, hkn, e2, hg, he, ew]; done))); (focus (simp [i1, hkn, ew] <;> exact rfl)); (focus (dsimp only [putL, List.set, slots] <;> exact rfl))) | ((with_reducible apply RO.act); (focus (first | rfl | (simp [h6, h7, h8, l1, i1, hkn, e2, hg, he, ew]; done))); (focus rfl); (focus (simp [l1, e2, hg] <;> exact ⟨rfl, rfl, rfl⟩)); (focus (first | rfl | simp)); (focus (dsimp only [putL, List.set, slots] <;> exact rfl))) | ((with_reducible apply RO.skip); (focus (simp [h6, h7, h8, l1, i1, hkn, e2, hg, he, ew]; done)); (focus (dsimp only [putL, List.set, slots] <;> exact rfl))) | ((with_reducible apply RD.pop); (focus (first | rfl | (simp [h6, h7, h8, l1, i1, hkn, e2, hg, he, ew]; done))); (focus (simp [h6, h7, h8, l1, i1, hkn, e2, hg, he, ew] <;> exact rfl)); (focus (dsimp only [putL, List.set, slots] <;> exact rfl))) | ((with_reducible apply RD.act); (focus (first | rfl | (simp [h6, h7, h8, l1, i1, hkn, e2, hg, he, ew]; done))); (focus rfl); (focus (simp [h6, h7, h8, l1, i1, hkn, e2, hg, he, ew] <;> exact ⟨rfl, rfl⟩)); (focus (simp [h6, h7, h8, l1, i1, hkn, e2, hg, he, ew]; done)); (focus (dsimp only [putL, List.set, slots] <;> exact rfl))) | ((with_reducible apply RD.skip); (focus (simp [h6, h7, h8, l1, i1, hkn, e2, hg, he, ew]; done)); (focus (dsimp only [putL, List.set, slots] <;> exact rfl))) | ((with_reducible apply XP.region); (focus (simp only [] <;> exact rfl)); (focus rfl); dsimp only) | ((with_reducible apply XP.drawn); (focus decide +kernel); (focus (simp only [List.toList_toArray] <;> exact rfl)); (focus exact rfl); dsimp only) | ((with_reducible apply XP.cond_true); (focus rfl); (focus (simp []; first | done | omega))) | ((with_reducible apply XP.cond_false); (focus rfl); (focus (simp []; first | done | omega))) | fail)
      refine ⟨hkn, rfl, rfl, rfl, rfl, rfl, by simp, ?_⟩
      rw [hE, hd, if_pos he]
    · repeat (first | with_reducible refine XP.seq ?_ | with_reducible refine XP.block ?_ | with_reducible refine XP.skip ?_ | with_reducible refine XP.exit ?_ | with_reducible refine XP.ret ?_ | with_reducible refine seqQ_n ?_ | with_reducible refine seqQ_e ?_ | with_reducible refine seqQ_r ?_ | with_reducible refine blockQ_n ?_ | with_reducible refine blockQ_r ?_ | with_reducible refine blockQ_e ?_ | with_reducible refine blockQ_ne rfl ?_ | with_reducible refine RO.nil ?_ | with_reducible refine RD.nil rfl ?_ | ((with_reducible apply RO.pop); (focus (first | rfl | (simp [h6, h7, h8, l1, i1, hkn, e2, hg, he, ew]; done))); (focus (simp [i1, hkn, he] <;> exact rfl)); (focus (dsimp only [putL, List.set, slots] <;> exact rfl))) | ((with_reducible apply RO.act); (focus (first | rfl | (simp [h6, h7, h8, l1, i1, hkn, e2, hg, he, ew]; done))); (focus rfl); (focus (simp [l1, e2, hg] <;> exact ⟨rfl, rfl, rfl⟩)); (focus (first | rfl | simp)); (focus (dsimp only [putL, List.set, slots] <;> exact rfl))) | ((with_reducible apply RO.skip); (focus (simp [h6, h7, h8, l1, i1, hkn, e2, hg, he, ew]; done)); (focus (dsimp only [putL, List.set, slots] <;> exact rfl))) | ((with_reducible apply RD.pop); (focus (first | rfl | (simp [h6, h7, h8, l1, i1, hkn, e2, hg, he, ew]; done))); (focus (simp [h6, h7, h8, l1, i1, hkn, e2, hg, he, ew] <;> exact rfl)); (focus (dsimp only [putL, List.set, slots] <;> exact rfl))) | ((with_reducible apply RD.act); (focus (first | rfl | (simp [h6, h7, h8, l1, i1, hkn, e2, hg, he, ew]; done))); (focus rfl); (focus (simp [h6, h7, h8, l1, i1, hkn, e2, hg, he, ew] <;> exact ⟨rfl, rfl⟩)); (focus (simp [h6, h7, h8, l1, i1, hkn, e2, hg, he, ew]; done)); (focus (dsimp only [putL, List.set, slots] <;> exact rfl))) | ((with_reducible apply RD.skip); (focus (simp [h6, h7, h8, l1, i1, hkn, e2, hg, he, ew]; done)); (focus (dsimp only [putL, List.set, slots] <;> exact rfl))) | ((with_reducible apply XP.region); (focus (simp only [] <;> exact rfl)); (focus rfl); dsimp only) | ((with_reducible apply XP.drawn); (focus decide +kernel); (focus (simp only [List.toList_toArray] <;> exact rfl)); (focus exact rfl); dsimp only) | ((with_reducible apply XP.cond_true); (focus rfl); (focus (simp []; first | done | omega))) | ((with_reducible apply XP.cond_false); (focus rfl); (focus (simp [h6, h7, h8, l1, i1, hkn, e2, hg, he, ew]; first | done | omega))) | fail)
      refine ⟨.inr rfl, rfl, _, rfl, rfl, ?_⟩
      rw [hE, hd, if_neg he]
      rfl
  · repeat (first | with_reducible refine XP.seq ?_ | with_reducible refine XP.block ?_ | with_reducible refine XP.skip ?_ | with_reducible refine XP.exit ?_ | with_reducible refine XP.ret ?_ | with_reducible refine seqQ_n ?_ | with_reducible refine seqQ_e ?_ | with_reducible refine seqQ_r ?_ | with_reducible refine blockQ_n ?_ | with_reducible refine blockQ_r ?_ | with_reducible refine blockQ_e ?_ | with_reducible refine blockQ_ne rfl ?_ | with_reducible refine RO.nil ?_ | with_reducible refine RD.nil rfl ?_ | ((with_reducible apply RO.pop); (focus (first | rfl | (simp [h6, h7, h8, hkn]; done))); (focus (simp [hkn] <;> exact rfl)); (focus (dsimp only [putL, List.set, slots] <;> exact rfl))) | ((with_reducible apply RO.act); (focus (first | rfl | (simp [h6, h7, h8, hkn]; done))); (focus rfl); (focus (simp [h6, h7, h8, hkn] <;> exact ⟨rfl, rfl, rfl⟩)); (focus (first | rfl | simp)); (focus (dsimp only [putL, List.set, slots] <;> exact rfl))) | ((with_reducible apply RO.skip); (focus (simp [h6, h7, h8, hkn]; done)); (focus (dsimp only [putL, List.set, slots] <;> exact rfl))) | ((with_reducible apply RD.pop); (focus (first | rfl | (simp [h6, h7, h8, hkn]; done))); (focus (simp [h6, h7, h8, hkn] <;> exact rfl)); (focus (dsimp only [putL, List.set, slots] <;> exact rfl))) | ((with_reducible apply RD.act); (focus (first | rfl | (simp [h6, h7, h8, hkn]; done))); (focus rfl); (focus (simp [h6, h7, h8, hkn] <;> exact ⟨rfl, rfl⟩)); (focus (simp [h6, h7, h8, hkn]; done)); (focus (dsimp only [putL, List.set, slots] <;> exact rfl))) | ((with_reducible apply RD.skip); (focus (simp [h6, h7, h8, hkn]; done)); (focus (dsimp only [putL, List.set, slots] <;> exact rfl))) | ((with_reducible apply XP.region); (focus (simp only [] <;> exact rfl)); (focus rfl); dsimp only) | ((with_reducible apply XP.drawn); (focus decide +kernel); (focus (simp only [List.toList_toArray] <;> exact rfl)); (focus exact rfl); dsimp only) | ((with_reducible apply XP.cond_true); (focus rfl); (focus (simp []; first | done | omega))) | ((with_reducible apply XP.cond_false); (focus rfl); (focus (simp []; first | done | omega))) | fail)
    refine ⟨.inr rfl, rfl, _, rfl, rfl, ?_⟩
    rw [hE, List.drop_of_length_le (by simpa using hkn)]
    rfl

theorem modulo_call (n b : Int) (h : List Blk) (hb : 0 < b) (hb2 : b < 1000000000) : (lim Try.prog).call 91 [.int .i64 n, .int .i64 b] h = some (.int .i64 (n % b), h, none) := by
  refine lim_runCall (K := 20) ?_
  have hb' : b ≠ 0 := by omega
  have e1 : IntKind.i64.wrap (n.tmod b + b) = n.tmod b + b := IntWalk.i64_in _ (by
    have := Int.tmod_lt_of_pos n hb
    have := Int.lt_tmod_of_pos n hb
    omega)
  have e2 : (n.tmod b + b).tmod b = n % b := by
    have h1 := Int.lt_tmod_of_pos n hb
    rw [Int.tmod_eq_emod_of_nonneg (by omega), Int.add_emod_right]
    rw [Int.tmod_eq_emod]
    split
    · simp
    · rw [show ((b.natAbs : Nat) : Int) = b by omega, Int.sub_emod, Int.emod_self]
      simp
  simp [Try.f91, hb', e1, e2]

theorem Cond.cells {h : List Blk} {c : Value} {e : Int} (hc : Cond h c e) : c.cells = #[c] := by
  obtain ⟨_, _, rfl, _⟩ := hc
  rfl
theorem zero116 : zeroOf Try.prog 116 5 = some #[.nilFunc] := by
  have hb : (match Try.prog.info? 116 with | some i => (match i.zero with | some .nilFunc => true | _ => false) | none => false) = true := by decide +kernel
  unfold zeroOf
  rw [if_neg (by decide)]
  split at hb
  · rename_i i hi
    rw [hi]
    split at hb
    · rename_i hz
      simp only [hz]
      rfl
    · cases hb
  · cases hb
theorem bs166 (c1 c2 c3 c4 c5 : Value) (h : List Blk) (h1 : c1.cells = #[c1]) (h2 : c2.cells = #[c2]) (h3 : c3.cells = #[c3]) (h4 : c4.cells = #[c4]) (h5 : c5.cells = #[c5]) :
   buildSliceV Try.prog 166 5 #[(0, c1), (1, c2), (2, c3), (3, c4), (4, c5)] h = some (.slice (some ⟨h.length, 0, none⟩) 5 5, h ++ [.cells 1 [c1, c2, c3, c4, c5]]) := by
  simp [buildSliceV, Try.underlying166, info116, cellsOf116, Instr.fill, zero116, zeroRow, h1, h2, h3, h4, h5, List.range, List.range.loop]
theorem bs22 (h : List Blk) : buildSliceV Try.prog 22 0 #[] h = some (.slice (some ⟨h.length, 0, none⟩) 0 0, h ++ [.cells 1 []]) := by
  have hz : zeroOf Try.prog 3 0 = some #[] := rfl
  simp [buildSliceV, Try.underlying22, info3, cellsOf3, Instr.fill, hz, zeroRow]

end Go.Proofs.Ytfmbgjmabkfikaa
