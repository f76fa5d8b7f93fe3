import Derived.Test.YtfmbgjmabkfikaaCor4
namespace Go.Proofs.Ytfmbgjmabkfikaa
open Go Go.Rex
set_option maxRecDepth 100000
attribute [local simp] runCall exec runOps Region.wanted pop ev nth putL orGen fastBin liftE regOk opsOk Op.operands opndOk isClean depth clean runEnd takeDefers resAll resV oneOf wmin_n1 wmin_n2 wmin_ss wge_n wge_s bhop List.set List.replicate bpop Call.operands lenV seqQ blockQ drawAll drawStep drawHeap_ext Ext.refl Ext.app xop hop slots List.map xcall_eq yielded genP_neg genP_not
theorem info3' : ∃ i, Try.prog.info? 3 = some i ∧ i.size = 1 ∧ i.bytes = 8 ∧ (i.zero.map fun z => z.cells.size) = some 1 := by
  have hb : (match Try.prog.info? 3 with | some i => (i.size == 1 && i.bytes == 8 && ((i.zero.map fun z => z.cells.size) == some 1)) | none => false) = true := by decide +kernel
  split at hb
  · rename_i i hi
    simp only [Bool.and_eq_true, beq_iff_eq] at hb
    exact ⟨i, hi, hb.1.1, hb.1.2, hb.2⟩
  · cases hb
theorem notInt22 : notInt Try.prog (some 22) = true := by decide +kernel
theorem append22 (xs : List Int) (v : Value) (h : List Blk) (hn : xs.length < 1000000) (hv : SlV h v xs) (hne : xs ≠ []) :
    appendV Try.prog #[22, 22] (.slice (some ⟨h.length, 0, none⟩) 0 0) v (h ++ [.cells 1 []]) = some (.slice (some ⟨h.length + 1, 0, none⟩) xs.length xs.length, h ++ [.dead, .cells 1 (xs.map (.int .i64))], some h.length) := by
  obtain ⟨i, hi, s1, s2, s3⟩ := info3'
  have hv' := hv.ext (Ext.app h [.cells 1 []])
  have hl0 : xs.length ≠ 0 := fun e => hne (List.length_eq_zero_iff.1 e)
  have hs : srcCells (h ++ [.cells 1 []]) 1 v = some (xs.length, xs.map (.int .i64)) := by
    rcases hv' with ⟨rfl, rfl⟩ | ⟨n, o, c, es, cs, rfl, hb, hle, hc⟩
    · exact absurd rfl hne
    · simp only [srcCells, readCells, hb, Nat.mul_one]
      rw [if_pos hle]
      have e : (cs.drop o).take xs.length = xs.map (.int .i64) := by
        apply List.ext_getElem?
        intro k
        rw [List.getElem?_take, List.getElem?_map, List.getElem?_drop]
        by_cases hk : k < xs.length
        · rw [if_pos hk, List.getElem?_eq_getElem hk, hc k _ (List.getElem?_eq_getElem hk)]
          rfl
        · rw [if_neg hk, List.getElem?_eq_none (by omega)]
          rfl
      rw [e]
      rfl
  unfold appendV
  simp [hi, s1, s2, s3, notInt22, hs, hl0, Try.underlying22]
  exact ⟨fun _ _ => rfl, by omega, by omega⟩

theorem copy_call (xs : List Int) (v : Value) (h : List Blk) (hn : xs.length < 1000000) (hv : SlV h v xs) : ∃ v' h', (lim Try.prog).call 31 [v] h = some (v', h', none) ∧ Ext h h' ∧ SlV h' v' xs := by
  obtain ⟨a, cp, e⟩ := hv.len
  by_cases hne : xs = []
  · subst hne
    have hap : appendV Try.prog #[22, 22] (.slice (some ⟨h.length, 0, none⟩) 0 0) v (h ++ [.cells 1 []]) = some (.slice (some ⟨h.length, 0, none⟩) 0 0, h ++ [.cells 1 []], none) := by
      obtain ⟨i, hi, s1, s2, s3⟩ := info3'
      have hv' := hv.ext (Ext.app h [.cells 1 []])
      have hs : srcCells (h ++ [.cells 1 []]) 1 v = some (0, []) := by
        rcases hv' with ⟨rfl, _⟩ | ⟨n, o, c, es, cs, rfl, hb, hle, hc⟩
        · rfl
        · simp only [srcCells, readCells, hb, List.length_nil, Nat.zero_mul]
          rw [if_pos (by simpa using hle)]
          rfl
      unfold appendV
      simp [hi, s1, notInt22, hs, Try.underlying22]
    apply name_fun Try.func31 rfl
    (focus (simp [Try.f31] <;> exact rfl))
    repeat (first | with_reducible refine XP.seq ?_ | with_reducible refine XP.block ?_ | with_reducible refine XP.skip ?_ | with_reducible refine XP.exit ?_ | with_reducible refine XP.ret ?_ | with_reducible refine seqQ_n ?_ | with_reducible refine seqQ_e ?_ | with_reducible refine seqQ_r ?_ | with_reducible refine blockQ_n ?_ | with_reducible refine blockQ_r ?_ | with_reducible refine blockQ_e ?_ | with_reducible refine blockQ_ne rfl ?_ | with_reducible refine RO.nil ?_ | with_reducible refine RD.nil rfl ?_ | ((with_reducible apply RO.pop); (focus (first | rfl | (simp [bs22, newH, mapParts, hap]; done))); (focus (simp [] <;> exact rfl)); (focus (dsimp only [putL, List.set, slots] <;> exact rfl))) | ((with_reducible apply RO.act); (focus (first | rfl | (simp [bs22, newH, mapParts, hap]; done))); (focus rfl); (focus (simp [bs22, newH, mapParts, hap] <;> exact ⟨rfl, rfl, rfl⟩)); (focus (first | rfl | simp)); (focus (dsimp only [putL, List.set, slots] <;> exact rfl))) | ((with_reducible apply RO.skip); (focus (simp [bs22, newH, mapParts, hap]; done)); (focus (dsimp only [putL, List.set, slots] <;> exact rfl))) | ((with_reducible apply RD.pop); (focus (first | rfl | (simp [bs22, newH, mapParts, hap]; done))); (focus (simp [bs22, newH, mapParts, hap] <;> exact rfl)); (focus (dsimp only [putL, List.set, slots] <;> exact rfl))) | ((with_reducible apply RD.act); (focus (first | rfl | (simp [bs22, newH, mapParts, hap]; done))); (focus rfl); (focus (simp [bs22, newH, mapParts, hap] <;> exact ⟨rfl, rfl⟩)); (focus (simp [bs22, newH, mapParts, hap]; done)); (focus (dsimp only [putL, List.set, slots] <;> exact rfl))) | ((with_reducible apply RD.skip); (focus (simp [bs22, newH, mapParts, hap]; done)); (focus (dsimp only [putL, List.set, slots] <;> exact rfl))) | ((with_reducible apply XP.region); (focus (simp only [] <;> exact rfl)); (focus rfl); dsimp only) | ((with_reducible apply XP.drawn); (focus decide +kernel); (focus (simp only [List.toList_toArray] <;> exact rfl)); (focus exact rfl); dsimp only) | ((with_reducible apply XP.cond_true); (focus rfl); (focus (simp [bs22, newH, mapParts, hap]; first | done | omega))) | ((with_reducible apply XP.cond_false); (focus rfl); (focus (simp [bs22, newH, mapParts, hap]; first | done | omega))) | fail)
    exact ⟨.inr rfl, rfl, _, rfl, rfl, Ext.app _ _, .inr ⟨h.length, 0, 0, 1, [], rfl, by simp, by simp, fun i x hx => by simp at hx⟩⟩
  · have hap := append22 xs v h hn hv hne
    apply name_fun Try.func31 rfl
    (focus (simp [Try.f31] <;> exact rfl))
    repeat (first | with_reducible refine XP.seq ?_ | with_reducible refine XP.block ?_ | with_reducible refine XP.skip ?_ | with_reducible refine XP.exit ?_ | with_reducible refine XP.ret ?_ | with_reducible refine seqQ_n ?_ | with_reducible refine seqQ_e ?_ | with_reducible refine seqQ_r ?_ | with_reducible refine blockQ_n ?_ | with_reducible refine blockQ_r ?_ | with_reducible refine blockQ_e ?_ | with_reducible refine blockQ_ne rfl ?_ | with_reducible refine RO.nil ?_ | with_reducible refine RD.nil rfl ?_ | ((with_reducible apply RO.pop); (focus (first | rfl | (simp [bs22, newH, mapParts, hap]; done))); (focus (simp [] <;> exact rfl)); (focus (dsimp only [putL, List.set, slots] <;> exact rfl))) | ((with_reducible apply RO.act); (focus (first | rfl | (simp [bs22, newH, mapParts, hap]; done))); (focus rfl); (focus (simp [bs22, newH, mapParts, hap] <;> exact ⟨rfl, rfl, rfl⟩)); (focus (first | rfl | simp)); (focus (dsimp only [putL, List.set, slots] <;> exact rfl))) | ((with_reducible apply RO.skip); (focus (simp [bs22, newH, mapParts, hap]; done)); (focus (dsimp only [putL, List.set, slots] <;> exact rfl))) | ((with_reducible apply RD.pop); (focus (first | rfl | (simp [bs22, newH, mapParts, hap]; done))); (focus (simp [bs22, newH, mapParts, hap] <;> exact rfl)); (focus (dsimp only [putL, List.set, slots] <;> exact rfl))) | ((with_reducible apply RD.act); (focus (first | rfl | (simp [bs22, newH, mapParts, hap]; done))); (focus rfl); (focus (simp [bs22, newH, mapParts, hap] <;> exact ⟨rfl, rfl⟩)); (focus (simp [bs22, newH, mapParts, hap]; done)); (focus (dsimp only [putL, List.set, slots] <;> exact rfl))) | ((with_reducible apply RD.skip); (focus (simp [bs22, newH, mapParts, hap]; done)); (focus (dsimp only [putL, List.set, slots] <;> exact rfl))) | ((with_reducible apply XP.region); (focus (simp only [] <;> exact rfl)); (focus rfl); dsimp only) | ((with_reducible apply XP.drawn); (focus decide +kernel); (focus (simp only [List.toList_toArray] <;> exact rfl)); (focus exact rfl); dsimp only) | ((with_reducible apply XP.cond_true); (focus rfl); (focus (simp [bs22, newH, mapParts, hap]; first | done | omega))) | ((with_reducible apply XP.cond_false); (focus rfl); (focus (simp [bs22, newH, mapParts, hap]; first | done | omega))) | fail)
    refine ⟨.inr rfl, rfl, _, rfl, rfl, Ext.app _ _, .inr ⟨h.length + 1, 0, xs.length, 1, xs.map (.int .i64), rfl, by simp, by simp, fun i x hx => ?_⟩⟩
    rw [Nat.zero_add, List.getElem?_map, hx]
    rfl

end Go.Proofs.Ytfmbgjmabkfikaa
