/- An executor of the program's functions on trees of values, proved sound. -/
import Derived.Test.YtojekkfmnnoabaaRexD
set_option linter.unusedSimpArgs false
set_option linter.unusedVariables false
set_option linter.defProp false
namespace Go.Rex
open Go.RowKit

def zeroRow (z : Array Value) (n : Nat) : Array Value := (Array.range n).map (z[· % z.size]!)
theorem zeroRow_vr {D : Nat → Prop} {m : NMap} {z : Array Value} (hz : ∀ v ∈ z.toList, VR D m v v) (n : Nat) : VRs D m (zeroRow z n).toList (zeroRow z n).toList := by
  refine VRs.refl_of fun v hv => ?_
  unfold zeroRow at hv
  simp only [Array.toList_map, List.mem_map] at hv
  obtain ⟨k, _, rfl⟩ := hv
  by_cases h : k % z.size < z.size
  · rw [getElem!_pos z _ h]
    exact hz _ (by simp)
  · rw [getElem!_neg z _ h]
    exact .bool _

def zeroOf (P : Program) (e : TypeId) (n : Nat) : Option (Array Value) :=
  if n = 0 then some #[] else
  match P.info? e with
  | some i => match i.zero with
    | some z => if isClean z = true then some z.cells else none
    | none => none
  | none => none
theorem zeroOf_run {P : Program} {e : TypeId} {n : Nat} {z : Array Value} (h : zeroOf P e n = some z) (w : World) :
    ((n = 0 ∧ z = #[]) ∨ (n ≠ 0 ∧ ∃ v, (zeroValue e).run P w = .ok v w ∧ z = v.cells)) ∧ ∀ (D : Nat → Prop) (m : NMap), ∀ v ∈ z.toList, VR D m v v := by
  unfold zeroOf at h
  split at h
  · rename_i h0
    obtain rfl := Option.some.inj h
    refine ⟨.inl ⟨h0, rfl⟩, fun D m v hv => by simp at hv⟩
  · rename_i h0
    split at h
    · rename_i i hi
      split at h
      · rename_i z0 hz
        split at h
        · rename_i hc
          obtain rfl := Option.some.inj h
          refine ⟨.inr ⟨h0, z0, by simp [zeroValue, typeInfo, hi, hz], rfl⟩, fun D m v hv => ?_⟩
          have hx := cells_vr (VR.of_clean (D := D) (m := m) depth z0 hc)
          obtain ⟨k, hk⟩ := List.mem_iff_getElem?.1 hv
          exact hx.at' k v v hk hk
        · cases h
      · cases h
    · cases h

def buildSliceV (P : Program) (t : TypeId) (len : Nat) (parts : Array (Nat × Value)) (h : List Blk) : Option (Value × List Blk) :=
  match P.underlying t with
  | some (.slice e) =>
    if (P.info? e).isSome = true ∧ ¬ len * P.cellsOf e > 2 ^ 24 then
      match zeroOf P e (len * P.cellsOf e) with
      | some z => (Instr.fill (fun i => some (i * P.cellsOf e, P.cellsOf e)) (zeroRow z (len * P.cellsOf e)) parts.toList).bind fun c =>
          if c.size = len * P.cellsOf e then some (.slice (some ⟨h.length, 0, none⟩) len len, h ++ [.cells (P.cellsOf e) c.toList]) else none
      | none => none
    else none
  | _ => none

theorem slice_vr {D : Nat → Prop} {h h' : List Blk} {m : NMap} {i : Info} {l c c' : Nat} (hlen : h.length < h'.length) (hl : l ≤ c) (hc : c ≤ c') (he : c' * i.es ≤ i.ext) (ho : i.off = 0) :
    VR (Dx D h.length h'.length) (upd m h.length i) (.slice (some ⟨h.length, 0, none⟩) l c) (.slice (some ⟨i.block, 0, none⟩) l c') := by
  have := VR.slice (D := Dx D h.length h'.length) (m := upd m h.length i) h.length 0 l c c' (.inr ⟨Nat.le_refl _, hlen⟩) hl hc (.inr (by rw [upd_same]; omega))
  rw [upd_same, ho] at this
  exact this

theorem buildSliceV_sound {P : Program} {B lo : Nat} {D : Nat → Prop} {m : NMap} {h h' : List Blk} {w : World} (hr : Rel B lo D m h w) (hlo : lo ≤ h.length) {t : TypeId} {len : Nat} {ps ps' : Array (Nat × Value)} {v : Value}
    (hp : PRs D m ps.toList ps'.toList) (hv : buildSliceV P t len ps h = some (v, h')) : StepV P B lo D m h w (Instr.buildSlice t len ps') v h' := by
  unfold buildSliceV at hv
  split at hv
  · rename_i e hu
    split at hv
    · rename_i hc
      obtain ⟨hi, hlim⟩ := hc
      split at hv
      · rename_i z hz
        cases hf : Instr.fill (fun i => some (i * P.cellsOf e, P.cellsOf e)) (zeroRow z (len * P.cellsOf e)) ps.toList with
        | none => rw [hf] at hv; cases hv
        | some c =>
          rw [hf] at hv
          simp only [Option.bind_some] at hv
          split at hv
          · rename_i hsz
            obtain ⟨rfl, rfl⟩ := Prod.mk.inj (Option.some.inj hv)
            obtain ⟨hzr, hzv⟩ := zeroOf_run hz w
            obtain ⟨c', hf', hcv⟩ := fill_vr _ _ _ _ _ hp (zeroRow_vr (hzv D m) _) hf
            have hpost := hr.pushCells hlo (P.cellsOf e) hcv e
            refine ⟨.slice (some ⟨w.heap.size, 0, none⟩) len len, w.alloc (.cells c' e), _, ?_, hpost, ?_⟩
            · unfold zeroRow at hf'
              rcases hzr with ⟨h0, rfl⟩ | ⟨h0, v0, hv0, rfl⟩
              · simp only [Instr.buildSlice, Sem.run_bind, run_underlying hu, Result.andThen_ok, sizeOf_cellsOf hi, if_neg hlim, if_pos h0, Sem.run_pure, hf', newRow, run_newObj_alloc]
              · simp only [Instr.buildSlice, Sem.run_bind, run_underlying hu, Result.andThen_ok, sizeOf_cellsOf hi, if_neg hlim, if_neg h0, Sem.run_pure, hv0, hf', newRow, run_newObj_alloc]
            · exact slice_vr (by simp) (Nat.le_refl _) (Nat.le_refl _) (by simp [← hsz]) rfl
          · cases hv
      · cases hv
    · cases hv
  · cases hv

def makeSliceV (P : Program) (t : TypeId) (l c : Value) (h : List Blk) : Option (Value × List Blk) :=
  match P.underlying t, l, c with
  | some (.slice e), .int _ l, .int _ c =>
    match P.info? e with
    | some i =>
      if IntKind.i64.wrap l = l ∧ IntKind.i64.wrap c = c ∧ 0 ≤ l ∧ l ≤ c ∧ ¬ ((i.bytes : Int) * c > 2 ^ 48) then
        match zeroOf P e (c.toNat * i.size) with
        | some z => some (.slice (some ⟨h.length, 0, none⟩) l.toNat c.toNat, h ++ [.cells i.size (zeroRow z (c.toNat * i.size)).toList])
        | none => none
      else none
    | none => none
  | _, _, _ => none

theorem makeSliceV_sound {P : Program} {B lo : Nat} {D : Nat → Prop} {m : NMap} {h h' : List Blk} {w : World} (hr : Rel B lo D m h w) (hlo : lo ≤ h.length) {t : TypeId} {l c l' c' v : Value}
    (hl : VR D m l l') (hc : VR D m c c') (hv : makeSliceV P t l c h = some (v, h')) : StepV P B lo D m h w (Instr.makeSlice t l' c') v h' := by
  unfold makeSliceV at hv
  split at hv
  · rename_i e k1 l k2 c hu
    cases hl; cases hc
    split at hv
    · rename_i i hi
      split at hv
      · rename_i hcond
        obtain ⟨w1, w2, h0, hlc, hb⟩ := hcond
        split at hv
        · rename_i z hz
          obtain ⟨rfl, rfl⟩ := Prod.mk.inj (Option.some.inj hv)
          obtain ⟨hzr, hzv⟩ := zeroOf_run hz w
          have hpost := hr.pushCells hlo i.size (zeroRow_vr (hzv D m) (c.toNat * i.size)) e
          refine ⟨.slice (some ⟨w.heap.size, 0, none⟩) l.toNat c.toNat, w.alloc (.cells (zeroRow z (c.toNat * i.size)) e), _, ?_, hpost, ?_⟩
          · have htl : (decide (c < 0) || decide ((i.bytes : Int) * c > 2 ^ 48)) = false := by
              simp only [Bool.or_eq_false_iff, decide_eq_false_iff_not]
              exact ⟨by omega, hb⟩
            have hcond : ((decide (c < 0) || decide ((i.bytes : Int) * c > 2 ^ 48)) || decide (l < 0) || decide (l > c)) = false := by
              rw [htl]
              simp only [Bool.false_or, Bool.or_eq_false_iff, decide_eq_false_iff_not]
              omega
            have hti : (typeInfo e).run P w = .ok i w := by simp [typeInfo, hi]
            unfold Instr.makeSlice
            simp only [Sem.run_bind, run_underlying hu, Result.andThen_ok, asInt, asIntOf, Sem.run_pure, hti, w1, w2]
            rw [hcond]
            rcases hzr with ⟨h0', rfl⟩ | ⟨h0', v0, hv0, rfl⟩
            · simp only [Bool.false_eq_true, if_false, Sem.run_bind, run_askRoom, Result.andThen_ok, sizeOf_run hi, if_pos h0', newRow, run_newObj_alloc, Sem.run_pure]
              rfl
            · simp only [Bool.false_eq_true, if_false, Sem.run_bind, run_askRoom, Result.andThen_ok, sizeOf_run hi, if_neg h0', hv0, newRow, run_newObj_alloc, Sem.run_pure]
              rfl
          · exact slice_vr (by simp) (by omega) (Nat.le_refl _) (by simp [zeroRow]) rfl
        · cases hv
      · cases hv
    · cases hv
  · cases hv

def indexAddrV (P : Program) (t : TypeId) (x ix : Value) : Option Value :=
  match P.underlying t, x, ix with
  | some (.array len e), .pointer (some ⟨n, o, none⟩), .int _ i => if 0 ≤ i ∧ i < len ∧ (P.info? e).isSome = true then some (.pointer (some ⟨n, o + i.toNat * P.cellsOf e, none⟩)) else none
  | some (.slice e), .slice (some ⟨n, o, none⟩) len _, .int _ i => if 0 ≤ i ∧ i < len ∧ (P.info? e).isSome = true then some (.pointer (some ⟨n, o + i.toNat * P.cellsOf e, none⟩)) else none
  | _, _, _ => none
theorem indexAddrV_sound {P : Program} {D : Nat → Prop} {m : NMap} {t : TypeId} {x x' ix ix' v : Value} (hx : VR D m x x') (hi : VR D m ix ix') (hv : indexAddrV P t x ix = some v) :
    ∃ v', (∀ w, (Instr.indexAt t x' ix').run P w = .ok v' w) ∧ VR D m v v' := by
  unfold indexAddrV at hv
  split at hv
  · rename_i len e n o k i hu
    cases hi
    obtain ⟨hD, rfl⟩ : D n ∧ x' = .pointer (some ⟨(m n).block, (m n).off + o, none⟩) := by cases hx; exact ⟨by assumption, rfl⟩
    split at hv
    · rename_i hc
      obtain ⟨h0, h1, h2⟩ := hc
      obtain rfl := Option.some.inj hv
      refine ⟨.pointer (some ⟨(m n).block, (m n).off + o + i.toNat * P.cellsOf e, none⟩), fun w => ?_, by rw [Nat.add_assoc]; exact .ptr n _ hD⟩
      simp only [Instr.indexAt, asIntOf, Sem.run_bind, Sem.run_pure, Result.andThen_ok, run_underlying hu, Instr.sureAddr, if_pos (show 0 ≤ i ∧ i < ((len : Nat) : Int) from ⟨h0, h1⟩), sizeOf_cellsOf h2, addr_add]
    · cases hv
  · rename_i e n o len cap k i hu
    cases hi
    obtain ⟨hD, c', rfl⟩ : D n ∧ ∃ c', x' = .slice (some ⟨(m n).block, (m n).off + o, none⟩) len c' := by cases hx; exact ⟨by assumption, _, rfl⟩
    split at hv
    · rename_i hc
      obtain ⟨h0, h1, h2⟩ := hc
      obtain rfl := Option.some.inj hv
      refine ⟨.pointer (some ⟨(m n).block, (m n).off + o + i.toNat * P.cellsOf e, none⟩), fun w => ?_, by rw [Nat.add_assoc]; exact .ptr n _ hD⟩
      simp only [Instr.indexAt, asIntOf, Sem.run_bind, Sem.run_pure, Result.andThen_ok, run_underlying hu, if_pos (show 0 ≤ i ∧ i < ((len : Nat) : Int) from ⟨h0, h1⟩), sizeOf_cellsOf h2, addr_add]
    · cases hv
  · cases hv

def fieldAddrV (P : Program) (t : TypeId) (x : Value) (f : Nat) : Option Value :=
  match P.underlying t, x with
  | some (.struct fields), .pointer (some ⟨n, o, none⟩) =>
    match fields[f]? with
    | some fd => if (P.info? fd.type).isSome = true ∧ P.cellsOf fd.type ≠ 0 then some (.pointer (some ⟨n, o + fd.offset, none⟩)) else none
    | none => none
  | _, _ => none
theorem fieldAddrV_sound {P : Program} {D : Nat → Prop} {m : NMap} {t : TypeId} {x x' v : Value} {f : Nat} (hx : VR D m x x') (hv : fieldAddrV P t x f = some v) :
    ∃ v', (∀ w, (Instr.fieldAt t x' f).run P w = .ok v' w) ∧ VR D m v v' := by
  unfold fieldAddrV at hv
  split at hv
  · rename_i fields n o hu
    obtain ⟨hD, rfl⟩ : D n ∧ x' = .pointer (some ⟨(m n).block, (m n).off + o, none⟩) := by cases hx; exact ⟨by assumption, rfl⟩
    split at hv
    · rename_i fd hfd
      split at hv
      · rename_i hc
        obtain rfl := Option.some.inj hv
        refine ⟨.pointer (some ⟨(m n).block, (m n).off + o + fd.offset, none⟩), fun w => ?_, by rw [Nat.add_assoc]; exact .ptr n _ hD⟩
        simp only [Instr.fieldAt, Sem.run_bind, run_underlying hu, Result.andThen_ok, hfd, Instr.sureAddr, Sem.run_pure, fieldPlace, sizeOf_cellsOf hc.1, if_neg hc.2, addr_add]
      · cases hv
    · cases hv
  · cases hv

/-- a part of a struct or an array in hand -/
def partV (P : Program) (t : TypeId) (cs : List Value) (off : Nat) : Option Value :=
  match aggB P t with
  | some true => if (P.info? t).isSome = true then some (.agg ⟨(cs.drop off).take (P.cellsOf t)⟩) else none
  | some false => cs[off]?
  | none => none
theorem partV_sound {P : Program} {D : Nat → Prop} {m : NMap} {t : TypeId} {cs cs' : List Value} {off : Nat} {v : Value} (hc : VRs D m cs cs') (hv : partV P t cs off = some v) :
    ∃ v', (∀ w, (part t ⟨cs'⟩ off).run P w = .ok v' w) ∧ VR D m v v' := by
  unfold partV at hv
  split at hv
  · rename_i hg
    split at hv
    · rename_i hi
      obtain rfl := Option.some.inj hv
      refine ⟨.agg ⟨(cs'.drop off).take (P.cellsOf t)⟩, fun w => ?_, .agg' (hc.extract _ _)⟩
      simp only [part, Sem.run_bind, aggB_run hg, Result.andThen_ok, if_true, sizeOf_cellsOf hi, Sem.run_pure]
      congr 2
      apply Array.ext'
      simp [List.extract_eq_take_drop]
    · cases hv
  · rename_i hg
    obtain ⟨v', hv', hr⟩ := hc.at hv
    refine ⟨v', fun w => ?_, hr⟩
    simp only [part, Sem.run_bind, aggB_run hg, Result.andThen_ok, Bool.false_eq_true, if_false]
    simp [hv']
  · cases hv

def fieldV (P : Program) (t : TypeId) (x : Value) (f : Nat) : Option Value :=
  match P.underlying t, x with
  | some (.struct fields), .agg ⟨cs⟩ =>
    match fields[f]? with
    | some fd => partV P fd.type cs fd.offset
    | none => none
  | _, _ => none
theorem fieldV_sound {P : Program} {D : Nat → Prop} {m : NMap} {t : TypeId} {x x' v : Value} {f : Nat} (hx : VR D m x x') (hv : fieldV P t x f = some v) :
    ∃ v', (∀ w, (Instr.field t x' f).run P w = .ok v' w) ∧ VR D m v v' := by
  unfold fieldV at hv
  split at hv
  · rename_i fields cs hu
    obtain ⟨cs', hc, rfl⟩ : ∃ cs', VRs D m cs cs' ∧ x' = .agg ⟨cs'⟩ := by cases hx; exact ⟨_, ⟨by assumption, by assumption⟩, rfl⟩
    split at hv
    · rename_i fd hfd
      obtain ⟨v', h1, h2⟩ := partV_sound hc hv
      refine ⟨v', fun w => ?_, h2⟩
      simp only [Instr.field, Sem.run_bind, run_underlying hu, Result.andThen_ok, hfd, asAgg, Sem.run_pure, h1]
    · cases hv
  · cases hv

def indexV (P : Program) (t : TypeId) (x ix : Value) : Option Value :=
  match P.underlying t, x, ix with
  | some (.array len e), .agg ⟨cs⟩, .int _ i => if 0 ≤ i ∧ i < len ∧ (P.info? e).isSome = true then partV P e cs (i.toNat * P.cellsOf e) else none
  | _, _, _ => none
theorem indexV_sound {P : Program} {D : Nat → Prop} {m : NMap} {t : TypeId} {x x' ix ix' v : Value} (hx : VR D m x x') (hi : VR D m ix ix') (hv : indexV P t x ix = some v) :
    ∃ v', (∀ w, (Instr.index t x' ix').run P w = .ok v' w) ∧ VR D m v v' := by
  unfold indexV at hv
  split at hv
  · rename_i len e cs k i hu
    cases hi
    obtain ⟨cs', hc, rfl⟩ : ∃ cs', VRs D m cs cs' ∧ x' = .agg ⟨cs'⟩ := by cases hx; exact ⟨_, ⟨by assumption, by assumption⟩, rfl⟩
    split at hv
    · rename_i hcond
      obtain ⟨h0, h1, h2⟩ := hcond
      obtain ⟨v', h3, h4⟩ := partV_sound hc hv
      refine ⟨v', fun w => ?_, h4⟩
      simp only [Instr.index, asIntOf, Sem.run_bind, Sem.run_pure, Result.andThen_ok, run_underlying hu, if_pos (show 0 ≤ i ∧ i < ((len : Nat) : Int) from ⟨h0, h1⟩), sizeOf_cellsOf h2, h3]
    · cases hv
  · cases hv
end Go.Rex
