/- An executor of the program's functions on trees of values, proved sound. -/
import Derived.Test.YtojekkfmnnoabaaRexC
set_option linter.unusedSimpArgs false
set_option linter.unusedVariables false
set_option linter.defProp false
namespace Go.Rex
open Go.RowKit

abbrev AOut := Option (Value × List Blk × Option Nat)
def WrOk (lo : Nat) (wr : Option Nat) : Prop := ∀ n, wr = some n → lo ≤ n

/-- elements' size of a variable: none -/
def esOf (_ : Program) (_ : TypeId) : Nat := 0

def depth : Nat := 60
def isClean (v : Value) : Bool := clean depth v

def opndOk : Operand → Bool
  | .tmp _ => true
  | .func _ => true
  | .const v => isClean v
  | .global _ => false

/-- elements of a fill: as the model does it -/
theorem foldl_set_vr {D : Nat → Prop} {m : NMap} {off : Nat} : ∀ (l l' : List Value) (k : Nat) (c c' : Array Value), VRs D m l l' → VRs D m c.toList c'.toList →
    VRs D m ((l.zipIdx k).foldl (fun (cs : Array Value) (x : Value × Nat) => cs.setIfInBounds (off + x.2) x.1) c).toList ((l'.zipIdx k).foldl (fun (cs : Array Value) (x : Value × Nat) => cs.setIfInBounds (off + x.2) x.1) c').toList
  | [], l', k, c, c', hl, hc => by
    have : l' = [] := by have := hl.len; simpa using this
    subst this
    exact hc
  | v :: l, l', k, c, c', hl, hc => by
    obtain ⟨v', rest, rfl⟩ : ∃ v' rest, l' = v' :: rest := by
      have h1 := hl.len
      cases l' with
      | nil => simp at h1
      | cons a b => exact ⟨a, b, rfl⟩
    have hv : VR D m v v' := hl.at' 0 _ _ rfl rfl
    have hs : VRs D m l rest := ⟨by have := hl.len; simpa using this, fun i x x' h h' => hl.at' (i + 1) _ _ (by simpa using h) (by simpa using h')⟩
    simp only [List.zipIdx_cons, List.foldl_cons]
    refine foldl_set_vr l rest (k + 1) _ _ hs ?_
    simp only [Array.toList_setIfInBounds]
    exact hc.set _ hv

structure PRs (D : Nat → Prop) (m : NMap) (ps ps' : List (Nat × Value)) : Prop where
  len : ps'.length = ps.length
  at' : ∀ (i : Nat) p p', ps[i]? = some p → ps'[i]? = some p' → p'.1 = p.1 ∧ VR D m p.2 p'.2

theorem fill_vr {D : Nat → Prop} {m : NMap} {place : Nat → Option (Nat × Nat)} : ∀ (ps ps' : List (Nat × Value)) (c c' r : Array Value), PRs D m ps ps' → VRs D m c.toList c'.toList → Instr.fill place c ps = some r →
    ∃ r', Instr.fill place c' ps' = some r' ∧ VRs D m r.toList r'.toList
  | [], ps', c, c', r, hp, hc, hf => by
    have : ps' = [] := by have := hp.len; simpa using this
    subst this
    simp [Instr.fill] at hf
    subst hf
    exact ⟨c', rfl, hc⟩
  | (i, v) :: ps, ps', c, c', r, hp, hc, hf => by
    obtain ⟨p', rest, rfl⟩ : ∃ v' rest, ps' = v' :: rest := by
      have h1 := hp.len
      cases ps' with
      | nil => simp at h1
      | cons a b => exact ⟨a, b, rfl⟩
    obtain ⟨i', v'⟩ := p'
    obtain ⟨e1, hv⟩ := hp.at' 0 _ _ rfl rfl
    simp only at e1 hv
    subst e1
    have hs : PRs D m ps rest := ⟨by have := hp.len; simpa using this, fun i x x' h h' => hp.at' (i + 1) _ _ (by simpa using h) (by simpa using h')⟩
    have hcv := cells_vr hv
    have hsz : v'.cells.size = v.cells.size := by have := hcv.len; simpa using this
    have hcs : c'.size = c.size := by have := hc.len; simpa using this
    simp only [Instr.fill] at hf ⊢
    split at hf
    · cases hf
    · rename_i off size hpl
      split at hf
      · cases hf
      · rename_i hcond
        rw [if_neg (by rw [hsz, hcs]; exact hcond)]
        refine fill_vr ps rest _ _ r hs ?_ hf
        have := foldl_set_vr (off := off) v.cells.toList v'.cells.toList 0 c c' hcv hc
        simpa only [← Array.foldl_toList, Array.toList_zipIdx] using this

/-- struct and array literals -/
def buildV (P : Program) (t : TypeId) (parts : Array (Nat × Value)) : Option Value :=
  match P.info? t with
  | some i => match i.zero with
    | some z => if isClean z = true then
        match P.underlying t with
        | some (.struct fields) => (Instr.fill ((fields.map fun f => (f.offset, P.cellsOf f.type))[·]?) z.cells parts.toList).bind fun c => if fields.all (fun f => (P.info? f.type).isSome) = true then some (.agg c) else none
        | some (.array _ e) => (Instr.fill (fun k => some (k * P.cellsOf e, P.cellsOf e)) z.cells parts.toList).bind fun c => if (P.info? e).isSome = true then some (.agg c) else none
        | _ => none
      else none
    | none => none
  | none => none

theorem sizeOf_cellsOf {P : Program} {t : TypeId} (h : (P.info? t).isSome = true) (w : World) : (sizeOf t).run P w = .ok (P.cellsOf t) w := by
  obtain ⟨i, hi⟩ := Option.isSome_iff_exists.1 h
  simp [sizeOf, typeInfo, hi, Program.cellsOf]

theorem mapM_places {P : Program} {w : World} : ∀ (l : List Field) (acc : List (Nat × Nat)), l.all (fun f => (P.info? f.type).isSome) = true →
    (List.mapM.loop (fun f : Field => (do pure (f.offset, ← sizeOf f.type) : Sem (Nat × Nat))) l acc).run P w = .ok (acc.reverse ++ l.map fun f => (f.offset, P.cellsOf f.type)) w
  | [], acc, _ => by simp [List.mapM.loop]
  | f :: l, acc, h => by
    simp only [List.all_cons, Bool.and_eq_true] at h
    have := mapM_places (w := w) l ((f.offset, P.cellsOf f.type) :: acc) h.2
    simp only [List.mapM.loop, Sem.run_bind, sizeOf_cellsOf h.1, Result.andThen_ok, Sem.run_pure, this]
    simp

theorem buildV_sound {P : Program} {D : Nat → Prop} {m : NMap} {t : TypeId} {ps ps' : Array (Nat × Value)} {v : Value} (hp : PRs D m ps.toList ps'.toList) (hv : buildV P t ps = some v) :
    ∃ v', (∀ w, (Instr.build t ps').run P w = .ok v' w) ∧ VR D m v v' := by
  unfold buildV at hv
  split at hv
  · rename_i i hi
    split at hv
    · rename_i z hz
      split at hv
      · rename_i hc
        have hzr : ∀ w, (zeroValue t).run P w = .ok z w := fun w => by simp [zeroValue, typeInfo, hi, hz]
        have hzc := cells_vr (VR.of_clean (D := D) (m := m) depth z hc)
        split at hv
        · rename_i fields hu
          cases hf : Instr.fill ((fields.map fun f => (f.offset, P.cellsOf f.type))[·]?) z.cells ps.toList with
          | none => rw [hf] at hv; cases hv
          | some c =>
            rw [hf] at hv
            simp only [Option.bind_some] at hv
            split at hv
            · rename_i hall
              obtain rfl := Option.some.inj hv
              obtain ⟨c', hf', hcv⟩ := fill_vr _ _ _ _ _ hp hzc hf
              refine ⟨.agg c', fun w => ?_, ?_⟩
              · have hm : (fields.mapM fun f : Field => (do pure (f.offset, ← sizeOf f.type) : Sem (Nat × Nat))).run P w = .ok (fields.map fun f => (f.offset, P.cellsOf f.type)) w := by
                  rw [Array.mapM_eq_mapM_toList]
                  simp only [List.mapM, Sem.run_map]
                  rw [mapM_places _ _ (by simpa using hall)]
                  simp only [Result.andThen_ok, List.reverse_nil, List.nil_append]
                  rw [show (List.map (fun f : Field => (f.offset, P.cellsOf f.type)) fields.toList).toArray = fields.map fun f => (f.offset, P.cellsOf f.type) from Array.ext' (by simp)]
                simp only [Instr.build, Sem.run_bind, hzr, Result.andThen_ok, run_underlying hu, hm, hf']
                rfl
              · exact .agg' hcv
            · cases hv
        · rename_i n e hu
          cases hf : Instr.fill (fun k => some (k * P.cellsOf e, P.cellsOf e)) z.cells ps.toList with
          | none => rw [hf] at hv; cases hv
          | some c =>
            rw [hf] at hv
            simp only [Option.bind_some] at hv
            split at hv
            · rename_i hall
              obtain rfl := Option.some.inj hv
              obtain ⟨c', hf', hcv⟩ := fill_vr _ _ _ _ _ hp hzc hf
              refine ⟨.agg c', fun w => ?_, .agg' hcv⟩
              simp only [Instr.build, Sem.run_bind, hzr, Result.andThen_ok, run_underlying hu, sizeOf_cellsOf hall, hf']
              rfl
            · cases hv
        · cases hv
      · cases hv
    · cases hv
  · cases hv
end Go.Rex
