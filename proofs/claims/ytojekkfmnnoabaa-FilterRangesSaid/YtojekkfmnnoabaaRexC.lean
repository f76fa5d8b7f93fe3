/- An executor of the program's functions on trees of values, proved sound. -/
import Derived.Test.YtojekkfmnnoabaaRexB
import Derived.Laws.NewFold
import Derived.Laws.Append
set_option linter.unusedSimpArgs false
set_option linter.unusedVariables false
set_option linter.defProp false
namespace Go.Rex
open Go.RowKit

/-- what yields in every world alike -/
def prun {α : Type} (P : Program) : Sem α → Option α
  | .pure a => some a
  | .program k => prun P (k P)
  | .mark _ k => prun P k
  | _ => none
theorem prun_run {α : Type} {P : Program} {s : Sem α} {a : α} (h : prun P s = some a) (w : World) : s.run P w = .ok a w := by
  induction s with
  | pure b => simp [prun] at h; subst h; rfl
  | program k ih => simp only [prun] at h; simp only [Sem.run]; exact ih _ h
  | mark m k ih => simp only [prun] at h; simp only [Sem.run]; exact ih h
  | _ => simp [prun] at h

/-- a step's ending: a value -/
def StepV (P : Program) (B lo : Nat) (D : Nat → Prop) (m : NMap) (h : List Blk) (w : World) (s : Sem Value) (v : Value) (h' : List Blk) : Prop :=
  ∃ v' w' m', s.run P w = .ok v' w' ∧ Post B lo D m h w m' h' w' ∧ VR (Dx D h.length h'.length) m' v v'
theorem StepV.pure {P : Program} {B lo : Nat} {D : Nat → Prop} {m : NMap} {h : List Blk} {w : World} {s : Sem Value} {v v' : Value} (hr : Rel B lo D m h w) (hs : s.run P w = .ok v' w) (hv : VR D m v v') : StepV P B lo D m h w s v h :=
  ⟨v', w, m, hs, Post.refl hr, by rw [Dx.refl]; exact hv⟩

def readCells (h : List Blk) (n o k : Nat) : Option (List Value) :=
  match h[n]? with
  | some (.cells _ c) => if o + k ≤ c.length then some ((c.drop o).take k) else none
  | _ => none
theorem readCells_sound {B lo : Nat} {D : Nat → Prop} {m : NMap} {h : List Blk} {w : World} (hr : Rel B lo D m h w) {n o k : Nat} {l : List Value} (hD : D n) (hl : readCells h n o k = some l) :
    ∃ l', VRs D m l l' ∧ l.length = k ∧ ∀ (j : Nat) v, l'[j]? = some v → w.cell? ⟨(m n).block, (m n).off + o + j, none⟩ = some v := by
  unfold readCells at hl
  split at hl
  · rename_i es c hn
    split at hl
    · rename_i hk
      obtain rfl := Option.some.inj hl
      have hok := (hr.ok n _ hD hn).2
      refine ⟨(List.range k).map fun j => (w.cell? ⟨(m n).block, (m n).off + (o + j), none⟩).getD undef, ⟨by simp; omega, fun i v v' hv hv' => ?_⟩, by simp; omega, fun j v hj => ?_⟩
      · simp only [List.getElem?_take, List.getElem?_drop] at hv
        split at hv
        · rename_i hi
          simp only [List.getElem?_map, List.getElem?_range hi, Option.map_some, Option.some.injEq] at hv'
          obtain ⟨u, hu, hvr⟩ := hok _ _ hv
          rw [hu] at hv'
          simp at hv'
          subst hv'
          exact hvr
        · cases hv
      · have hj' : j < k := by
          have := (List.getElem?_eq_some_iff.1 hj).1
          simpa using this
        simp only [List.getElem?_map, List.getElem?_range hj', Option.map_some, Option.some.injEq] at hj
        obtain ⟨u, hu, hvr⟩ := hok (o + j) c[o + j] (List.getElem?_eq_getElem (by omega))
        rw [hu] at hj
        simp at hj
        subst hj
        rw [Nat.add_assoc]
        exact hu
    · cases hl
  · cases hl

theorem addr_add (b o i : Nat) : (⟨b, o, none⟩ : Addr).add i = ⟨b, o + i, none⟩ := by
  unfold Addr.add; split <;> simp_all

theorem loadCells_sound {P : Program} {b o : Nat} {l' : List Value} {w : World} (h : ∀ (j : Nat) v, l'[j]? = some v → w.cell? ⟨b, o + j, none⟩ = some v) (k : Nat) (hk : l'.length = k) :
    (loadCells ⟨b, o, none⟩ k).run P w = .ok ⟨l'⟩ w := by
  subst hk
  exact run_loadCells_list w _ l' (fun j v hj => by rw [addr_add]; exact h j v hj)

def aggB (P : Program) (t : TypeId) : Option Bool :=
  match P.underlying t with
  | some (.struct _) => some true
  | some (.array _ _) => some true
  | some _ => some false
  | none => none
theorem aggB_run {P : Program} {t : TypeId} {g : Bool} (h : aggB P t = some g) (w : World) : (isAgg t).run P w = .ok g w := by
  unfold aggB at h
  split at h <;> simp_all [isAgg, underlying]
theorem sizeOf_run {P : Program} {t : TypeId} {i : TypeInfo} (h : P.info? t = some i) (w : World) : (sizeOf t).run P w = .ok i.size w := by
  simp [sizeOf, typeInfo, h]

def loadV (P : Program) (t : TypeId) (h : List Blk) (n o : Nat) : Option Value :=
  match aggB P t with
  | some true =>
    match P.info? t with
    | some i => (readCells h n o i.size).map fun l => .agg ⟨l⟩
    | none => none
  | some false =>
    match readCells h n o 1 with
    | some [v] => some v
    | _ => none
  | none => none
theorem loadV_sound {P : Program} {B lo : Nat} {D : Nat → Prop} {m : NMap} {h : List Blk} {w : World} (hr : Rel B lo D m h w) {t : TypeId} {n o : Nat} {v : Value} (hD : D n) (hv : loadV P t h n o = some v) :
    ∃ v', (loadVar t ⟨(m n).block, (m n).off + o, none⟩).run P w = .ok v' w ∧ VR D m v v' := by
  unfold loadV at hv
  split at hv
  · rename_i hg
    split at hv
    · rename_i i hi
      cases hl : readCells h n o i.size with
      | none => rw [hl] at hv; cases hv
      | some l =>
        rw [hl] at hv
        obtain rfl := Option.some.inj hv
        obtain ⟨l', hvr, hk, hc⟩ := readCells_sound hr hD hl
        refine ⟨.agg ⟨l'⟩, ?_, VR.agg' hvr⟩
        simp [loadVar, aggB_run hg, sizeOf_run hi, loadCells_sound hc _ (hvr.len.trans hk)]
    · cases hv
  · rename_i hg
    split at hv
    · rename_i v0 hl
      obtain rfl := Option.some.inj hv
      obtain ⟨l', hvr, hk, hc⟩ := readCells_sound hr hD hl
      obtain ⟨v', hv', hx⟩ := hvr.at (i := 0) (v := v0) rfl
      refine ⟨v', ?_, hx⟩
      have := hc 0 v' hv'
      simp at this
      simp [loadVar, aggB_run hg, this]
    · cases hv
  · cases hv

theorem oneCell_vr {D : Nat → Prop} {m : NMap} {v v' : Value} (h : VR D m v v') (h1 : v.oneCell' = true) : v'.oneCell' = true := by
  cases h <;> simp_all [Value.oneCell']
theorem cells_vr {D : Nat → Prop} {m : NMap} {v v' : Value} (h : VR D m v v') : VRs D m v.cells.toList v'.cells.toList := by
  have one : ∀ u u', VR D m u u' → VRs D m [u] [u'] := fun u u' h => VRs.cons h VRs.nil
  cases h with
  | agg a a' la ha => exact ⟨la, ha⟩
  | bool b => exact one _ _ (.bool b)
  | int k n => exact one _ _ (.int k n)
  | float k n => exact one _ _ (.float k n)
  | complex k a b => exact one _ _ (.complex k a b)
  | string s => exact one _ _ (.string s)
  | nilPtr => exact one _ _ .nilPtr
  | ptr n o h => exact one _ _ (.ptr n o h)
  | nilSlice l c => exact one _ _ (.nilSlice l c)
  | slice n o l c c' h hl hc he => exact one _ _ (.slice n o l c c' h hl hc he)
  | nilMap => exact one _ _ .nilMap
  | map n h => exact one _ _ (.map n h)
  | func f a b a' b' la ha lb hb => exact one _ _ (.func f a b a' b' la ha lb hb)
  | yield n h => exact one _ _ (.yield n h)
  | nilFunc => exact one _ _ .nilFunc
  | nilIface => exact one _ _ .nilIface
  | iface t v v' h => exact one _ _ (.iface t v v' h)
  | tuple a a' la ha => exact one _ _ (.tuple a a' la ha)

def writeBlk (h : List Blk) (n o : Nat) (vs : List Value) : Option (List Blk) :=
  match h[n]? with
  | some (.cells es c) => if o + vs.length ≤ c.length ∧ vs.all (·.oneCell') = true then some (h.set n (.cells es (splice c o vs))) else none
  | _ => none
theorem writeBlk_sound {P : Program} {B lo : Nat} {D : Nat → Prop} {m : NMap} {h h' : List Blk} {w : World} (hr : Rel B lo D m h w) {n o : Nat} {vs vs' : List Value} (hD : D n) (hl : lo ≤ n) (hw : writeBlk h n o vs = some h') (hv : VRs D m vs vs') :
    (storeCells ⟨(m n).block, (m n).off + o, none⟩ vs').run P w = .ok () (w.setCells (m n).block ((m n).off + o) vs') ∧ Post B lo D m h w m h' (w.setCells (m n).block ((m n).off + o) vs') := by
  unfold writeBlk at hw
  split at hw
  · rename_i es c hn
    split at hw
    · rename_i hc
      obtain rfl := Option.some.inj hw
      obtain ⟨hfit, hone⟩ := hc
      have hown := hr.own n _ hD hl hn
      have hx : ∀ j, j < vs'.length → (∃ u, w.cell? ⟨(m n).block, (m n).off + o + j, none⟩ = some u) ∧ w.frozen? ⟨(m n).block, (m n).off + o + j, none⟩ = false := fun j hj => by
        rw [hv.len] at hj
        have := hown.1
        rw [Nat.add_assoc]
        exact hown.2 (o + j) (by omega)
      refine ⟨?_, hr.writeCells hD hl hn hfit hv⟩
      have := run_storeCells_cells (P := P) (m n).block ((m n).off + o) vs' 0 w (fun j hj => by obtain ⟨u, hu⟩ := (hx j hj).1; simp [hu]) (fun j hj => by simpa using (hx j hj).2) (fun x hx => by
        obtain ⟨i, hi⟩ := List.mem_iff_getElem?.1 hx
        have hlt : i < vs.length := by have := (List.getElem?_eq_some_iff.1 hi).1; rw [hv.len] at this; exact this
        exact oneCell_vr (hv.at' i _ _ (List.getElem?_eq_getElem hlt) hi) (by simpa using (List.all_eq_true.1 hone) _ (List.getElem_mem hlt)))
      simpa using this
    · cases hw
  · cases hw

def storeV (P : Program) (t : TypeId) (h : List Blk) (n o : Nat) (v : Value) : Option (List Blk) :=
  match P.info? t with
  | some i => if v.cells.size = i.size then writeBlk h n o v.cells.toList else none
  | none => none
theorem storeV_sound {P : Program} {B lo : Nat} {D : Nat → Prop} {m : NMap} {h h' : List Blk} {w : World} (hr : Rel B lo D m h w) {t : TypeId} {n o : Nat} {v v' : Value} (hD : D n) (hl : lo ≤ n) (hw : storeV P t h n o v = some h') (hv : VR D m v v') :
    ∃ w', (storeVar t ⟨(m n).block, (m n).off + o, none⟩ v').run P w = .ok () w' ∧ Post B lo D m h w m h' w' := by
  unfold storeV at hw
  split at hw
  · rename_i i hi
    split at hw
    · rename_i hs
      obtain ⟨h1, h2⟩ := writeBlk_sound (P := P) hr hD hl hw (cells_vr hv)
      have hs' : v'.cells.size = i.size := by
        have := (cells_vr hv).len
        simp only [Array.length_toList] at this
        omega
      refine ⟨_, ?_, h2⟩
      simp [storeVar, sizeOf_run hi, hs', h1]
    · cases hw
  · cases hw

/-- a new variable -/
theorem newVar_sound {P : Program} {B lo : Nat} {D : Nat → Prop} {m : NMap} {h : List Blk} {w : World} (hr : Rel B lo D m h w) (hlo : lo ≤ h.length) (es : Nat) (t : TypeId) {v v' : Value} (hv : VR D m v v') :
    StepV P B lo D m h w (do pure (.pointer (some (← newVar t v')))) (.pointer (some ⟨h.length, 0, none⟩)) (h ++ [.cells es v.cells.toList]) := by
  have hp := hr.pushCells hlo es (cells_vr hv) t
  refine ⟨.pointer (some ⟨w.heap.size, 0, none⟩), w.alloc (.cells v'.cells t), _, by simp [newVar, newRow], hp, ?_⟩
  have := VR.ptr (D := Dx D h.length (h ++ [Blk.cells es v.cells.toList]).length) (m := upd m h.length ⟨w.heap.size, 0, v.cells.toList.length, es⟩) h.length 0 (.inr (by simp))
  rwa [upd_same] at this
end Go.Rex
