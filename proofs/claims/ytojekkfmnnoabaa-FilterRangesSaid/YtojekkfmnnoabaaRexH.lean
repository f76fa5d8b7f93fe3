/- An executor of the program's functions on trees of values, proved sound. -/
import Derived.Test.YtojekkfmnnoabaaRexG
set_option linter.unusedSimpArgs false
set_option linter.unusedVariables false
set_option linter.defProp false
namespace Go.Rex
open Go.RowKit

theorem slice_vr' {D : Nat → Prop} {h h' : List Blk} {m : NMap} {i : Info} {l c c' : Nat} (hlen : h.length < h'.length) (hl : l ≤ c) (hc : c ≤ c') (he : c' * i.es ≤ i.ext) :
    VR (Dx D h.length h'.length) (upd m h.length i) (.slice (some ⟨h.length, 0, none⟩) l c) (.slice (some ⟨i.block, i.off, none⟩) l c') := by
  have := VR.slice (D := Dx D h.length h'.length) (m := upd m h.length i) h.length 0 l c c' (.inr ⟨Nat.le_refl _, hlen⟩) hl hc (.inr (by rw [upd_same]; omega))
  rw [upd_same] at this
  exact this
theorem zeroCells_len (z : Array Value) (n : Nat) : (Builtin.zeroCells z n).toList.length = n * z.size := by simp [Builtin.zeroCells]

theorem appendV_sound {P : Program} {B lo : Nat} {D : Nat → Prop} {m : NMap} {h h' : List Blk} {w : World} (hr : Rel B lo D m h w) (hlo : lo ≤ h.length) {argTypes : Array TypeId} {ty : TypeId} {s x s' x' v : Value} {wr : Option Nat}
    (hs : VR D m s s') (hx : VR D m x x') (hv : appendV P argTypes s x h = some (v, h', wr)) (hw : WrOk lo wr) : StepV P B lo D m h w (Builtin.append_ argTypes ty #[s', x']) v h' := by
  unfold appendV at hv
  split at hv
  · cases hv
  rename_i st h0
  split at hv
  · rename_i e hu
    split at hv
    · cases hv
    rename_i i hi
    split at hv
    · rename_i hn
      split at hv
      · cases hv
      rename_i n new hsrc
      obtain ⟨new', hl, hc, hnv⟩ := srcCells_sound (P := P) hr hx hsrc
      split at hv
      · -- nil
        cases hs
        split at hv
        · rename_i hn0
          subst hn0
          split at hv
          · rename_i hemp
            have hnil : new = [] := by simpa using hemp
            subst hnil
            have hnil' : new' = [] := by have := hnv.len; simpa using this
            subst hnil'
            obtain ⟨rfl, rfl, rfl⟩ : Value.slice none 0 0 = v ∧ h = h' ∧ none = wr := by simpa using hv
            exact StepV.pure hr (append_in_run h0 hu hi hn hl hc (Nat.le_refl _) rfl) (.nilSlice _ _)
          · cases hv
        · rename_i hn0
          split at hv
          · rename_i hcond
            obtain ⟨c1, c2, c3, c4⟩ := hcond
            obtain ⟨rfl, rfl, rfl⟩ : _ = v ∧ _ = h' ∧ none = wr := by simpa using hv
            obtain ⟨z, hz, hzs⟩ : ∃ z, i.zero = some z ∧ z.cells.size = i.size := by
              cases hz : i.zero with
              | none => rw [hz] at c3; cases c3
              | some z => rw [hz] at c3; exact ⟨z, rfl, by simpa using c3⟩
            obtain ⟨_, hl', hc', _⟩ := srcCells_sound (P := P) (w := w.drew) (hr.frame ((Below.refl _ _).drew)) hx hsrc
            have hrd := hr.frame (w' := w.drew) ((Below.refl _ _).drew)
            obtain ⟨new2, hl2, hc2, hnv2⟩ := srcCells_sound (P := P) hrd hx hsrc
            obtain ⟨cap, hcap, hrun⟩ := append_new_run (ty := ty) (base := none) (len := 0) (cap := 0) h0 hu hi hn hl hc2 (by omega) (by simpa using c2) (by omega) (old := []) rfl hz
            have hp := (Post.frame hr (w' := w.drew) ((Below.refl _ _).drew)).trans (hrd.pushRoom hlo i.size hnv2 (Builtin.zeroCells z.cells (cap - (0 + n))).toList e |> fun p => by rw [Dx.refl]; exact p)
            refine ⟨_, _, _, by simpa using hrun, by simpa using hp, ?_⟩
            have := slice_vr (D := D) (h := h) (h' := h ++ [Blk.cells i.size new]) (m := m) (i := ⟨w.drew.heap.size, 0, new.length + (Builtin.zeroCells z.cells (cap - (0 + n))).toList.length, i.size⟩) (l := n) (c := n) (c' := cap) (by simp) (Nat.le_refl _) (by omega)
              (by
                rw [zeroCells_len, hzs, c4]
                show cap * i.size ≤ n * i.size + (cap - (0 + n)) * i.size
                rw [← Nat.add_mul]
                exact Nat.mul_le_mul_right _ (by omega)) rfl
            simpa using this
          · cases hv
      · -- a slice
        rename_i nm o len c
        cases hs with
        | slice _ _ _ _ c' hD hlc hcc he =>
        split at hv
        · rename_i hn0
          subst hn0
          split at hv
          · rename_i hemp
            have hnil : new = [] := by simpa using hemp
            subst hnil
            have hnil' : new' = [] := by have := hnv.len; simpa using this
            subst hnil'
            obtain ⟨rfl, rfl, rfl⟩ : _ = v ∧ h = h' ∧ none = wr := by simpa using hv
            exact StepV.pure hr (append_in_run h0 hu hi hn hl hc (by omega) rfl) (.slice _ _ _ _ _ hD hlc hcc he)
          · cases hv
        · rename_i hn0
          split at hv
          · -- there is room
            rename_i hroom
            cases hwb : writeBlk h nm (o + len * i.size) new with
            | none => rw [hwb] at hv; cases hv
            | some h1 =>
              rw [hwb] at hv
              obtain ⟨rfl, rfl, rfl⟩ : _ = v ∧ h1 = h' ∧ some nm = wr := by simpa using hv
              obtain ⟨hst, hp⟩ := writeBlk_sound (P := P) hr hD (hw nm rfl) hwb hnv
              refine ⟨_, _, m, append_in_run h0 hu hi hn hl hc (by omega) ?_, hp, ?_⟩
              · simp only [addr_add]
                rw [Nat.add_assoc]
                exact hst
              · exact hp.vr (.slice _ _ _ _ _ hD hroom hcc he)
          · -- at the top
            rename_i hroom
            split at hv
            · rename_i es cs hb
              split at hv
              · rename_i hcond
                obtain ⟨rfl, htop, hnl, hone, hsm, hby, hz0⟩ := hcond
                obtain ⟨rfl, rfl, rfl⟩ : _ = v ∧ _ = h' ∧ some nm = wr := by simpa using hv
                have hlnm : lo ≤ nm := hw nm rfl
                obtain ⟨z, hz, hzs⟩ : ∃ z, i.zero = some z ∧ z.cells.size = i.size := by
                  cases hz : i.zero with
                  | none => rw [hz] at hz0; cases hz0
                  | some z => rw [hz] at hz0; exact ⟨z, rfl, by simpa using hz0⟩
                have hes : (m nm).es = i.size := (hr.ok nm _ hD hb).1
                have hext := (hr.own nm _ hD hlnm hb).1
                rw [hes] at he
                by_cases hin : len + n ≤ c'
                · -- in place
                  have hfit : cs.length + new.length ≤ (m nm).ext := by
                    rcases he with h00 | he
                    · rw [hnl, h00]; simpa using hext
                    · rw [← htop, hnl, Nat.add_assoc, ← Nat.add_mul]
                      exact Nat.le_trans (Nat.add_le_add_left (Nat.mul_le_mul_right _ hin) _) he
                  have hp1 := hr.extend hD hlnm hb hfit hnv
                  have hlt := hr.dom nm hD
                  have hst : (storeCells ⟨(m nm).block, (m nm).off + cs.length, none⟩ new').run P w = .ok () (w.setCells (m nm).block ((m nm).off + cs.length) new') := by
                    have hown := hr.own nm _ hD hlnm hb
                    have hx' : ∀ j, j < new'.length → (∃ u, w.cell? ⟨(m nm).block, (m nm).off + cs.length + j, none⟩ = some u) ∧ w.frozen? ⟨(m nm).block, (m nm).off + cs.length + j, none⟩ = false := fun j hj => by
                      rw [hnv.len] at hj
                      rw [Nat.add_assoc]
                      exact hown.2 (cs.length + j) (by omega)
                    have := run_storeCells_cells (P := P) (m nm).block ((m nm).off + cs.length) new' 0 w (fun j hj => by obtain ⟨u, hu⟩ := (hx' j hj).1; simp [hu]) (fun j hj => by simpa using (hx' j hj).2) (fun x hx => by
                      obtain ⟨k, hk⟩ := List.mem_iff_getElem?.1 hx
                      have hlt : k < new.length := by have := (List.getElem?_eq_some_iff.1 hk).1; rw [hnv.len] at this; exact this
                      exact oneCell_vr (hnv.at' k _ _ (List.getElem?_eq_getElem hlt) hk) (by simpa using (List.all_eq_true.1 hone) _ (List.getElem_mem hlt)))
                    simpa using this
                  have hrel := hp1.rel
                  rw [show (h.set nm (.cells i.size (cs ++ new))).length = h.length by simp, Dx.refl] at hrel
                  have hp2 := hrel.move (by simpa using hlo) hD hlnm (List.getElem?_set_self hlt) o (by omega)
                  have hp := hp1.trans (by rw [show (h.set nm (.cells i.size (cs ++ new))).length = h.length by simp, Dx.refl]; exact hp2)
                  rw [show (h.set nm (.cells i.size (cs ++ new))).length = h.length by simp] at hp
                  have e1 : ((h.set nm (.cells i.size (cs ++ new))).set nm .dead ++ [Blk.cells i.size ((cs ++ new).drop o)]) = h.set nm .dead ++ [Blk.cells i.size (cs.drop o ++ new)] := by
                    rw [List.set_set, List.drop_append_of_le_length (by omega)]
                  rw [e1] at hp
                  refine ⟨_, _, _, append_in_run h0 hu hi hn hl hc hin ?_, hp, ?_⟩
                  · simp only [addr_add]
                    rw [Nat.add_assoc, htop]
                    exact hst
                  · exact slice_vr' (D := D) (h := h) (h' := h.set nm .dead ++ [Blk.cells i.size (cs.drop o ++ new)]) (m := m) (i := ⟨(m nm).block, (m nm).off + o, (m nm).ext - o, i.size⟩) (l := len + n) (c := len + n) (c' := c') (by simp) (Nat.le_refl _) hin (by
                      show c' * i.size ≤ (m nm).ext - o
                      rcases he with h00 | he
                      · rw [h00]; simp
                      · omega)
                · -- a new array
                  have hrd := hr.frame (w' := w.drew) ((Below.refl _ _).drew)
                  obtain ⟨new2, hl2, hc2, hnv2⟩ := srcCells_sound (P := P) hrd hx hsrc
                  have hread : readCells h nm o (len * i.size) = some (cs.drop o) := by
                    unfold readCells
                    rw [hb]
                    simp only []
                    rw [if_pos (by omega), List.take_of_length_le (by simp; omega)]
                  obtain ⟨old', hov, hok, hoc⟩ := readCells_sound hrd hD hread
                  obtain ⟨cap, hcap, hrun⟩ := append_new_run (ty := ty) (base := some ⟨(m nm).block, (m nm).off + o, none⟩) (len := len) (cap := c') h0 hu hi hn hl hc2 hin hby hsm (old := old') (loadCells_sound hoc _ (hov.len.trans hok)) hz
                  have hk := Post.kill hrd nm
                  have hrk := hrd.kill nm
                  have hp := (Post.frame hr (w' := w.drew) ((Below.refl _ _).drew)).trans (by rw [Dx.refl]; exact hk)
                  have hp := hp.trans (by
                    rw [show (h.set nm Blk.dead).length = h.length by simp, Dx.refl]
                    exact hrk.pushRoom (by simpa using hlo) i.size (hov.append hnv2) (Builtin.zeroCells z.cells (cap - (len + n))).toList e)
                  refine ⟨_, _, _, hrun, hp, ?_⟩
                  rw [show (h.set nm Blk.dead).length = h.length by simp]
                  have hd : (cs.drop o).length = len * i.size := by simp; omega
                  exact slice_vr' (D := D) (h := h) (h' := h.set nm .dead ++ [Blk.cells i.size (cs.drop o ++ new)]) (m := m) (i := ⟨w.drew.heap.size, 0, (cs.drop o ++ new).length + (Builtin.zeroCells z.cells (cap - (len + n))).toList.length, i.size⟩) (l := len + n) (c := len + n) (c' := cap) (by simp) (Nat.le_refl _) hcap (by
                    rw [zeroCells_len, hzs, List.length_append, hd, hnl]
                    show cap * i.size ≤ len * i.size + n * i.size + (cap - (len + n)) * i.size
                    rw [← Nat.add_mul, ← Nat.add_mul]
                    exact Nat.mul_le_mul_right _ (by omega))
              · cases hv
            · cases hv
      · cases hv
    · cases hv
  · cases hv
end Go.Rex
