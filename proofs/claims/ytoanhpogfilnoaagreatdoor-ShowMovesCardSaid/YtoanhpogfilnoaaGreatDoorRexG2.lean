/- An executor of the program's functions on trees of values, proved sound. -/
import Derived.Laws.IdiomStrings
import Derived.Lib.ConvBytes
import Derived.Lib.Builder
import Derived.Lib.UnsafeStr
import Derived.Test.YtoanhpogfilnoaaGreatDoorRexG1
import Derived.MapKept
set_option linter.unusedSimpArgs false
set_option linter.unusedVariables false
set_option linter.defProp false
namespace Go.Rex
open Go.RowKit

theorem slice_vr' {D : Nat → Prop} {h h' : List Blk} {m : NMap} {i : Info} {l c c' : Nat} (hlen : h.length < h'.length) (hl : l ≤ c) (hc : c ≤ c') (he : c' * i.es ≤ i.ext) :
    VR (Dx D h.length h'.length) (upd m h.length i) (.slice (some ⟨h.length,0,none⟩) l c) (.slice (some ⟨i.block,i.off,none⟩) l c'):=by
  have:=VR.slice (D:=Dx D h.length h'.length) (m:=upd m h.length i) h.length 0 l c c' (.inr ⟨Nat.le_refl _,hlen⟩) hl hc (.inr (by rw [upd_same];omega))
  rw [upd_same] at this
  exact this
theorem zeroCells_len (z : Array Value) (n : Nat) : (Builtin.zeroCells z n).toList.length = n * z.size:=by simp [Builtin.zeroCells]

theorem zeroCells_vrs {D : Nat → Prop} {m : NMap} {z : Array Value} {n : Nat} (hz : z.all isClean = true) (hs : 0 < z.size) : VRs D m (Builtin.zeroCells z n).toList (Builtin.zeroCells z n).toList:=by
  refine VRs.refl_of fun v hv=>?_
  simp only [Builtin.zeroCells,Array.toList_map,List.mem_map] at hv
  obtain ⟨j,_,rfl⟩:=hv
  have hj : j % z.size < z.size:=Nat.mod_lt _ hs
  rw [getElem!_pos z _ hj]
  refine VR.of_clean depth _ ?_
  have:=Array.all_eq_true.1 hz (j % z.size) hj
  exact this
theorem appendZ_sound {P : Program} {B lo : Nat} {D : Nat → Prop} {m : NMap} {h h' : List Blk} {w : World} (hr : Rel B lo D m h w) (hlo : lo ≤ h.length) {argTypes : Array TypeId} {ty st e : TypeId} {i : TypeInfo} {s x s' x' v : Value} {wr : Option Nat}
    (h0 : argTypes[0]? = some st) (hu : P.underlying st = some (.slice e)) (hi : P.info? e = some i)
    (hs : VR D m s s') (hx : VR D m x x') (hv : appendZ P i argTypes[1]? s x h = some (v,h',wr)) : StepV P B lo D m h w (Builtin.append_ argTypes ty #[s',x']) v h':=by
  unfold appendZ at hv
  split at hv
  · cases hs
    split at hv
    · rename_i k l
      cases hx
      split at hv
      · rename_i z hz
        split at hv
        · rename_i hc
          obtain ⟨c1,c2,c3,c4,c5,c6,c7,c8⟩:=hc
          obtain ⟨rfl,rfl,rfl⟩ : _ = v ∧ _ = h' ∧ none = wr:=by simpa using hv
          have hrd:=hr.frame (w':=w.drew) ((Below.refl _ _).drew)
          obtain ⟨cap,hcap,hrun⟩:=append_zero_run (ty:=ty) (k:=k) (w:=w) h0 hu hi c1 c2 c3 c4 c5 hz c7
          have hp:=(Post.frame hr (w':=w.drew) ((Below.refl _ _).drew)).trans (hrd.pushRoom hlo i.size (zeroCells_vrs (D:=D) (m:=m) (n:=l.toNat) c8 (by omega)) (Builtin.zeroCells z.cells (cap - l.toNat)).toList e |> fun p=>by rw [Dx.refl];exact p)
          refine ⟨_,_,_,hrun,by simpa using hp,?_⟩
          have:=slice_vr (D:=D) (h:=h) (h':=h ++ [Blk.cells i.size (Builtin.zeroCells z.cells l.toNat).toList]) (m:=m) (i:=⟨w.drew.heap.size,0,(Builtin.zeroCells z.cells l.toNat).toList.length + (Builtin.zeroCells z.cells (cap - l.toNat)).toList.length,i.size⟩) (l:=l.toNat) (c:=l.toNat) (c':=cap) (by simp) (Nat.le_refl _) hcap
            (by
              rw [zeroCells_len,zeroCells_len,c6]
              show cap * i.size ≤ l.toNat * i.size + (cap - l.toNat) * i.size
              rw [← Nat.add_mul]
              exact Nat.mul_le_mul_right _ (by omega)) rfl
          simpa using this
        · cases hv
      · cases hv
    · cases hv
  · cases hv

theorem appendV_sound {P : Program} {B lo : Nat} {D : Nat → Prop} {m : NMap} {h h' : List Blk} {w : World} (hr : Rel B lo D m h w) (hlo : lo ≤ h.length) {argTypes : Array TypeId} {ty : TypeId} {s x s' x' v : Value} {wr : Option Nat}
    (hs : VR D m s s') (hx : VR D m x x') (hv : appendV P argTypes s x h = some (v,h',wr)) (hw : WrOk lo wr) : StepV P B lo D m h w (Builtin.append_ argTypes ty #[s',x']) v h':=by
  unfold appendV at hv
  split at hv
  · cases hv
  rename_i st h0
  split at hv
  · rename_i e hu
    split at hv
    · cases hv
    rename_i i hi
    split at hv
    · rename_i hn
      split at hv
      · cases hv
      rename_i n new hsrc
      obtain ⟨new',hl,hc,hnv⟩:=srcCells_sound (P:=P) hr hx hsrc
      split at hv
      · -- nil
        cases hs
        split at hv
        · rename_i hn0
          subst hn0
          split at hv
          · rename_i hemp
            have hnil : new = []:=by simpa using hemp
            subst hnil
            have hnil' : new' = []:=by have:=hnv.len;simpa using this
            subst hnil'
            obtain ⟨rfl,rfl,rfl⟩ : Value.slice none 0 0 = v ∧ h = h' ∧ none = wr:=by simpa using hv
            exact StepV.pure hr (append_in_run h0 hu hi hn hl hc (Nat.le_refl _) rfl) (.nilSlice _ _)
          · cases hv
        · rename_i hn0
          split at hv
          · rename_i hcond
            obtain ⟨c1,c2,c3,c4⟩:=hcond
            obtain ⟨rfl,rfl,rfl⟩ : _ = v ∧ _ = h' ∧ none = wr:=by simpa using hv
            obtain ⟨z,hz,hzs⟩ : ∃ z,i.zero = some z ∧ z.cells.size = i.size:=by
              cases hz : i.zero with
              | none=>rw [hz] at c3;cases c3
              | some z=>rw [hz] at c3;exact ⟨z,rfl,by simpa using c3⟩
            obtain ⟨_,hl',hc',_⟩:=srcCells_sound (P:=P) (w:=w.drew) (hr.frame ((Below.refl _ _).drew)) hx hsrc
            have hrd:=hr.frame (w':=w.drew) ((Below.refl _ _).drew)
            obtain ⟨new2,hl2,hc2,hnv2⟩:=srcCells_sound (P:=P) hrd hx hsrc
            obtain ⟨cap,hcap,hrun⟩:=append_new_run (ty:=ty) (base:=none) (len:=0) (cap:=0) h0 hu hi hn hl hc2 (by omega) (by simpa using c2) (by omega) (old:=[]) rfl hz
            have hpush : Post B lo D m h w.drew (upd m h.length ⟨w.drew.heap.size,0,new.length + (Builtin.zeroCells z.cells (cap - (0 + n))).toList.length,i.size⟩) (h ++ [mkRow x e i.size new]) (w.drew.alloc (.cells ⟨new2 ++ (Builtin.zeroCells z.cells (cap - (0 + n))).toList⟩ e)):=by
              unfold mkRow
              split
              · exact hrd.pushRoomT hlo i.size hnv2 (Builtin.zeroCells z.cells (cap - (0 + n))).toList e (fun h0=>by rw [zeroCells_len,hzs,h0,Nat.mul_zero])
              · exact hrd.pushRoom hlo i.size hnv2 (Builtin.zeroCells z.cells (cap - (0 + n))).toList e
            have hp:=(Post.frame hr (w':=w.drew) ((Below.refl _ _).drew)).trans (hpush |> fun p=>by rw [Dx.refl];exact p)
            refine ⟨_,_,_,by simpa using hrun,by simpa using hp,?_⟩
            have:=slice_vr (D:=D) (h:=h) (h':=h ++ [mkRow x e i.size new]) (m:=m) (i:=⟨w.drew.heap.size,0,new.length + (Builtin.zeroCells z.cells (cap - (0 + n))).toList.length,i.size⟩) (l:=n) (c:=n) (c':=cap) (by simp) (Nat.le_refl _) (by omega)
              (by
                rw [zeroCells_len,hzs,c4]
                show cap * i.size ≤ n * i.size + (cap - (0 + n)) * i.size
                rw [← Nat.add_mul]
                exact Nat.mul_le_mul_right _ (by omega)) rfl
            simpa using this
          · cases hv
      · -- a slice
        rename_i nm o len c
        cases hs with
        | slice _ _ _ _ c' hD hlc hcc he =>
        split at hv
        · rename_i hn0
          subst hn0
          split at hv
          · rename_i hemp
            have hnil : new = []:=by simpa using hemp
            subst hnil
            have hnil' : new' = []:=by have:=hnv.len;simpa using this
            subst hnil'
            obtain ⟨rfl,rfl,rfl⟩ : _ = v ∧ h = h' ∧ none = wr:=by simpa using hv
            exact StepV.pure hr (append_in_run h0 hu hi hn hl hc (by omega) rfl) (.slice _ _ _ _ _ hD hlc hcc he)
          · cases hv
        · rename_i hn0
          split at hv
          · -- there is room
            rename_i hroom
            cases hwb : writeBlk h nm (o + len * i.size) new with
            | none=>rw [hwb] at hv;cases hv
            | some h1 =>
              rw [hwb] at hv
              obtain ⟨rfl,rfl,rfl⟩ : _ = v ∧ h1 = h' ∧ some nm = wr:=by simpa using hv
              obtain ⟨hst,hp⟩:=writeBlk_sound (P:=P) hr hD (hw nm rfl) hwb hnv
              refine ⟨_,_,m,append_in_run h0 hu hi hn hl hc (by omega) ?_,hp,?_⟩
              · simp only [addr_add]
                rw [Nat.add_assoc]
                exact hst
              · exact hp.vr (.slice _ _ _ _ _ hD hroom hcc he)
          · -- at the top
            rename_i hroom
            split at hv
            · rename_i es cs hb
              split at hv
              · rename_i hcond
                obtain ⟨rfl,htop,hnl,hone,hsm,hby,hz0⟩:=hcond
                obtain ⟨rfl,rfl,rfl⟩ : _ = v ∧ _ = h' ∧ some nm = wr:=by simpa using hv
                have hlnm : lo ≤ nm:=hw nm rfl
                obtain ⟨z,hz,hzs⟩ : ∃ z,i.zero = some z ∧ z.cells.size = i.size:=by
                  cases hz : i.zero with
                  | none=>rw [hz] at hz0;cases hz0
                  | some z=>rw [hz] at hz0;exact ⟨z,rfl,by simpa using hz0⟩
                have hes : (m nm).es = i.size:=(hr.ok nm _ hD hb).1
                have hext:=(hr.own nm _ hD hlnm hb).1
                rw [hes] at he
                by_cases hin : len + n ≤ c'
                · -- in place
                  have hfit : cs.length + new.length ≤ (m nm).ext:=by
                    rcases he with (h00|h00)|he
                    · rw [hnl,h00];simpa using hext
                    · omega
                    · rw [← htop,hnl,Nat.add_assoc,← Nat.add_mul]
                      exact Nat.le_trans (Nat.add_le_add_left (Nat.mul_le_mul_right _ hin) _) he
                  have hp1:=hr.extend hD hlnm hb hfit hnv
                  have hlt:=hr.dom nm hD
                  have hst : (storeCells ⟨(m nm).block,(m nm).off + cs.length,none⟩ new').run P w = .ok () (w.setCells (m nm).block ((m nm).off + cs.length) new'):=by
                    have hown:=hr.own nm _ hD hlnm hb
                    have hx' : ∀ j,j < new'.length → (∃ u,w.cell? ⟨(m nm).block,(m nm).off + cs.length + j,none⟩ = some u) ∧ w.frozen? ⟨(m nm).block,(m nm).off + cs.length + j,none⟩ = false:=fun j hj=>by
                      rw [hnv.len] at hj
                      rw [Nat.add_assoc]
                      exact hown.2 (cs.length + j) (by omega)
                    have:=run_storeCells_cells (P:=P) (m nm).block ((m nm).off + cs.length) new' 0 w (fun j hj=>by obtain ⟨u,hu⟩:=(hx' j hj).1;simp [hu]) (fun j hj=>by simpa using (hx' j hj).2) (fun x hx=>by
                      obtain ⟨k,hk⟩:=List.mem_iff_getElem?.1 hx
                      have hlt : k < new.length:=by have:=(List.getElem?_eq_some_iff.1 hk).1;rw [hnv.len] at this;exact this
                      exact oneCell_vr (hnv.at' k _ _ (List.getElem?_eq_getElem hlt) hk) (by simpa using (List.all_eq_true.1 hone) _ (List.getElem_mem hlt)))
                    simpa using this
                  have hrel:=hp1.rel
                  rw [show (h.set nm (.cells i.size (cs ++ new))).length = h.length by simp,Dx.refl] at hrel
                  have hp2:=hrel.move (by simpa using hlo) hD hlnm (List.getElem?_set_self hlt) o (by omega)
                  have hp:=hp1.trans (by rw [show (h.set nm (.cells i.size (cs ++ new))).length = h.length by simp,Dx.refl];exact hp2)
                  rw [show (h.set nm (.cells i.size (cs ++ new))).length = h.length by simp] at hp
                  have e1 : ((h.set nm (.cells i.size (cs ++ new))).set nm .dead ++ [Blk.cells i.size ((cs ++ new).drop o)]) = h.set nm .dead ++ [Blk.cells i.size (cs.drop o ++ new)]:=by
                    rw [List.set_set,List.drop_append_of_le_length (by omega)]
                  rw [e1] at hp
                  refine ⟨_,_,_,append_in_run h0 hu hi hn hl hc hin ?_,hp,?_⟩
                  · simp only [addr_add]
                    rw [Nat.add_assoc,htop]
                    exact hst
                  · exact slice_vr' (D := D) (h := h) (h' := h.set nm .dead ++ [Blk.cells i.size (cs.drop o ++ new)]) (m := m) (i := ⟨(m nm).block, (m nm).off + o, (m nm).ext - o, i.size⟩) (l := len + n) (c := len + n) (c' := c') (by simp) (Nat.le_refl _) hin (by
                      show c' * i.size ≤ (m nm).ext - o
                      rcases he with (h00|h00)|he
                      · rw [h00];simp
                      · omega
                      · omega)
                · -- a new array
                  have hrd:=hr.frame (w':=w.drew) ((Below.refl _ _).drew)
                  obtain ⟨new2,hl2,hc2,hnv2⟩:=srcCells_sound (P:=P) hrd hx hsrc
                  have hread : readCells h nm o (len * i.size) = some (cs.drop o):=by
                    unfold readCells
                    rw [hb]
                    simp only []
                    rw [if_pos (by omega),List.take_of_length_le (by simp;omega)]
                  obtain ⟨old',hov,hok,hoc⟩:=readCells_sound hrd hD hread
                  obtain ⟨cap,hcap,hrun⟩:=append_new_run (ty:=ty) (base:=some ⟨(m nm).block,(m nm).off + o,none⟩) (len:=len) (cap:=c') h0 hu hi hn hl hc2 hin hby hsm (old:=old') (loadCells_sound hoc _ (hov.len.trans hok)) hz
                  have hk:=Post.kill hrd nm
                  have hrk:=hrd.kill nm
                  have hp:=(Post.frame hr (w':=w.drew) ((Below.refl _ _).drew)).trans (by rw [Dx.refl];exact hk)
                  have hp:=hp.trans (by
                    rw [show (h.set nm Blk.dead).length = h.length by simp,Dx.refl]
                    exact hrk.pushRoom (by simpa using hlo) i.size (hov.append hnv2) (Builtin.zeroCells z.cells (cap - (len + n))).toList e)
                  refine ⟨_,_,_,hrun,hp,?_⟩
                  rw [show (h.set nm Blk.dead).length = h.length by simp]
                  have hd : (cs.drop o).length = len * i.size:=by simp;omega
                  exact slice_vr' (D:=D) (h:=h) (h':=h.set nm .dead ++ [Blk.cells i.size (cs.drop o ++ new)]) (m:=m) (i:=⟨w.drew.heap.size,0,(cs.drop o ++ new).length + (Builtin.zeroCells z.cells (cap - (len + n))).toList.length,i.size⟩) (l:=len + n) (c:=len + n) (c':=cap) (by simp) (Nat.le_refl _) hcap (by
                    rw [zeroCells_len,hzs,List.length_append,hd,hnl]
                    show cap * i.size ≤ len * i.size + n * i.size + (cap - (len + n)) * i.size
                    rw [← Nat.add_mul,← Nat.add_mul]
                    exact Nat.mul_le_mul_right _ (by omega))
              · cases hv
            · cases hv
      · -- a slice without room
        cases hs
        rename_i a' c'
        split at hv
        · rename_i hn0
          subst hn0
          split at hv
          · rename_i hemp
            have hnil : new = []:=by simpa using hemp
            subst hnil
            have hnil' : new' = []:=by have:=hnv.len;simpa using this
            subst hnil'
            obtain ⟨rfl,rfl,rfl⟩ : _ = v ∧ h = h' ∧ none = wr:=by simpa using hv
            exact StepV.pure hr (append_in_run h0 hu hi hn hl hc (by omega) rfl) (.vague _ _)
          · cases hv
        · cases hv
      · cases hv
    · exact appendZ_sound hr hlo h0 hu hi hs hx hv
  · cases hv
theorem appendS_sound {P : Program} {B lo : Nat} {D : Nat → Prop} {m : NMap} {h h' : List Blk} {w : World} (hr : Rel B lo D m h w) (hlo : lo ≤ h.length) {argTypes : Array TypeId} {ty : TypeId} {s x s' x' v : Value} {wr : Option Nat}
    (hs : VR D m s s') (hx : VR D m x x') (hv : appendS P argTypes s x h = some (v,h',wr)) (hw : WrOk lo wr) : StepV P B lo D m h w (Builtin.append_ argTypes ty #[s',x']) v h':=by
  unfold appendS at hv
  split at hv
  · cases hv
  rename_i st h0
  split at hv
  · rename_i e hu
    split at hv
    · cases hv
    rename_i i hi
    split at hv
    · rename_i hn
      split at hv
      · rename_i b
        split at hv
        · rename_i nm len c
          split at hv
          · rename_i t es cs hb
            split at hv
            · rename_i hcond
              obtain ⟨hsz,rfl,rfl,rfl,hroom,hsm,hby,hz0⟩:=hcond
              cases hs with
              | slice _ _ _ _ c' hD hlc hcc he =>
              have hlnm : lo ≤ nm:=hw nm (Prod.mk.inj (Prod.mk.inj (Option.some.inj hv)).2).2.symm
              have hsrc : srcCells h i.size (.string b) = some (b.size,(b.extract 0 b.size).data.toList.map fun b=>.int .u8 b.toNat):=rfl
              generalize hnew : (b.extract 0 b.size).data.toList.map (fun b=>Value.int .u8 b.toNat) = new at hv hsrc
              have hnl : new.length = b.size:=by rw [← hnew];simp
              have hone : new.all (·.oneCell') = true:=by
                rw [← hnew,List.all_eq_true]
                intro y hy
                simp only [List.mem_map] at hy
                obtain ⟨_,_,rfl⟩:=hy
                rfl
              obtain ⟨new',hl,hc,hnv⟩:=srcCells_sound (P:=P) hr hx hsrc
              obtain ⟨z,hz,hzs⟩ : ∃ z,i.zero = some z ∧ z.cells.size = i.size:=by
                cases hz : i.zero with
                | none=>rw [hz] at hz0;cases hz0
                | some z=>rw [hz] at hz0;exact ⟨z,rfl,by simpa using hz0⟩
              have hok:=hr.ok nm _ hD hb
              have hown:=hr.own nm _ hD hlnm hb
              have hext:=hown.1
              have hes:=hok.1.1
              have hoff:=hok.1.2.1
              rw [hes] at he
              have hfit : cs.length + b.size ≤ c' → cs.length + new.length ≤ (m nm).ext:=fun hin=>by
                rcases he with (h00|h00)|he
                · cases h00
                · omega
                · omega
              have hst : cs.length + b.size ≤ c' → (storeCells ⟨(m nm).block,(m nm).off + cs.length,none⟩ new').run P w = .ok () (w.setCells (m nm).block ((m nm).off + cs.length) new'):=fun hin=>by
                have hfit:=hfit hin
                have hx' : ∀ j,j < new'.length → (∃ u,w.cell? ⟨(m nm).block,(m nm).off + cs.length + j,none⟩ = some u) ∧ w.frozen? ⟨(m nm).block,(m nm).off + cs.length + j,none⟩ = false:=fun j hj=>by
                  rw [hnv.len] at hj
                  rw [Nat.add_assoc]
                  exact hown.2 (cs.length + j) (by omega)
                have:=run_storeCells_cells (P:=P) (m nm).block ((m nm).off + cs.length) new' 0 w (fun j hj=>by obtain ⟨u,hu⟩:=(hx' j hj).1;simp [hu]) (fun j hj=>by simpa using (hx' j hj).2) (fun x hx=>by
                  obtain ⟨k,hk⟩:=List.mem_iff_getElem?.1 hx
                  have hlt : k < new.length:=by have:=(List.getElem?_eq_some_iff.1 hk).1;rw [hnv.len] at this;exact this
                  exact oneCell_vr (hnv.at' k _ _ (List.getElem?_eq_getElem hlt) hk) (by simpa using (List.all_eq_true.1 hone) _ (List.getElem_mem hlt)))
                simpa using this
              have hrun : cs.length + b.size ≤ c' → (Builtin.append_ argTypes ty #[.slice (some ⟨(m nm).block,(m nm).off + 0,none⟩) cs.length c',x']).run P w = .ok (.slice (some ⟨(m nm).block,(m nm).off + 0,none⟩) (cs.length + b.size) c') (w.setCells (m nm).block ((m nm).off + cs.length) new'):=fun hin=>append_in_run h0 hu hi hn hl hc hin (by
                simp only [addr_add,hsz]
                rw [Nat.add_zero,Nat.mul_one]
                exact hst hin)
              obtain ⟨rfl,rfl,rfl⟩ : _ = v ∧ _ = h' ∧ some nm = wr:=by simpa using hv
              have hlt:=hr.dom nm hD
              by_cases hin : cs.length + b.size ≤ c'
              · have hp1:=hr.extendT hD hlnm (by decide) hb (hfit hin) hnv
                have hrel:=hp1.rel
                rw [show (h.set nm (.tcells t 1 (cs ++ new))).length = h.length by simp,Dx.refl] at hrel
                have hp2:=hrel.moveT (by simpa using hlo) hD hlnm (List.getElem?_set_self hlt)
                have hp:=hp1.trans (by rw [show (h.set nm (.tcells t 1 (cs ++ new))).length = h.length by simp,Dx.refl];exact hp2)
                rw [show (h.set nm (.tcells t 1 (cs ++ new))).length = h.length by simp] at hp
                rw [List.set_set] at hp
                refine ⟨_,_,_,hrun hin,hp,?_⟩
                have := slice_vr' (D := D) (h := h) (h' := h.set nm .dead ++ [Blk.tcells t 1 (cs ++ new)]) (m := m) (i := ⟨(m nm).block, (m nm).off, (m nm).ext, 1⟩) (l := cs.length + b.size) (c := cs.length + b.size) (c' := c') (by simp) (Nat.le_refl _) hin (by
                    show c' * 1 ≤ (m nm).ext
                    rcases he with (h00|h00)|he
                    · cases h00
                    · omega
                    · omega)
                simpa using this
              · have hrd:=hr.frame (w':=w.drew) ((Below.refl _ _).drew)
                obtain ⟨new2,hl2,hc2,hnv2⟩:=srcCells_sound (P:=P) hrd hx hsrc
                have hread : readCells h nm 0 (cs.length * i.size) = some cs:=by
                  unfold readCells
                  rw [hb]
                  simp only []
                  rw [hsz,if_pos (by omega),List.drop_zero,List.take_of_length_le (by omega)]
                obtain ⟨old',hov,hok',hoc⟩:=readCells_sound hrd hD hread
                obtain ⟨cap,hcap,hrun⟩:=append_new_run (ty:=ty) (base:=some ⟨(m nm).block,(m nm).off + 0,none⟩) (len:=cs.length) (cap:=c') h0 hu hi hn hl hc2 hin hby hsm (old:=old') (loadCells_sound hoc _ (by rw [hov.len,hsz,Nat.mul_one])) hz
                have hk:=Post.kill hrd nm
                have hrk:=hrd.kill nm
                have hp:=(Post.frame hr (w':=w.drew) ((Below.refl _ _).drew)).trans (by rw [Dx.refl];exact hk)
                have hp:=hp.trans (by
                  rw [show (h.set nm Blk.dead).length = h.length by simp,Dx.refl]
                  exact hrk.pushRoomT (by simpa using hlo) 1 (hov.append hnv2) (Builtin.zeroCells z.cells (cap - (cs.length + b.size))).toList t (fun h=>by cases h))
                refine ⟨_,_,_,hrun,hp,?_⟩
                rw [show (h.set nm Blk.dead).length = h.length by simp]
                exact slice_vr' (D:=D) (h:=h) (h':=h.set nm .dead ++ [Blk.tcells t 1 (cs ++ new)]) (m:=m) (i:=⟨w.drew.heap.size,0,(cs ++ new).length + (Builtin.zeroCells z.cells (cap - (cs.length + b.size))).toList.length,1⟩) (l:=cs.length + b.size) (c:=cs.length + b.size) (c':=cap) (by simp) (Nat.le_refl _) hcap (by
                  rw [zeroCells_len,hzs,List.length_append,hnl,hsz]
                  show cap * 1 ≤ cs.length + b.size + (cap - (cs.length + b.size)) * 1
                  omega)
            · cases hv
          · cases hv
        · cases hv
      · cases hv
    · cases hv
  · cases hv
section
open Go.Lib
/-! ### a text's bytes -/
def strBytesV (P : Program) (src dst : TypeId) (x : Value) (h : List Blk) : Option (Value × List Blk) :=
  match x with
  | .string s=>match P.underlying src with
    | none=>none
    | some _=>match P.underlying dst with
      | some (.slice e)=>match P.underlying e with
        | some (.int .u8)=>some (.slice (some ⟨h.length,0,none⟩) s.size s.size,h ++ [.cells 1 (s.data.toList.map fun b=>.int .u8 b.toNat)])
        | _=>none
      | _=>none
  | _=>none
theorem grown_le (w : World) (n : Nat) (e : TypeId) : n ≤ grownCap w n 0 e:=by
  unfold grownCap
  simp [Question.cut]
theorem strBytesV_sound {P : Program} {B lo : Nat} {D : Nat → Prop} {m : NMap} {h h' : List Blk} {w : World} (hr : Rel B lo D m h w) (hlo : lo ≤ h.length) {src dst : TypeId} {x x' v : Value} (hx : VR D m x x') (hv : strBytesV P src dst x h = some (v,h')) : StepV P B lo D m h w (convert src dst x') v h':=by
  unfold strBytesV at hv
  split at hv
  · rename_i s
    cases hx
    split at hv
    · cases hv
    rename_i u hs
    split at hv
    · rename_i e hd
      split at hv
      · rename_i he
        obtain ⟨rfl,rfl⟩ : _ = v ∧ _ = h':=by simpa using hv
        have hrun:=Go.Lib.run_convert_string_bytes (P:=P) w src dst e s hs hd he
        have hg:=grown_le w s.size e
        have hsz : (bytesCells w e s).size = grownCap w s.size 0 e:=by simp [bytesCells];omega
        have hrd:=hr.frame (w':=w.drew) ((Below.refl _ _).drew)
        have hvr : VRs D m (s.data.toList.map fun b=>Value.int .u8 b.toNat) (s.data.toList.map fun b=>Value.int .u8 b.toNat):=VRs.refl_of fun v hv=>by
          simp only [List.mem_map] at hv
          obtain ⟨b,_,rfl⟩:=hv
          exact .int _ _
        have hlen : (s.data.toList.map fun b=>Value.int .u8 b.toNat).length = s.size:=by simp
        have hp0:=(Post.frame hr (w':=w.drew) ((Below.refl _ _).drew)).trans (hrd.pushRoom hlo 1 hvr (List.replicate (grownCap w s.size 0 e - s.size) (.int .u8 0)) e |> fun p=>by rw [Dx.refl];exact p)
        have hm : upd m h.length ⟨w.drew.heap.size,0,(s.data.toList.map fun b=>Value.int .u8 b.toNat).length + (List.replicate (grownCap w s.size 0 e - s.size) (Value.int .u8 0)).length,1⟩ h.length = ⟨w.heap.size,0,grownCap w s.size 0 e,1⟩:=by
          rw [upd_same,hlen,List.length_replicate,show s.size + (grownCap w s.size 0 e - s.size) = grownCap w s.size 0 e by omega]
          rfl
        generalize hmm : upd m h.length ⟨w.drew.heap.size,0,(s.data.toList.map fun b=>Value.int .u8 b.toNat).length + (List.replicate (grownCap w s.size 0 e - s.size) (Value.int .u8 0)).length,1⟩ = m' at hp0 hm
        generalize hcl : (s.data.toList.map fun b=>Value.int .u8 b.toNat) = cl at hp0 hlen hvr hmm
        have hD : Dx D h.length (h ++ [Blk.cells 1 cl]).length h.length:=.inr ⟨Nat.le_refl _,by simp⟩
        have hb : (h ++ [Blk.cells 1 cl])[h.length]? = some (.cells 1 cl):=by simp
        have hsize : (bytesWorld w e s).heap.size = w.heap.size + 1:=bytesWorld_size w e s
        have hcell : ∀ (k : Nat) v,cl[k]? = some v → (bytesWorld w e s).cell? ⟨w.heap.size,k,none⟩ = some v:=by
          intro k v hk
          have hk' : k < s.size:=by rw [← hlen];exact (List.getElem?_eq_some_iff.1 hk).1
          rw [bytesWorld_cell w e s k hk',← hcl] at *
          rw [← hcl] at hk
          simp only [List.getElem?_map] at hk
          cases hz : s.data.toList[k]? with
          | none=>rw [hz] at hk;cases hk
          | some b=>rw [hz] at hk;simp only [Option.map_some,Option.some.injEq] at hk;rw [← hk];simp [List.getD,hz]
        have hex : ∀ k,k < grownCap w s.size 0 e → (∃ u,(bytesWorld w e s).cell? ⟨w.heap.size,k,none⟩ = some u) ∧ (bytesWorld w e s).frozen? ⟨w.heap.size,k,none⟩ = false:=by
          intro k hk
          have h1:=bytesWorld_at_new w e s
          refine ⟨⟨(bytesCells w e s)[k]'(by omega),?_⟩,?_⟩
          · simp only [World.cell?,h1]
            simp [Array.getElem?_eq_getElem (show k < (bytesCells w e s).size by omega)]
          · simp only [World.frozen?,h1]
            simp
            omega
        have hp1:=hp0.rel.modify (w':=bytesWorld w e s) hD hlo hb (by simp) rfl rfl rfl (by rw [hsize];simp) (fun k hk=>by
          rw [hm] at hk
          by_cases hlt : k < w.heap.size
          · rw [bytesWorld_at_old w e s k hlt]
            exact ((((Below.refl w.heap.size w).drew).alloc (Nat.le_refl _) _).block k hlt).symm
          · have hk' : k ≠ w.heap.size:=hk
            rw [Array.getElem?_eq_none (by rw [hsize];omega),Array.getElem?_eq_none (by show (w.drew.alloc _).heap.size ≤ k;simp;show w.heap.size + 1 ≤ k;omega)]) (.cells 1 cl) ⟨by rw [hm],fun i v hv=>⟨v,by rw [hm];simpa using hcell i v hv,(hvr.at' i v v hv hv).mono (fun _=>.inl) hp0.agree⟩⟩ ⟨by rw [hm,hlen];exact hg,fun k hk=>by rw [hm] at hk ⊢;simpa using hex k hk⟩
        have hset : (h ++ [Blk.cells 1 cl]).set h.length (Blk.cells 1 cl) = h ++ [Blk.cells 1 cl]:=by
          apply List.ext_getElem?
          intro j
          rw [List.getElem?_set]
          split
          · rename_i e;subst e;simp
          · rfl
        rw [hset] at hp1
        have hp:=hp0.trans hp1
        refine ⟨_,_,_,hrun,hp,?_⟩
        have:=VR.slice (D:=Dx D h.length (h ++ [Blk.cells 1 cl]).length) (m:=m') h.length 0 s.size s.size (grownCap w s.size 0 e) hD (Nat.le_refl _) hg (.inr (by rw [hm];simp))
        rw [hm] at this
        simpa using this
      · cases hv
    · cases hv
  · cases hv
/-! ### a text of bytes -/
def byteOf : Value → Option UInt8
  | .int .u8 n=>if 0 ≤ n ∧ n < 256 then some (UInt8.ofNat n.toNat) else none
  | _=>none
def allBytes : List Value → Option (List UInt8)
  | []=>some []
  | c :: t=>match byteOf c with
    | some b=>(allBytes t).map fun l=>b :: l
    | none=>none
theorem allBytes_at : ∀ {cs : List Value} {bs : List UInt8},allBytes cs = some bs → bs.length = cs.length ∧ ∀ j (hj : j < bs.length),cs[j]? = some (.int .u8 (bs[j].toNat : Int))
  | [],bs,h=>by
    obtain rfl : [] = bs:=by simpa [allBytes] using h
    exact ⟨rfl,fun j hj=>by simp at hj⟩
  | c :: t,bs,h=>by
    simp only [allBytes] at h
    split at h
    · rename_i b hb
      cases ht : allBytes t with
      | none=>rw [ht] at h;cases h
      | some l =>
        rw [ht] at h
        obtain rfl : b :: l = bs:=by simpa using h
        obtain ⟨h1,h2⟩:=allBytes_at ht
        refine ⟨by simp [h1],fun j hj=>?_⟩
        cases j with
        | zero =>
          unfold byteOf at hb
          split at hb
          · rename_i n
            split at hb
            · rename_i hn
              obtain rfl:=Option.some.inj hb
              simp only [List.getElem?_cons_zero,List.getElem_cons_zero]
              congr 2
              have : (UInt8.ofNat n.toNat).toNat = n.toNat:=by
                simp only [UInt8.toNat_ofNat']
                omega
              omega
            · cases hb
          · cases hb
        | succ j=>simpa using h2 j (by simpa using hj)
    · cases h
def bytesStrV (P : Program) (src dst : TypeId) (x : Value) (h : List Blk) : Option Value :=
  match x with
  | .slice (some ⟨n,o,none⟩) l _=>match P.underlying dst with
    | some .string=>match P.underlying src with
      | some (.slice e)=>match P.underlying e with
        | some (.int .u8)=>match readCells h n o l with
          | some cs=>(allBytes cs).map fun bs=>.string ⟨bs.toArray⟩
          | none=>none
        | _=>none
      | _=>none
    | _=>none
  | _=>none
theorem bytesStrV_sound {P : Program} {B lo : Nat} {D : Nat → Prop} {m : NMap} {h : List Blk} {w : World} (hr : Rel B lo D m h w) {src dst : TypeId} {x x' v : Value} (hx : VR D m x x') (hv : bytesStrV P src dst x h = some v) : StepV P B lo D m h w (convert src dst x') v h:=by
  unfold bytesStrV at hv
  split at hv
  · rename_i n o l c
    cases hx with
    | slice _ _ _ _ c' hD hlc hcc he =>
      split at hv
      · rename_i hd
        split at hv
        · rename_i e hs
          split at hv
          · rename_i he
            split at hv
            · rename_i cs hcs
              cases hb : allBytes cs with
              | none=>rw [hb] at hv;cases hv
              | some bs =>
                rw [hb] at hv
                obtain rfl : Value.string ⟨bs.toArray⟩ = v:=by simpa using hv
                obtain ⟨h1,h2⟩:=allBytes_at hb
                obtain ⟨l',hvr,hk,hcl⟩:=readCells_sound hr hD hcs
                have hlen : bs.length = l:=by omega
                subst hlen
                refine StepV.pure hr (run_convert_bytes_back (P:=P) w src dst e _ c' bs hs he hd fun j hj=>?_) (.string _)
                have h3:=h2 j hj
                obtain ⟨v',h4,h5⟩:=hvr.at h3
                cases h5
                have:=hcl j _ h4
                rw [addr_add]
                exact this
            · cases hv
          · cases hv
        · cases hv
      · cases hv
  · cases hv
/-! ### a pointer without its type -/
def ptrConvV (P : Program) (src dst : TypeId) (x : Value) (h : List Blk) : Option Value :=
  match x with
  | .pointer (some ⟨n,0,none⟩)=>match h[n]? with
    | some (.tcells t 0 (c0 :: c))=>match P.underlying src,P.underlying dst with
      | some (.pointer u),some .unsafePointer=>match P.info? u with
        | some j=>if j.size ≠ 0 then some (.pointer (some ⟨n,0,none⟩)) else none
        | none=>none
      | some .unsafePointer,some (.pointer u)=>match P.info? u with
        | some _=>if liesAt P P.depth t ((c0 :: c).length / P.cellsOf t) 0 u 1 = true then some (.pointer (some ⟨n,0,none⟩)) else none
        | none=>none
      | _,_=>none
    | _=>none
  | _=>none
theorem ptrConvV_sound {P : Program} {B lo : Nat} {D : Nat → Prop} {m : NMap} {h : List Blk} {w : World} (hr : Rel B lo D m h w) {src dst : TypeId} {x x' v : Value} (hx : VR D m x x') (hv : ptrConvV P src dst x h = some v) : StepV P B lo D m h w (convert src dst x') v h:=by
  unfold ptrConvV at hv
  split at hv
  · rename_i n
    cases hx
    rename_i hD
    split at hv
    · rename_i t c0 c hb
      obtain ⟨⟨a1,a2,k,a3,a4,a5⟩,_⟩:=hr.ok n _ hD hb
      obtain rfl:=a5 rfl
      split at hv
      · rename_i u hs hd
        split at hv
        · rename_i j hj
          split at hv
          · rename_i hz
            obtain rfl:=Option.some.inj hv
            exact StepV.pure hr (run_to_unsafe (P:=P) w ⟨(m n).block,(m n).off + 0,none⟩ hs hd hj hz a3 (by show (m n).off + 0 < _;rw [a2];simp)) (.ptr n 0 hD)
          · cases hv
        · cases hv
      · rename_i u hs hd
        split at hv
        · rename_i j hj
          split at hv
          · rename_i hz
            obtain rfl:=Option.some.inj hv
            exact StepV.pure hr (run_from_unsafe (P:=P) w ⟨(m n).block,(m n).off + 0,none⟩ hs hd hj a3 (by show liesAt P P.depth t _ ((m n).off + 0) u 1 = true;rw [a2];exact hz)) (.ptr n 0 hD)
          · cases hv
        · cases hv
      · cases hv
    · cases hv
  · cases hv
def convV (P : Program) (src dst : TypeId) (x : Value) (h : List Blk) : Option (Value × List Blk) :=
  match strBytesV P src dst x h with
  | some r=>some r
  | none=>match bytesStrV P src dst x h with
    | some v=>some (v,h)
    | none=>(ptrConvV P src dst x h).map fun v=>(v,h)
theorem convV_sound {P : Program} {B lo : Nat} {D : Nat → Prop} {m : NMap} {h h' : List Blk} {w : World} (hr : Rel B lo D m h w) (hlo : lo ≤ h.length) {src dst : TypeId} {x x' v : Value} (hx : VR D m x x') (hv : convV P src dst x h = some (v,h')) : StepV P B lo D m h w (convert src dst x') v h':=by
  unfold convV at hv
  split at hv
  · rename_i r h1
    obtain rfl:=Option.some.inj hv
    exact strBytesV_sound hr hlo hx h1
  · split at hv
    · rename_i u hb
      obtain ⟨rfl,rfl⟩ : u = v ∧ h = h':=by simpa using hv
      exact bytesStrV_sound hr hx hb
    · cases hb : ptrConvV P src dst x h with
      | none=>rw [hb] at hv;cases hv
      | some u =>
        rw [hb] at hv
        obtain ⟨rfl,rfl⟩ : u = v ∧ h = h':=by simpa using hv
        exact ptrConvV_sound hr hx hb
end
end Go.Rex

namespace Go.Rex
open Go.RowKit
theorem putObj_below (w : World) (l : Nat) (o : Obj) : (w.putObj l o).os = w.os ∧ (w.putObj l o).tape = w.tape ∧ (w.putObj l o).output = w.output ∧ (w.putObj l o).heap.size = w.heap.size ∧ ∀ k,k ≠ l → (w.putObj l o).heap[k]? = w.heap[k]? :=
  ⟨rfl,rfl,rfl,by simp [World.putObj],fun k hk=>World.putObj_heap_other hk⟩

theorem Rel.put {B lo : Nat} {D : Nat → Prop} {m : NMap} {h : List Blk} {w : World} (hr : Rel B lo D m h w) {n : Nat} {b : Blk} (hD : D n) (hl : lo ≤ n) (hn : h[n]? = some b) (hb : b ≠ .dead) (o : Obj) (b' : Blk)
    (hok : BlkOk D m (w.putObj (m n).block o) n b') (hown : Owns m (w.putObj (m n).block o) n b') : Post B lo D m h w m (h.set n b') (w.putObj (m n).block o):=by
  obtain ⟨s1,s2,s3,s4,s5⟩:=putObj_below w (m n).block o
  exact hr.modify hD hl hn hb s1 s2 s3 s4 s5 b' hok hown


/-! ### maps with keys without names -/
def keepClean (r : Value) : Option Value:=if isClean r = true then some r else none
theorem keepClean_some {r v : Value} (h : keepClean r = some v) : r = v ∧ isClean v = true:=by
  unfold keepClean at h
  split at h
  · rename_i hc;obtain rfl:=Option.some.inj h;exact ⟨rfl,hc⟩
  · cases h
def entriesOf (h : List Blk) (x : Value) : Option (Array MapEntry) :=
  match x with
  | .map none=>some #[]
  | .map (some n)=>match h[n]? with
    | some (.map es _)=>some es
    | _=>none
  | _=>none
def lookupV (P : Program) (t : TypeId) (x k : Value) (ok : Bool) (h : List Blk) : Option Value :=
  match P.underlying t with
  | some (.map kt et) =>
    if isClean k = true then
      match entriesOf h x with
      | some es=>match prun P (Instr.checkKey es.isEmpty 10000 kt k) with
        | some _=>match prun P (Instr.findKey kt k es.toList) with
          | some (some (_,v))=>keepClean (if ok then .tuple #[v,.bool true] else v)
          | some none=>match P.info? et with
            | some i=>match i.zero with
              | some z=>keepClean (if ok then .tuple #[z,.bool false] else z)
              | none=>none
            | none=>none
          | none=>none
        | none=>none
      | none=>none
    else none
  | _=>none
theorem entriesOf_sound {B lo : Nat} {D : Nat → Prop} {m : NMap} {h : List Blk} {w : World} (hr : Rel B lo D m h w) {x x' : Value} {es : Array MapEntry} (hx : VR D m x x') (he : entriesOf h x = some es) : (x' = .map none ∧ es = #[]) ∨ ∃ r c,x' = .map (some r) ∧ w.heap[r]? = some (.map es c):=by
  unfold entriesOf at he
  split at he
  · obtain rfl:=Option.some.inj he
    cases hx
    exact .inl ⟨rfl,rfl⟩
  · rename_i n
    split at he
    · rename_i es' c hn
      obtain rfl:=Option.some.inj he
      cases hx
      rename_i hD
      exact .inr ⟨_,c,rfl,hr.ok n _ hD hn⟩
    · cases he
  · cases he
theorem lookupV_sound {P : Program} {B lo : Nat} {D : Nat → Prop} {m : NMap} {h : List Blk} {w : World} (hr : Rel B lo D m h w) {t : TypeId} {x x' k k' : Value} {ok : Bool} {v : Value} (hx : VR D m x x') (hk : VR D m k k') (hv : lookupV P t x k ok h = some v) :
    (Instr.lookup t x' k' ok).run P w = .ok v w ∧ isClean v = true:=by
  unfold lookupV at hv
  split at hv
  · rename_i kt et hm
    split at hv
    · rename_i hck
      obtain rfl:=hk.eq_of_clean depth _ _ hck
      split at hv
      · rename_i es hes
        have hform:=entriesOf_sound hr hx hes
        split at hv
        · rename_i hchk
          have hchk:=prun_run hchk w
          split at hv
          · rename_i i v0 hf
            have hf:=prun_run hf w
            obtain ⟨rfl,hc⟩:=keepClean_some hv
            refine ⟨?_,hc⟩
            rcases hform with ⟨rfl,rfl⟩|⟨r,c,rfl,hb⟩
            · simp [Instr.lookup,run_underlying hm] at hchk hf ⊢
              simp [hchk,hf,Result.andThen]
            · simp [Instr.lookup,run_underlying hm,MapKept.run_getObj_map hb] at hchk hf ⊢
              simp [hchk,hf,Result.andThen]
          · rename_i hf
            have hf:=prun_run hf w
            split at hv
            · rename_i i hi
              split at hv
              · rename_i z hz
                obtain ⟨rfl,hc⟩:=keepClean_some hv
                refine ⟨?_,hc⟩
                have hzr : (zeroValue et).run P w = .ok z w:=by simp [zeroValue,typeInfo,hi,hz]
                rcases hform with ⟨rfl,rfl⟩|⟨r,c,rfl,hb⟩
                · simp [Instr.lookup,run_underlying hm] at hchk hf ⊢
                  simp [hchk,hf,hzr,Result.andThen]
                · simp [Instr.lookup,run_underlying hm,MapKept.run_getObj_map hb] at hchk hf ⊢
                  simp [hchk,hf,hzr,Result.andThen]
              · cases hv
            · cases hv
          · cases hv
        · cases hv
      · cases hv
    · cases hv
  · cases hv
def mapSetV (P : Program) (t : TypeId) (x k v : Value) (h : List Blk) : Option (List Blk × Nat) :=
  match P.underlying t with
  | some (.map kt _) =>
    if isClean k = true ∧ isClean v = true then
      match x with
      | .map (some n)=>match h[n]? with
        | some (.map es clock)=>match prun P (Instr.checkKey false 10000 kt k) with
          | some _=>match prun P (Instr.findKey kt k es.toList) with
            | some (some (i,_))=>match prun P (Instr.keyThatStays (((es[i]?).map (·.key)).getD k) k) with
              | some k2=>some (h.set n (.map (es.modify i fun e=>{ e with key:=k2,val:=v }) clock),n)
              | none=>none
            | some none=>some (h.set n (.map (es.push { key:=k,val:=v,born:=clock }) (clock + 1)),n)
            | none=>none
          | none=>none
        | _=>none
      | _=>none
    else none
  | _=>none
theorem mapSetV_sound {P : Program} {B lo : Nat} {D : Nat → Prop} {m : NMap} {h h' : List Blk} {w : World} (hr : Rel B lo D m h w) {t : TypeId} {x x' k k' v v' : Value} {n : Nat} (hx : VR D m x x') (hk : VR D m k k') (hvv : VR D m v v') (hv : mapSetV P t x k v h = some (h', n)) (hl : lo ≤ n) :
    ∃ w',(Instr.mapUpdate t x' k' v').run P w = .ok () w' ∧ Post B lo D m h w m h' w':=by
  unfold mapSetV at hv
  split at hv
  · rename_i kt et hm
    split at hv
    · rename_i hc
      obtain ⟨hck,hcl⟩:=hc
      obtain rfl:=hk.eq_of_clean depth _ _ hck
      obtain rfl:=hvv.eq_of_clean depth _ _ hcl
      split at hv
      · rename_i n0
        split at hv
        · rename_i es clock hn
          cases hx
          rename_i hD
          have hb : w.heap[(m n0).block]? = some (.map es clock):=hr.ok n0 _ hD hn
          have hlt : (m n0).block < w.heap.size:=(Array.getElem?_eq_some_iff.1 hb).1
          have hnew : ∀ o : Obj,(w.putObj (m n0).block o).heap[(m n0).block]? = some o:=fun o=>by simp [World.putObj,hlt]
          split at hv
          · rename_i hchk
            have hchk:=prun_run hchk w
            split at hv
            · rename_i i v0 hf
              have hf:=prun_run hf w
              split at hv
              · rename_i k2 hst
                have hst:=prun_run hst w
                obtain ⟨rfl,rfl⟩ : _ = h' ∧ n0 = n:=by simpa using hv
                refine ⟨_,?_,hr.put hD hl hn (by simp) (.map (es.modify i fun e=>{ e with key:=k2,val:=v' }) clock) _ (hnew _) trivial⟩
                simp [Instr.mapUpdate,run_underlying hm,MapKept.run_getObj_map hb,hchk,hf,hst,MapKept.run_setObj_map _ hb,Result.andThen,World.putObj]
              · cases hv
            · rename_i hf
              have hf:=prun_run hf w
              obtain ⟨rfl,rfl⟩ : _ = h' ∧ n0 = n:=by simpa using hv
              refine ⟨_,?_,hr.put hD hl hn (by simp) (.map (es.push { key:=k',val:=v',born:=clock }) (clock + 1)) _ (hnew _) trivial⟩
              simp [Instr.mapUpdate,run_underlying hm,MapKept.run_getObj_map hb,hchk,hf,MapKept.run_setObj_map _ hb,Result.andThen,World.putObj]
            · cases hv
          · cases hv
        · cases hv
      · cases hv
    · cases hv
  · cases hv
theorem newMap_sound {P : Program} {B lo : Nat} {D : Nat → Prop} {m : NMap} {h : List Blk} {w : World} (hr : Rel B lo D m h w) (hlo : lo ≤ h.length) (t : TypeId) :
    StepV P B lo D m h w (Instr.makeMap t none) (.map (some h.length)) (h ++ [.map #[] 0]):=by
  have hp : Post B lo D m h w (upd m h.length ⟨w.heap.size,0,0,0⟩) (h ++ [.map #[] 0]) (w.alloc (.map #[] 0)) :=
    hr.push _ _ _ rfl hlo (by show (w.alloc _).heap[_]? = _;rw [upd_same];exact World.alloc_heap_new w _) trivial
  refine ⟨.map (some w.heap.size),w.alloc (.map #[] 0),_,by simp [Instr.makeMap,run_newObj_alloc],hp,?_⟩
  have:=VR.map (D:=Dx D h.length (h ++ [Blk.map #[] 0]).length) (m:=upd m h.length ⟨w.heap.size,0,0,0⟩) h.length (.inr (by simp))
  rwa [upd_same] at this
end Go.Rex

namespace Go.Rex
open Go.RowKit

def mapParts (ρ : Operand → Value) (ps : Array (Nat × Operand)) : Array (Nat × Value):=ps.map fun (i,x)=>(i,ρ x)

/-- operations on values without names: as the model has them -/
def genP (P : Program) (ρ : Operand → Value) (o : Oper) : Option Value :=
  match o.op with
  | .select _ _=>none
  | _ => if o.op.operands.toList.all (fun x => isClean (ρ x)) = true then
      match prun P (execOp ρ o) with
      | some (.value v)=>if isClean v = true then some v else none
      | _=>none
    else none

def isSome1 : Value → Bool
  | .pointer (some _)=>true
  | .func (.func _) _ _=>true
  | .func (.yield _) _ _=>true
  | _=>false

def lenV (P : Program) (t : Option TypeId) (x : Value) : Option Value :=
  match t with
  | none=>none
  | some t=>match P.underlying t,x with
    | some (.slice _),.slice _ n _=>some (.int .i64 n)
    | _,_=>none

def orGen (P : Program) (ρ : Operand → Value) (o : Oper) (r : Option Value) : Option Value :=
  match r with
  | some x=>some x
  | none=>genP P ρ o

def bpop (P : Program) (ρ : Operand → Value) (o : Oper) (c : Call) : Option Value :=
  match c.callee with
  | .builtin b =>
    if b = .len then
      match c.args.toList with
      | [x]=>orGen P ρ o (lenV P c.argTypes[0]? (ρ x))
      | _=>none
    else genP P ρ o
  | _=>none

/-- operators on integers -/
def fastBin (op : BinOp) (x y : Value) : Option Value :=
  match x,y with
  | .int k a,.int k' b =>
    if k = k' then
      match op with
      | .add=>some (.int k (k.wrap (a + b)))
      | .sub=>some (.int k (k.wrap (a - b)))
      | .mul=>some (.int k (k.wrap (a * b)))
      | .lss=>some (.bool (decide (a < b)))
      | .leq=>some (.bool (decide (a ≤ b)))
      | .gtr=>some (.bool (decide (a > b)))
      | .geq=>some (.bool (decide (a ≥ b)))
      | .eql=>some (.bool (decide (a = b)))
      | .neq=>some (.bool (decide (a ≠ b)))
      | .quo=>if b = 0 then none else some (.int k (k.wrap (a.tdiv b)))
      | .rem=>if b = 0 then none else some (.int k (a.tmod b))
      | _=>none
    else none
  | _,_=>none

/-- a slice as a pointer to an array -/
def arrPtr (P : Program) (arr : TypeId) (x : Value) : Option Value :=
  match P.underlying arr,x with
  | some (.array k _),.slice (some ⟨n,o,none⟩) len _=>if k ≤ len then some (.pointer (some ⟨n,o,none⟩)) else none
  | _,_=>none
theorem arrPtr_sound {P : Program} {D : Nat → Prop} {m : NMap} {arr : TypeId} {x x' v : Value} (hx : VR D m x x') (hv : arrPtr P arr x = some v) :
    ∃ v',(∀ w,(Instr.arrayAt arr x').run P w = .ok v' w) ∧ VR D m v v':=by
  unfold arrPtr at hv
  split at hv
  · rename_i k e n o len c hu
    split at hv
    · rename_i hk
      obtain rfl:=Option.some.inj hv
      cases hx with
      | slice _ _ _ _ c' hD hl hcc he =>
        refine ⟨_,fun w=>?_,.ptr n o hD⟩
        simp only [Instr.arrayAt,Sem.run_bind,run_underlying hu,Result.andThen_ok]
        rw [if_neg (by omega)]
        rfl
    · cases hv
  · cases hv

/-- what does not look at memory -/
def pop (P : Program) (ρ : Operand → Value) (o : Oper) : Option Value :=
  match o.op with
  | .move x=>some (ρ x)
  | .assign x=>some (ρ x)
  | .pick c a b=>match ρ c with
    | .bool t=>some (if t then ρ a else ρ b)
    | _=>none
  | .nilCheck x=>if isSome1 (ρ x) = true then some (ρ x) else none
  | .build t ps=>buildV P t (mapParts ρ ps)
  | .makeFunc fn first captured=>match fn with
    | .func f=>some (.func (.func f) (first.map ρ) (captured.map ρ))
    | _=>none
  | .extract t i=>match ρ t with
    | .tuple ⟨l⟩=>l[i]?
    | _=>none
  | .fieldAddr t x f=>fieldAddrV P t (ρ x) f
  | .indexAddr t x ix=>indexAddrV P t (ρ x) (ρ ix)
  | .field t x f=>fieldV P t (ρ x) f
  | .index t x ix=>orGen P ρ o (indexV P t (ρ x) (ρ ix))
  | .sliceToArrayPointer arr x=>arrPtr P arr (ρ x)
  | .call c=>bpop P ρ o c
  | .binOp op _ x y _=>orGen P ρ o (fastBin op (ρ x) (ρ y))
  | .alloc _=>none
  | .box _ _=>none
  | .buildSlice _ _ _=>none
  | .makeSlice _ _ _=>none
  | .load _ _=>none
  | .store _ _ _=>none
  | .makeMap _ _=>none
  | .lookup _ _ _ _=>none
  | .mapUpdate _ _ _ _=>none
  | .insert _ _ _ _=>none
  | _=>genP P ρ o

def newH (r : Option (Value × List Blk)) : AOut:=r.map fun (v,h)=>(v,h,none)

def appendX (P : Program) (ts : Array TypeId) (x y : Value) (h : List Blk) : AOut :=
  match appendV P ts x y h with
  | some r=>some r
  | none=>appendS P ts x y h
theorem appendS_no {P : Program} {ts : Array TypeId} {x : Value} {a : Option Addr} {n c : Nat} {h : List Blk} : appendS P ts x (.slice a n c) h = none:=by
  unfold appendS
  repeat' split
  all_goals first|rfl|(cases ‹Value.slice a n c = Value.string _›)
theorem appendX_sl {P : Program} {ts : Array TypeId} {x : Value} {a : Option Addr} {n c : Nat} {h : List Blk} : appendX P ts x (.slice a n c) h = appendV P ts x (.slice a n c) h:=by
  unfold appendX
  split
  · rename_i r hr;exact hr.symm
  · rename_i hr;rw [appendS_no,hr]
/-! ### a row's bytes as a text -/
def sliceDataV (x : Value) : Option Value :=
  match x with
  | .slice none _ _=>some (.pointer none)
  | .slice (some ⟨n,o,none⟩) _ (_ + 1)=>some (.pointer (some ⟨n,o,none⟩))
  | _=>none
theorem sliceDataV_sound {P : Program} {D : Nat → Prop} {m : NMap} {x x' v : Value} (hx : VR D m x x') (hv : sliceDataV x = some v) (ts : Array TypeId) (ty : TypeId) (w : World) : ∃ v',(Builtin.unsafeSliceData_ ts ty #[x']).run P w = .ok v' w ∧ VR D m v v':=by
  unfold sliceDataV at hv
  split at hv
  · obtain rfl:=Option.some.inj hv
    cases hx
    exact ⟨_,Go.Lib.run_unsafeSliceData_nil w ts ty _ _,.nilPtr⟩
  · obtain rfl:=Option.some.inj hv
    cases hx
    rename_i hD _ _ _
    exact ⟨_,Go.Lib.run_unsafeSliceData_row w ts ty _ _ _ (by omega),.ptr _ _ hD⟩
  · cases hv
def strOfV (P : Program) (ts : Array TypeId) (p l : Value) (h : List Blk) : AOut :=
  match ts.toList,p,l with
  | [_,_],.pointer none,.int .i64 0=>some (.string .empty,h,none)
  | [pt,_],.pointer (some ⟨n,0,none⟩),.int .i64 k =>
    match h[n]?,P.underlying pt with
    | some (.tcells t _ cs),some (.pointer e) =>
      match allBytes (cs.take k.toNat) with
      | some bs=>if e = t ∧ P.cellsOf e = 1 ∧ 0 < k ∧ k ≤ 9223372036854775807 ∧ k.toNat ≤ cs.length then some (.string ⟨bs.toArray⟩,h.set n .dead,some n) else none
      | none=>none
    | _,_=>none
  | _,_,_=>none
theorem freeze_parts (w : World) (a : Addr) (n : Nat) : (w.freeze a n).os = w.os ∧ (w.freeze a n).tape = w.tape ∧ (w.freeze a n).output = w.output ∧ (w.freeze a n).heap.size = w.heap.size ∧ ∀ k,k ≠ a.block → (w.freeze a n).heap[k]? = w.heap[k]?:=by
  unfold World.freeze
  split
  · exact ⟨rfl,rfl,rfl,rfl,fun _ _=>rfl⟩
  · refine ⟨rfl,rfl,rfl,by simp,fun k hk=>?_⟩
    simp only [Array.getElem?_modify]
    rw [if_neg (fun e=>hk e.symm)]
theorem strOfV_sound {P : Program} {B lo : Nat} {D : Nat → Prop} {m : NMap} {h h' : List Blk} {w : World} (hr : Rel B lo D m h w) {ts : Array TypeId} {ty : TypeId} {p l p' l' v : Value} {wr : Option Nat}
    (hp : VR D m p p') (hl : VR D m l l') (hv : strOfV P ts p l h = some (v,h',wr)) (hw : WrOk lo wr) : StepV P B lo D m h w (Builtin.unsafeString_ ts ty #[p',l']) v h':=by
  obtain ⟨ts⟩:=ts
  unfold strOfV at hv
  simp only at hv
  split at hv
  · obtain ⟨rfl,rfl,rfl⟩ : _ = v ∧ h = h' ∧ none = wr:=by simpa using hv
    cases hp;cases hl
    exact StepV.pure hr (Go.Lib.run_unsafeString_none w _ _ ty none) (.string _)
  · rename_i pt it n k
    cases hl
    split at hv
    · rename_i t es cs e hb hu
      split at hv
      · rename_i bs hbs
        split at hv
        · rename_i hc
          obtain ⟨rfl,c1,c2,c3,c4⟩:=hc
          obtain ⟨rfl,rfl,rfl⟩ : _ = v ∧ _ = h' ∧ some n = wr:=by simpa using hv
          cases hp
          rename_i hD
          have hln : lo ≤ n:=hw n rfl
          obtain ⟨⟨a1,a2,kk,a3,a4,a5⟩,hcell⟩:=hr.ok n _ hD hb
          have hown:=hr.own n _ hD hln hb
          obtain ⟨h1,h2⟩:=allBytes_at hbs
          have hlen : bs.length = k.toNat:=by rw [h1,List.length_take];omega
          obtain rfl : k = (bs.length : Int):=by omega
          have e0 : (m n).off + 0 = 0:=by omega
          have hext : cs.length ≤ (m n).ext:=hown.1
          have hrun:=Go.Lib.run_unsafeString_row (P:=P) w pt it ty e hu c1 (m n).block kk a3 bs (by intro e;rw [e] at c2;simp at c2) (by omega) (by omega) (fun j x hj=>by
            have hj' : j < bs.length:=(List.getElem?_eq_some_iff.1 hj).1
            have h3:=h2 j hj'
            rw [List.getElem?_take,if_pos (by omega)] at h3
            obtain ⟨v',h4,h5⟩:=hcell j _ h3
            cases h5
            rw [a2,Nat.zero_add] at h4
            rw [addr_add,Nat.zero_add,h4]
            rw [List.getElem?_eq_getElem hj'] at hj
            rw [Option.some.inj hj])
          obtain ⟨f1,f2,f3,f4,f5⟩:=freeze_parts w ⟨(m n).block,0,none⟩ bs.length
          refine ⟨.string ⟨bs.toArray⟩,_,m,by rw [e0];exact hrun,hr.modify hD hln hb (by simp) f1 f2 f3 f4 f5 .dead trivial trivial,.string _⟩
        · cases hv
      · cases hv
    · cases hv
  · cases hv
def bhop (P : Program) (ρ : Operand → Value) (c : Call) (h : List Blk) : AOut :=
  match c.callee with
  | .builtin b =>
    if b = .append then
      match c.args.toList with
      | [x,y]=>appendX P c.argTypes (ρ x) (ρ y) h
      | _=>none
    else if b = .copy then
      match c.args.toList with
      | [x,y]=>copyV P c.argTypes (ρ x) (ρ y) h
      | _=>none
    else if b = .unsafeSliceData then
      match c.args.toList with
      | [x]=>(sliceDataV (ρ x)).map fun v=>(v,h,none)
      | _=>none
    else if b = .unsafeString then
      match c.args.toList with
      | [x,y]=>strOfV P c.argTypes (ρ x) (ρ y) h
      | _=>none
    else none
  | _=>none

/-- a bound of a slice expression -/
def bnd (x : Option Value) (d : Nat) : Option Nat :=
  match x with
  | none=>some d
  | some (.int _ i)=>if 0 ≤ i then some i.toNat else none
  | some _=>none
def sliceV (P : Program) (t : TypeId) (x : Value) (lo hi : Option Value) (h : List Blk) : Option Value :=
  match P.underlying t,x with
  | some (.slice e),.slice (some ⟨_,_,some _⟩) 0 0 =>
    match bnd lo 0,bnd hi 0 with
    | some 0,some 0=>if (P.info? e).isSome = true then some vag else none
    | _,_=>none
  | some (.slice e),.slice (some ⟨n,o,none⟩) len c =>
    match h[n]? with
    | some (.cells es _) =>
      match bnd lo 0,bnd hi len with
      | some l,some k=>if (es = P.cellsOf e ∨ es = 0) ∧ (P.info? e).isSome = true ∧ l ≤ k ∧ k ≤ c ∧ (l = 0 ∨ l < c) then some (.slice (some ⟨n,o + l * P.cellsOf e,none⟩) (k - l) (c - l))
        else if (es = P.cellsOf e ∨ es = 0) ∧ (P.info? e).isSome = true ∧ l ≤ k ∧ k ≤ c ∧ l = c then some vag else none
      | _,_=>none
    | _=>none
  | some (.array len e),.pointer (some ⟨n,o,none⟩) =>
    match h[n]? with
    | some (.cells es _) =>
      match bnd lo 0,bnd hi len with
      | some l,some k=>if (P.info? e).isSome = true ∧ l ≤ k ∧ k ≤ len ∧ (l = 0 ∨ l < len) then some (.slice (some ⟨n,o + l * P.cellsOf e,none⟩) (k - l) (len - l)) else none
      | _,_=>none
    | _=>none
  | _,_=>none
/-- a bound is an int in both, or absent -/
def OptR (D : Nat → Prop) (m : NMap) (x x' : Option Value) : Prop:=match x,x' with
  | none,none=>True
  | some v,some v'=>VR D m v v'
  | _,_=>False
theorem bnd_run {P : Program} {D : Nat → Prop} {m : NMap} {x x' : Option Value} {d k cap : Nat} {code : BoundsCode} (hx : OptR D m x x') (hk : bnd x d = some k) (hc : k ≤ cap) (w : World) :
    (match x' with|some v=>Instr.sliceBound v cap code|none=>pure d : Sem Nat).run P w = .ok k w:=by
  cases x with
  | none =>
    cases x' with
    | none=>obtain rfl:=Option.some.inj hk;rfl
    | some v'=>exact hx.elim
  | some v =>
    cases x' with
    | none=>exact hx.elim
    | some v' =>
      have hx' : VR D m v v':=hx
      cases v with
      | int ki i =>
        cases hx'
        simp only [bnd] at hk
        split at hk
        · rename_i h0
          obtain rfl:=Option.some.inj hk
          simp only [Instr.sliceBound,asIntOf,Sem.run_bind,Sem.run_pure,Result.andThen_ok]
          rw [if_pos ⟨h0,by omega⟩]
          rfl
        · cases hk
      | _=>simp [bnd] at hk
theorem sliceV_sound {P : Program} {B lo0 : Nat} {D : Nat → Prop} {m : NMap} {h : List Blk} {w : World} (hr : Rel B lo0 D m h w) {t : TypeId} {x x' v : Value} {lo lo' hi hi' : Option Value} (hx : VR D m x x') (hl : OptR D m lo lo') (hh : OptR D m hi hi')
    (hv : sliceV P t x lo hi h = some v) : ∃ v',(∀ w,(Instr.sliceAt t x' lo' hi' none).run P w = .ok v' w) ∧ VR D m v v':=by
  unfold sliceV at hv
  split at hv
  · rename_i e _ _ _ hu
    cases hx
    rename_i a' c'
    split at hv
    · rename_i h1 h2
      split at hv
      · rename_i hi
        obtain rfl:=Option.some.inj hv
        refine ⟨.slice (some a') 0 c',fun w=>?_,.vague _ _⟩
        have r1:=fun code=>bnd_run (P:=P) (cap:=c') (code:=code) hh h2 (by omega) w
        have r2:=fun code=>bnd_run (P:=P) (cap:=0) (code:=code) hl h1 (Nat.le_refl _) w
        have hsb : (Instr.sliceBounds true 0 c' lo' hi' none).run P w = .ok (0,0,c') w:=by
          unfold Instr.sliceBounds
          cases hi'<;>cases lo'<;>simp_all [Sem.run_bind,Sem.run_pure,Result.andThen_ok]
        have hadd : (if c' = 0 then some a' else some (a'.add (0 * P.cellsOf e))) = some a':=by
          simp [Addr.add]
        simp only [Instr.sliceAt,Instr.slice,Sem.run_bind,run_underlying hu,Result.andThen_ok,hsb,sizeOf_cellsOf hi,Sem.run_pure,Option.map_some]
        rw [hadd]
        rfl
      · cases hv
    · cases hv
  · rename_i e n o len c hu
    obtain ⟨hD,c',hlc,hcc,he,rfl⟩ : D n ∧ ∃ c',len ≤ c ∧ c ≤ c' ∧ (((m n).es = 0 ∨ c' = c) ∨ o + c' * (m n).es ≤ (m n).ext) ∧ x' = .slice (some ⟨(m n).block,(m n).off + o,none⟩) len c':=by
      cases hx
      exact ⟨by assumption,_,by assumption,by assumption,by assumption,rfl⟩
    split at hv
    · rename_i es cs hb
      have hes : (m n).es = es:=(hr.ok n _ hD hb).1
      split at hv
      · rename_i l k h1 h2
        split at hv
        · rename_i hc
          obtain ⟨c1,c2,c3,c4,c5⟩:=hc
          obtain rfl:=Option.some.inj hv
          refine ⟨.slice (some ⟨(m n).block,(m n).off + o + l * P.cellsOf e,none⟩) (k - l) (c' - l),fun w=>?_,?_⟩
          · have r1:=fun code=>bnd_run (P:=P) (cap:=c') (code:=code) hh h2 (by omega) w
            have r2:=fun code=>bnd_run (P:=P) (cap:=k) (code:=code) hl h1 c3 w
            have hadd : (if c' = l then some (⟨(m n).block,(m n).off + o,none⟩ : Addr) else some ((⟨(m n).block,(m n).off + o,none⟩ : Addr).add (l * P.cellsOf e))) = some ⟨(m n).block,(m n).off + o + l * P.cellsOf e,none⟩:=by
              rw [addr_add]
              rcases c5 with rfl|c5
              · simp
              · rw [if_neg (by omega)]
            have hsb : (Instr.sliceBounds true len c' lo' hi' none).run P w = .ok (l,k,c') w:=by
              unfold Instr.sliceBounds
              cases hi'<;>cases lo'<;>simp_all [Sem.run_bind,Sem.run_pure,Result.andThen_ok]
            simp only [Instr.sliceAt,Instr.slice,Sem.run_bind,run_underlying hu,Result.andThen_ok,hsb,sizeOf_cellsOf c2,Sem.run_pure,Option.map_some]
            rw [hadd]
          · have := VR.slice (D := D) (m := m) n (o + l * P.cellsOf e) (k - l) (c - l) (c' - l) hD (by omega) (by omega) (by
              rw [hes] at he ⊢
              rcases he with (he|he)|he
              · exact .inl (.inl he)
              · exact .inl (.inr (by omega))
              rcases c1 with rfl|c1
              · have : l * P.cellsOf e + (c' - l) * P.cellsOf e = c' * P.cellsOf e:=by rw [← Nat.add_mul];congr 1;omega
                exact .inr (by omega)
              · exact .inl (.inl c1))
            rwa [← Nat.add_assoc] at this
        · split at hv
          · rename_i hc
            obtain ⟨c1,c2,c3,c4,c5⟩:=hc
            obtain rfl:=Option.some.inj hv
            subst c5
            obtain rfl : k = l:=by omega
            have r1:=fun code=>bnd_run (P:=P) (cap:=c') (code:=code) hh h2 (by omega) w
            have r2:=fun code=>bnd_run (P:=P) (cap:=k) (code:=code) hl h1 c3 w
            have hrun : ∀ w,(Instr.sliceAt t (.slice (some ⟨(m n).block,(m n).off + o,none⟩) len c') lo' hi' none).run P w = .ok (.slice (if c' = k then some ⟨(m n).block,(m n).off + o,none⟩ else some ((⟨(m n).block,(m n).off + o,none⟩ : Addr).add (k * P.cellsOf e))) 0 (c' - k)) w:=by
              intro w
              have r1:=fun code=>bnd_run (P:=P) (cap:=c') (code:=code) hh h2 (by omega) w
              have r2:=fun code=>bnd_run (P:=P) (cap:=k) (code:=code) hl h1 c3 w
              have hsb : (Instr.sliceBounds true len c' lo' hi' none).run P w = .ok (k,k,c') w:=by
                unfold Instr.sliceBounds
                cases hi'<;>cases lo'<;>simp_all [Sem.run_bind,Sem.run_pure,Result.andThen_ok]
              simp only [Instr.sliceAt,Instr.slice,Sem.run_bind,run_underlying hu,Result.andThen_ok,hsb,sizeOf_cellsOf c2,Sem.run_pure,Option.map_some,Nat.sub_self]
            refine ⟨_,hrun,?_⟩
            rw [addr_add]
            split
            · exact .vague _ _
            · exact .vague _ _
          · cases hv
      · cases hv
    · cases hv
  · rename_i len e n o hu
    obtain ⟨hD,rfl⟩ : D n ∧ x' = .pointer (some ⟨(m n).block,(m n).off + o,none⟩):=by
      cases hx
      exact ⟨by assumption,rfl⟩
    split at hv
    · rename_i es cs hb
      split at hv
      · rename_i l k h1 h2
        split at hv
        · rename_i hc
          obtain ⟨c2,c3,c4,c5⟩:=hc
          obtain rfl:=Option.some.inj hv
          refine ⟨.slice (some ⟨(m n).block,(m n).off + o + l * P.cellsOf e,none⟩) (k - l) (len - l),fun w=>?_,?_⟩
          · have r1:=fun code=>bnd_run (P:=P) (cap:=len) (code:=code) hh h2 c4 w
            have r2:=fun code=>bnd_run (P:=P) (cap:=k) (code:=code) hl h1 c3 w
            have hadd : (if len = l then (⟨(m n).block,(m n).off + o,none⟩ : Addr) else ((⟨(m n).block,(m n).off + o,none⟩ : Addr).add (l * P.cellsOf e))) = ⟨(m n).block,(m n).off + o + l * P.cellsOf e,none⟩:=by
              rw [addr_add]
              rcases c5 with rfl|c5
              · simp
              · rw [if_neg (by omega)]
            have hsb : (Instr.sliceBounds false len len lo' hi' none).run P w = .ok (l,k,len) w:=by
              unfold Instr.sliceBounds
              cases hi'<;>cases lo'<;>simp_all [Sem.run_bind,Sem.run_pure,Result.andThen_ok]
            simp only [Instr.sliceAt,Instr.sureAddr,Sem.run_bind,run_underlying hu,Result.andThen_ok,hsb,sizeOf_cellsOf c2,Sem.run_pure]
            rw [hadd]
          · have:=VR.slice (D:=D) (m:=m) n (o + l * P.cellsOf e) (k - l) (len - l) (len - l) hD (by omega) (Nat.le_refl _) (.inl (.inr rfl))
            rwa [← Nat.add_assoc] at this
        · cases hv
      · cases hv
    · cases hv
  · cases hv

/-- x[l:k:q] -/
def slice3V (P : Program) (t : TypeId) (x : Value) (lo : Option Value) (hi mx : Value) (h : List Blk) : Option Value :=
  match P.underlying t,x with
  | some (.slice e),.slice (some ⟨n,o,none⟩) _ c =>
    match h[n]? with
    | some (.cells _ _) =>
      match bnd lo 0,bnd (some hi) 0,bnd (some mx) 0 with
      | some l,some k,some q=>if (P.info? e).isSome = true ∧ l ≤ k ∧ k ≤ q ∧ q ≤ c ∧ (l = 0 ∨ l < q) then some (.slice (some ⟨n,o + l * P.cellsOf e,none⟩) (k - l) (q - l)) else none
      | _,_,_=>none
    | _=>none
  | _,_=>none
theorem slice3V_sound {P : Program} {B lo0 : Nat} {D : Nat → Prop} {m : NMap} {h : List Blk} {w : World} (_hr : Rel B lo0 D m h w) {t : TypeId} {x x' v : Value} {lo lo' : Option Value} {hi hi' mx mx' : Value} (hx : VR D m x x') (hl : OptR D m lo lo') (hh : VR D m hi hi') (hm : VR D m mx mx')
    (hv : slice3V P t x lo hi mx h = some v) : ∃ v',(∀ w,(Instr.sliceAt t x' lo' (some hi') (some mx')).run P w = .ok v' w) ∧ VR D m v v':=by
  unfold slice3V at hv
  split at hv
  · rename_i e n o len c hu
    obtain ⟨hD,c',hlc,hcc,rfl⟩ : D n ∧ ∃ c',len ≤ c ∧ c ≤ c' ∧ x' = .slice (some ⟨(m n).block,(m n).off + o,none⟩) len c':=by
      cases hx
      exact ⟨by assumption,_,by assumption,by assumption,rfl⟩
    split at hv
    · split at hv
      · rename_i l k q h1 h2 h3
        split at hv
        · rename_i hc
          obtain ⟨c2,c3,c4,c5,c6⟩:=hc
          obtain rfl:=Option.some.inj hv
          refine ⟨.slice (some ⟨(m n).block,(m n).off + o + l * P.cellsOf e,none⟩) (k - l) (q - l),fun w=>?_,?_⟩
          · have r3:=fun code=>bnd_run (P:=P) (x':=some mx') (cap:=c') (code:=code) (show OptR D m (some mx) (some mx') from hm) h3 (by omega) w
            have r1:=fun code=>bnd_run (P:=P) (x':=some hi') (cap:=q) (code:=code) (show OptR D m (some hi) (some hi') from hh) h2 (by omega) w
            have r2:=fun code=>bnd_run (P:=P) (cap:=k) (code:=code) hl h1 c3 w
            have hadd : (if q = l then some (⟨(m n).block,(m n).off + o,none⟩ : Addr) else some ((⟨(m n).block,(m n).off + o,none⟩ : Addr).add (l * P.cellsOf e))) = some ⟨(m n).block,(m n).off + o + l * P.cellsOf e,none⟩:=by
              rw [addr_add]
              rcases c6 with rfl|c6
              · simp
              · rw [if_neg (by omega)]
            have hsb : (Instr.sliceBounds true len c' lo' (some hi') (some mx')).run P w = .ok (l,k,q) w:=by
              unfold Instr.sliceBounds
              cases lo'<;>simp_all [Sem.run_bind,Sem.run_pure,Result.andThen_ok]
            simp only [Instr.sliceAt,Instr.slice,Sem.run_bind,run_underlying hu,Result.andThen_ok,hsb,sizeOf_cellsOf c2,Sem.run_pure,Option.map_some]
            rw [hadd]
          · have:=VR.slice (D:=D) (m:=m) n (o + l * P.cellsOf e) (k - l) (q - l) (q - l) hD (by omega) (Nat.le_refl _) (.inl (.inr rfl))
            rwa [← Nat.add_assoc] at this
        · cases hv
      · cases hv
    · cases hv
  · cases hv

/-- a front part of a row that has its type -/
def sliceT (P : Program) (t : TypeId) (x : Value) (lo hi : Option Value) (h : List Blk) : Option Value :=
  match P.underlying t,x with
  | some (.slice e),.slice (some ⟨n,o,none⟩) len c =>
    match h[n]? with
    | some (.tcells _ es _) =>
      match bnd lo 0,bnd hi len with
      | some 0,some k=>if es = P.cellsOf e ∧ (P.info? e).isSome = true ∧ k ≤ c then some (.slice (some ⟨n,o,none⟩) k c) else none
      | _,_=>none
    | _=>none
  | _,_=>none
theorem sliceT_sound {P : Program} {B lo0 : Nat} {D : Nat → Prop} {m : NMap} {h : List Blk} {w : World} (hr : Rel B lo0 D m h w) {t : TypeId} {x x' v : Value} {lo lo' hi hi' : Option Value} (hx : VR D m x x') (hl : OptR D m lo lo') (hh : OptR D m hi hi')
    (hv : sliceT P t x lo hi h = some v) : ∃ v',(∀ w,(Instr.sliceAt t x' lo' hi' none).run P w = .ok v' w) ∧ VR D m v v':=by
  unfold sliceT at hv
  split at hv
  · rename_i e n o len c hu
    obtain ⟨hD,c',hlc,hcc,he,rfl⟩ : D n ∧ ∃ c',len ≤ c ∧ c ≤ c' ∧ (((m n).es = 0 ∨ c' = c) ∨ o + c' * (m n).es ≤ (m n).ext) ∧ x' = .slice (some ⟨(m n).block,(m n).off + o,none⟩) len c':=by
      cases hx
      exact ⟨by assumption,_,by assumption,by assumption,by assumption,rfl⟩
    split at hv
    · rename_i es cs hb
      split at hv
      · rename_i k h1 h2
        split at hv
        · rename_i hc
          obtain ⟨c1,c2,c3⟩:=hc
          obtain rfl:=Option.some.inj hv
          refine ⟨.slice (some ⟨(m n).block,(m n).off + o,none⟩) k c',fun w=>?_,.slice n o k c c' hD c3 hcc he⟩
          have r1:=fun code=>bnd_run (P:=P) (cap:=c') (code:=code) hh h2 (by omega) w
          have r2:=fun code=>bnd_run (P:=P) (cap:=k) (code:=code) hl h1 (Nat.zero_le _) w
          have hadd : (if c' = 0 then (some (⟨(m n).block,(m n).off + o,none⟩ : Addr)) else some ((⟨(m n).block,(m n).off + o,none⟩ : Addr).add (0 * P.cellsOf e))) = some ⟨(m n).block,(m n).off + o,none⟩:=by
            simp [Addr.add]
          have hsb : (Instr.sliceBounds true len c' lo' hi' none).run P w = .ok (0,k,c') w:=by
            unfold Instr.sliceBounds
            cases hi'<;>cases lo'<;>simp_all [Sem.run_bind,Sem.run_pure,Result.andThen_ok]
          simp only [Instr.sliceAt,Instr.slice,Sem.run_bind,run_underlying hu,Result.andThen_ok,hsb,sizeOf_cellsOf c2,Sem.run_pure,Option.map_some]
          rw [hadd]
          rfl
        · cases hv
      · cases hv
    · cases hv
  · cases hv

/-- == nil on a slice that is somewhere -/
def nilBin (P : Program) (op : BinOp) (t : TypeId) (x y : Value) : Option Value :=
  match P.underlying t with
  | some (.slice _)=>match x,y with
    | .slice (some _) _ _,.slice none _ _=>(match op with
      | .eql=>some (.bool false)
      | .neq=>some (.bool true)
      | _=>none)
    | _,_=>none
  | some (.pointer e)=>match P.info? e with
    | none=>none
    | some _=>match x,y with
      | .pointer (some ⟨_,_,none⟩),.pointer none=>(match op with
        | .eql=>some (.bool false)
        | .neq=>some (.bool true)
        | _=>none)
      | .pointer (some ⟨n,o,none⟩),.pointer (some ⟨n',o',none⟩)=>if n = n' ∧ o = o' then (match op with
        | .eql=>some (.bool true)
        | .neq=>some (.bool false)
        | _=>none) else none
      | _,_=>none
  | _=>none
theorem nilBin_run {P : Program} {op : BinOp} {t u : TypeId} {x y : Operand} {dst : Option Tmp} {ty : TypeId} {pos : String} {after : Array Edge} {guard : Option (Nat × Bool)} {ρ : Operand → Value} {v : Value} (hv : nilBin P op t (ρ x) (ρ y) = some v) (w : World) :
    (execOp ρ { dst:=dst,op:=.binOp op t x y u,type:=ty,pos:=pos,after:=after,guard:=guard }).run P w = .ok (.value v) w ∧ ∃ b,v = .bool b:=by
  unfold nilBin at hv
  split at hv
  · rename_i e hu
    split at hv
    · rename_i a l c l' c' hx hy
      have hg : (eqGuard op t x y (.slice (some a) l c) (.slice none l' c')).run P w = .ok () w:=by
        unfold eqGuard
        split<;>rfl
      have he : (Op.equal t (.slice (some a) l c) (.slice none l' c')).run P w = .ok false w:=by
        unfold Op.equal Op.maxDepth Op.equalIn
        simp only [Sem.run_bind,run_underlying hu,Result.andThen_ok,Sem.run_pure]
      cases op<;>simp only [] at hv<;>first
        | (cases hv;done)
        | (obtain rfl := Option.some.inj hv
           refine ⟨?_,_,rfl⟩
           simp only [execOp,hx,hy,Sem.run_bind,hg,Result.andThen_ok,binOp,he,Sem.run_pure,Bool.not_false])
    · cases hv
  · rename_i e hu
    split at hv
    · cases hv
    rename_i j hj
    split at hv
    · rename_i n o hx hy
      have hg : (eqGuard op t x y (.pointer (some ⟨n,o,none⟩)) (.pointer none)).run P w = .ok () w:=by
        unfold eqGuard
        split<;>rfl
      have he : (Op.equal t (.pointer (some ⟨n,o,none⟩)) (.pointer none)).run P w = .ok false w:=by
        unfold Op.equal Op.maxDepth Op.equalIn
        simp only [Sem.run_bind,run_underlying hu,Result.andThen_ok,Sem.run_pure]
      cases op<;>simp only [] at hv<;>first
        | (cases hv;done)
        | (obtain rfl := Option.some.inj hv
           refine ⟨?_,_,rfl⟩
           simp only [execOp,hx,hy,Sem.run_bind,hg,Result.andThen_ok,binOp,he,Sem.run_pure,Bool.not_false])
    · rename_i n o n' o' hx hy
      split at hv
      · rename_i hc
        obtain ⟨rfl,rfl⟩:=hc
        have hg : (eqGuard op t x y (.pointer (some ⟨n,o,none⟩)) (.pointer (some ⟨n,o,none⟩))).run P w = .ok () w:=by
          unfold eqGuard
          split<;>rfl
        have he:=Go.run_eql_ptr_same w ⟨n,o,none⟩ hu hj
        have hne:=Go.Lib.run_neq_ptr_same w ⟨n,o,none⟩ hu hj
        cases op<;>simp only [] at hv<;>first
          | (cases hv;done)
          | (obtain rfl := Option.some.inj hv
             refine ⟨?_,_,rfl⟩
             simp only [execOp,hx,hy,Sem.run_bind,hg,Result.andThen_ok,he,hne,Sem.run_pure])
      · cases hv
    · cases hv
  · cases hv
def selfPtr (P : Program) (e : TypeId) : Bool :=
  match P.underlying e with
  | some (.struct fields)=>match fields[0]? with
    | some f=>match P.underlying f.type with
      | some (.pointer u)=>u == e
      | _=>false
    | none=>false
  | _=>false
def varBlk (P : Program) (e : TypeId) (c : List Value) : Blk:=if selfPtr P e = true then .tcells e 0 c else .cells (esOf P e) c
/-- what does -/
def hop (P : Program) (ρ : Operand → Value) (o : Oper) (h : List Blk) : AOut :=
  match o.op with
  | .alloc e=>match P.info? e with
    | some i=>match i.zero with
      | some z=>if isClean z = true then some (.pointer (some ⟨h.length,0,none⟩),h ++ [varBlk P e z.cells.toList],none) else none
      | none=>none
    | none=>none
  | .box e x=>some (.pointer (some ⟨h.length,0,none⟩),h ++ [.cells (esOf P e) (ρ x).cells.toList],none)
  | .buildSlice t n ps=>newH (buildSliceV P t n (mapParts ρ ps) h)
  | .makeSlice t l c=>newH (makeSliceV P t (ρ l) (ρ c) h)
  | .load t a=>match ρ a with
    | .pointer (some ⟨n,o,none⟩)=>(loadV P t h n o).map fun v=>(v,h,none)
    | _=>none
  | .store t a x=>match ρ a with
    | .pointer (some ⟨n,o,none⟩)=>(storeV P t h n o (ρ x)).map fun h'=>(undef,h',some n)
    | _=>none
  | .call c=>bhop P ρ c h
  | .slice t x lo hi mx=>match mx with
    | none=>match sliceV P t (ρ x) (lo.map ρ) (hi.map ρ) h with
      | some v=>some (v,h,none)
      | none=>(sliceT P t (ρ x) (lo.map ρ) (hi.map ρ) h).map fun v=>(v,h,none)
    | some q=>match hi with
      | some k=>(slice3V P t (ρ x) (lo.map ρ) (ρ k) (ρ q) h).map fun v=>(v,h,none)
      | none=>none
  | .binOp op t x y _=>(nilBin P op t (ρ x) (ρ y)).map fun v=>(v,h,none)
  | .makeMap _ r=>match r with
    | none=>some (.map (some h.length),h ++ [.map #[] 0],none)
    | some _=>none
  | .lookup t x k ok=>(lookupV P t (ρ x) (ρ k) ok h).map fun v=>(v,h,none)
  | .mapUpdate t x k v=>(mapSetV P t (ρ x) (ρ k) (ρ v) h).map fun (h',n)=>(undef,h',some n)
  | .insert t x k v=>(mapSetV P t (ρ x) (ρ k) (ρ v) h).map fun (h',n)=>(undef,h',some n)
  | .convert src dst x=>newH (convV P src dst (ρ x) h)
  | _=>none

/-- a step of an operation -/
def StepN (P : Program) (B lo : Nat) (D : Nat → Prop) (m : NMap) (h : List Blk) (w : World) (s : Sem Next) (v : Value) (h' : List Blk) : Prop :=
  ∃ r v' w' m',s.run P w = .ok r w' ∧ (r = .value v' ∨ (r = .skip ∧ v' = undef)) ∧ Post B lo D m h w m' h' w' ∧ VR (Dx D h.length h'.length) m' v v'
theorem StepN.of {P : Program} {B lo : Nat} {D : Nat → Prop} {m : NMap} {h h' : List Blk} {w : World} {s : Sem Value} {v : Value} (hs : StepV P B lo D m h w s v h') : StepN P B lo D m h w (do pure (.value (← s))) v h':=by
  obtain ⟨v',w',m',h1,h2,h3⟩:=hs
  exact ⟨.value v',v',w',m',by simp only [Sem.run_bind,h1,Result.andThen_ok,Sem.run_pure],.inl rfl,h2,h3⟩

/-- a step that does not look at memory -/
def StepP (P : Program) (D : Nat → Prop) (m : NMap) (s : Sem Next) (v : Value) : Prop:=∃ v',(∀ w,s.run P w = .ok (.value v') w) ∧ VR D m v v'
theorem StepP.of {P : Program} {D : Nat → Prop} {m : NMap} {s : Sem Value} {v : Value} (hs : ∃ v',(∀ w,s.run P w = .ok v' w) ∧ VR D m v v') : StepP P D m (do pure (.value (← s))) v:=by
  obtain ⟨v',h1,h2⟩:=hs
  exact ⟨v',fun w=>by simp only [Sem.run_bind,h1,Result.andThen_ok,Sem.run_pure],h2⟩
theorem StepP.step {P : Program} {B lo : Nat} {D : Nat → Prop} {m : NMap} {h : List Blk} {w : World} {s : Sem Next} {v : Value} (hs : StepP P D m s v) (hr : Rel B lo D m h w) : StepN P B lo D m h w s v h:=by
  obtain ⟨v',h1,h2⟩:=hs
  exact ⟨.value v',v',w,m,h1 w,.inl rfl,Post.refl hr,by rw [Dx.refl];exact h2⟩

theorem genP_sound {P : Program} {D : Nat → Prop} {m : NMap} {ρ ρ' : Operand → Value} {o : Oper} {v : Value}
    (hρ : ∀ x ∈ o.op.operands,VR D m (ρ x) (ρ' x)) (hv : genP P ρ o = some v) : StepP P D m (execOp ρ' o) v:=by
  unfold genP at hv
  split at hv
  · cases hv
  · rename_i hsel
    split at hv
    · rename_i hc
      split at hv
      · rename_i v0 hp
        split at hv
        · rename_i hcv
          obtain rfl:=Option.some.inj hv
          have heq : execOp ρ' o = execOp ρ o:=execOp_congr o (fun cs b e=>hsel cs b e) (fun x hx=>by
            have:=List.all_eq_true.1 hc x (by simpa using hx)
            exact (hρ x hx).eq_of_clean depth _ _ this)
          exact ⟨v0,fun w=>by rw [heq];exact prun_run hp w,VR.of_clean depth _ hcv⟩
        · cases hv
      · cases hv
    · cases hv

theorem mapParts_prs {D : Nat → Prop} {m : NMap} {ρ ρ' : Operand → Value} {ps : Array (Nat × Operand)} (h : ∀ x ∈ (ps.toList.map (·.2)).toArray,VR D m (ρ x) (ρ' x)) : PRs D m (mapParts ρ ps).toList (mapParts ρ' ps).toList:=by
  refine ⟨by simp [mapParts],fun i p p' hp hp'=>?_⟩
  simp only [mapParts,Array.toList_map,List.getElem?_map] at hp hp'
  cases hq : ps.toList[i]? with
  | none=>rw [hq] at hp;cases hp
  | some q =>
    rw [hq] at hp hp'
    simp only [Option.map_some,Option.some.injEq] at hp hp'
    subst hp hp'
    exact ⟨rfl,h _ (by simp only [List.mem_toArray,List.mem_map];exact ⟨q,List.mem_of_getElem? hq,rfl⟩)⟩
theorem map_vrs {D : Nat → Prop} {m : NMap} {ρ ρ' : Operand → Value} {xs : Array Operand} (h : ∀ x ∈ xs,VR D m (ρ x) (ρ' x)) : VRs D m (xs.map ρ).toList (xs.map ρ').toList:=by
  refine ⟨by simp,fun i v v' hv hv'=>?_⟩
  simp only [Array.toList_map,List.getElem?_map] at hv hv'
  cases hq : xs.toList[i]? with
  | none=>rw [hq] at hv;cases hv
  | some q =>
    rw [hq] at hv hv'
    simp only [Option.map_some,Option.some.injEq] at hv hv'
    subst hv hv'
    exact h q (by simpa using List.mem_of_getElem? hq)
theorem newH_some {h' : List Blk} {r : Option (Value × List Blk)} {v : Value} {wr : Option Nat} (hv : newH r = some (v,h',wr)) : r = some (v,h') ∧ wr = none:=by
  cases r with
  | none=>cases hv
  | some x=>obtain ⟨a,b⟩:=x;simp [newH] at hv;obtain ⟨rfl,rfl,rfl⟩:=hv;exact ⟨rfl,rfl⟩

theorem fastBin_run {P : Program} {op : BinOp} {t u : TypeId} {x y : Operand} {dst : Option Tmp} {ty : TypeId} {pos : String} {after : Array Edge} {guard : Option (Nat × Bool)} {ρ : Operand → Value} {v : Value} (hv : fastBin op (ρ x) (ρ y) = some v) (w : World) :
    (execOp ρ { dst:=dst,op:=.binOp op t x y u,type:=ty,pos:=pos,after:=after,guard:=guard }).run P w = .ok (.value v) w:=by
  unfold fastBin at hv
  split at hv
  · rename_i k a k' b hx hy
    split at hv
    · rename_i hk
      subst hk
      have hg : (eqGuard op t x y (.int k a) (.int k b)).run P w = .ok () w:=by
        unfold eqGuard
        split<;>rfl
      have key : ∀ r : Value,(binOp op t (.int k a) (.int k b)).run P w = .ok r w → (execOp ρ { dst:=dst,op:=.binOp op t x y u,type:=ty,pos:=pos,after:=after,guard:=guard }).run P w = .ok (.value r) w:=by
        intro r hr
        simp only [execOp,hx,hy,Sem.run_bind,hg,Result.andThen_ok,hr,Sem.run_pure]
      apply key
      have neq : decide (a ≠ b) = (a != b):=by by_cases h : a = b<;>simp [h]
      have eql : decide (a = b) = (a == b):=by by_cases h : a = b<;>simp [h]
      cases op<;>simp only [] at hv<;>first
        | (cases hv;done)
        | (obtain rfl:=Option.some.inj hv;simp [binOp,Op.intArith,Op.intCmp,neq,eql];done)
        | (split at hv
           · cases hv
           · rename_i h0
             obtain rfl:=Option.some.inj hv
             simp [binOp,Op.intDiv,h0])
    · cases hv
  · cases hv

theorem pop_sound {P : Program} {D : Nat → Prop} {m : NMap} {ρ ρ' : Operand → Value} {o : Oper} {v : Value}
    (hρ : ∀ x ∈ o.op.operands,VR D m (ρ x) (ρ' x)) (hv : pop P ρ o = some v) : StepP P D m (execOp ρ' o) v:=by
  obtain ⟨dst,op,ty,pos,after,guard⟩:=o
  simp only [Op.operands] at hρ
  cases op<;>simp only [pop] at hv
  case move x =>
    obtain rfl:=Option.some.inj hv
    exact ⟨_,fun w=>rfl,hρ x (by simp)⟩
  case assign x =>
    obtain rfl:=Option.some.inj hv
    exact ⟨_,fun w=>rfl,hρ x (by simp)⟩
  case pick c a b =>
    split at hv
    · rename_i t hc
      obtain rfl:=Option.some.inj hv
      have h1:=hρ c (by simp)
      have h2:=hρ a (by simp)
      have h3:=hρ b (by simp)
      rw [hc] at h1
      have h4 : ρ' c = .bool t:=by
        generalize ρ' c = y at *
        cases h1;rfl
      refine ⟨if t then ρ' a else ρ' b,fun w=>?_,by cases t<;>assumption⟩
      simp [execOp,h4,asBool]
    · cases hv
  case nilCheck x =>
    split at hv
    · rename_i hc
      obtain rfl:=Option.some.inj hv
      have h1:=hρ x (by simp)
      refine ⟨ρ' x,fun w=>?_,h1⟩
      simp only [execOp]
      generalize ρ x = y at *
      generalize ρ' x = y' at *
      cases h1<;>first|(simp [isSome1] at hc;done)|rfl
    · cases hv
  case build t ps=>exact .of (buildV_sound (mapParts_prs hρ) hv)
  case makeFunc fn first captured =>
    cases fn<;>simp only [] at hv<;>try (cases hv;done)
    rename_i f
    obtain rfl:=Option.some.inj hv
    have h1:=map_vrs (xs:=first) (ρ:=ρ) (ρ':=ρ') (D:=D) (m:=m) fun x hx=>hρ x (by simp [hx])
    have h2:=map_vrs (xs:=captured) (ρ:=ρ) (ρ':=ρ') (D:=D) (m:=m) fun x hx=>hρ x (by simp [hx])
    exact ⟨_,fun w=>rfl,.func f _ _ _ _ h1.len h1.at' h2.len h2.at'⟩
  case extract t i =>
    split at hv
    · rename_i l ht
      have h2:=hρ t (by simp)
      rw [ht] at h2
      obtain ⟨l',hl,h3⟩ : ∃ l',VRs D m l l' ∧ ρ' t = .tuple ⟨l'⟩:=by
        generalize ρ' t = y at *
        cases h2;exact ⟨_,⟨by assumption,by assumption⟩,rfl⟩
      obtain ⟨v',h4,h5⟩:=hl.at hv
      refine .of ⟨v',fun w=>?_,h5⟩
      simp only [Instr.extract,h3]
      simp [h4]
    · cases hv
  case fieldAddr t x f=>exact .of (fieldAddrV_sound (hρ x (by simp)) hv)
  case indexAddr t x ix=>exact .of (indexAddrV_sound (hρ x (by simp)) (hρ ix (by simp)) hv)
  case binOp op t x y u =>
    unfold orGen at hv
    split at hv
    · rename_i r h1
      obtain rfl:=Option.some.inj hv
      have h2:=hρ x (by simp)
      have h3:=hρ y (by simp)
      obtain ⟨k,a,k',b,hx,hy⟩ : ∃ k a k' b,ρ x = .int k a ∧ ρ y = .int k' b:=by
        unfold fastBin at h1
        split at h1
        · rename_i k a k' b hx hy;exact ⟨k,a,k',b,hx,hy⟩
        · cases h1
      rw [hx] at h2;rw [hy] at h3
      have e2 : ρ' x = .int k a:=by
        generalize ρ' x = z at *
        cases h2;rfl
      have e3 : ρ' y = .int k' b:=by
        generalize ρ' y = z at *
        cases h3;rfl
      rw [hx,hy,← e2,← e3] at h1
      refine ⟨r,fun w=>fastBin_run h1 w,?_⟩
      unfold fastBin at h1
      rw [e2,e3] at h1
      simp only at h1
      split at h1
      · cases op <;> simp only [] at h1 <;> first
          | (cases h1;done)
          | (obtain rfl:=Option.some.inj h1;first|exact .int _ _|exact .bool _)
          | (split at h1
             · cases h1
             · obtain rfl:=Option.some.inj h1;exact .int _ _)
      · cases h1
    · exact genP_sound (by simpa only [Op.operands] using hρ) hv
  case field t x f=>exact .of (fieldV_sound (hρ x (by simp)) hv)
  case sliceToArrayPointer arr x=>exact .of (arrPtr_sound (hρ x (by simp)) hv)
  case index t x ix =>
    unfold orGen at hv
    split at hv
    · rename_i r hr'
      obtain rfl:=Option.some.inj hv
      exact .of (indexV_sound (hρ x (by simp)) (hρ ix (by simp)) hr')
    · exact genP_sound (by simpa only [Op.operands] using hρ) hv
  case call c =>
    obtain ⟨callee,args,argTypes⟩:=c
    unfold bpop at hv
    simp only at hv
    split at hv
    · rename_i b
      split at hv
      · rename_i hb
        subst hb
        split at hv
        · rename_i a ha
          obtain rfl : args = #[a]:=Array.ext' ha
          unfold orGen at hv
          split at hv
          · rename_i r h1
            obtain rfl:=Option.some.inj hv
            have h2:=hρ a (by simp [Call.operands])
            unfold lenV at h1
            split at h1
            · cases h1
            · rename_i t ht
              split at h1
              · rename_i e ad n c hu hx
                obtain rfl:=Option.some.inj h1
                rw [hx] at h2
                obtain ⟨x',c',h3⟩ : ∃ x' c',ρ' a = .slice x' n c':=by
                  generalize ρ' a = y at *
                  cases h2<;>exact ⟨_,_,rfl⟩
                have ee : execOp ρ' { dst:=dst,op:=.call { callee:=.builtin .len,args:=#[a],argTypes:=argTypes },type:=ty,pos:=pos,after:=after,guard:=guard } = (do pure (.value (← Builtin.len_ argTypes ty #[ρ' a]))):=by
                  simp only [execOp,resolve,invoke,List.map_toArray,List.map_cons,List.map_nil]
                  rfl
                rw [ee]
                refine StepP.of (s:=Builtin.len_ argTypes ty #[ρ' a]) ⟨.int .i64 n,fun w=>?_,.int _ _⟩
                simp only [Builtin.len_,ht,h3,List.getElem?_toArray,List.getElem?_cons_zero,Sem.run_bind,run_underlying hu,Result.andThen_ok,Sem.run_pure]
                rfl
              · cases h1
          · exact genP_sound (by simpa only [Op.operands] using hρ) hv
        · cases hv
      · exact genP_sound (by simpa only [Op.operands] using hρ) hv
    · cases hv
  all_goals first|(cases hv;done)|exact genP_sound (by simpa only [Op.operands] using hρ) hv

theorem hop_sound {P : Program} {B lo : Nat} {D : Nat → Prop} {m : NMap} {h h' : List Blk} {w : World} {ρ ρ' : Operand → Value} {o : Oper} {v : Value} {wr : Option Nat} (hr : Rel B lo D m h w) (hlo : lo ≤ h.length)
    (hρ : ∀ x ∈ o.op.operands,VR D m (ρ x) (ρ' x)) (hv : hop P ρ o h = some (v,h',wr)) (hw : WrOk lo wr) : StepN P B lo D m h w (execOp ρ' o) v h':=by
  obtain ⟨dst,op,ty,pos,after,guard⟩:=o
  simp only [Op.operands] at hρ
  cases op<;>simp only [hop] at hv
  case alloc e =>
    split at hv
    · rename_i i hi
      split at hv
      · rename_i z hz
        split at hv
        · rename_i hc
          obtain ⟨rfl,rfl,rfl⟩ : _ = v ∧ _ = h' ∧ none = wr:=by simpa using hv
          have hstep : StepV P B lo D m h w (do pure (.pointer (some (← newVar e z)))) (.pointer (some ⟨h.length,0,none⟩)) (h ++ [varBlk P e z.cells.toList]):=by
            unfold varBlk
            split
            · exact newVarT_sound (P:=P) hr hlo e (VR.of_clean depth z hc)
            · exact newVar_sound (P:=P) hr hlo (esOf P e) e (VR.of_clean depth z hc)
          obtain ⟨v',w',m',h1,h2,h3⟩:=hstep
          refine StepN.of ⟨v',w',m',?_,h2,h3⟩
          simp only [Instr.alloc,Sem.run_bind,zeroValue,typeInfo,run_program,Result.andThen_ok,hi,hz,Sem.run_pure] at h1 ⊢
          exact h1
        · cases hv
      · cases hv
    · cases hv
  case box e x =>
    obtain ⟨rfl,rfl,rfl⟩ : _ = v ∧ _ = h' ∧ none = wr:=by simpa using hv
    exact StepN.of (newVar_sound (P:=P) hr hlo (esOf P e) e (hρ x (by simp)))
  case convert src dst x =>
    obtain ⟨h1,rfl⟩:=newH_some hv
    exact StepN.of (convV_sound hr hlo (hρ x (by simp)) h1)
  case buildSlice t n ps =>
    obtain ⟨h1,rfl⟩:=newH_some hv
    exact StepN.of (buildSliceV_sound hr hlo (mapParts_prs hρ) h1)
  case makeSlice t l c =>
    obtain ⟨h1,rfl⟩:=newH_some hv
    exact StepN.of (makeSliceV_sound hr hlo (hρ l (by simp)) (hρ c (by simp)) h1)
  case load t a =>
    split at hv
    · rename_i n o ha
      cases hl : loadV P t h n o with
      | none=>rw [hl] at hv;cases hv
      | some v0 =>
        rw [hl] at hv
        obtain ⟨rfl,rfl,rfl⟩ : v0 = v ∧ h = h' ∧ none = wr:=by simpa using hv
        have h2:=hρ a (by simp)
        rw [ha] at h2
        obtain ⟨hD,h3⟩ : D n ∧ ρ' a = .pointer (some ⟨(m n).block,(m n).off + o,none⟩):=by
          generalize ρ' a = y at *
          cases h2;exact ⟨by assumption,rfl⟩
        obtain ⟨v',h4,h5⟩:=loadV_sound (P:=P) hr hD hl
        refine .of (.pure hr (v':=v') ?_ h5)
        simp only [Instr.loadAt,h3,Instr.sureAddr,Sem.run_bind,Sem.run_pure,Result.andThen_ok,h4]
    · cases hv
  case store t a x =>
    split at hv
    · rename_i n o ha
      cases hst : storeV P t h n o (ρ x) with
      | none=>rw [hst] at hv;cases hv
      | some h1 =>
        rw [hst] at hv
        obtain ⟨rfl,rfl,rfl⟩ : undef = v ∧ h1 = h' ∧ some n = wr:=by simpa using hv
        have h2:=hρ a (by simp)
        rw [ha] at h2
        obtain ⟨hD,h3⟩ : D n ∧ ρ' a = .pointer (some ⟨(m n).block,(m n).off + o,none⟩):=by
          generalize ρ' a = y at *
          cases h2;exact ⟨by assumption,rfl⟩
        obtain ⟨w',h4,h5⟩:=storeV_sound (P:=P) hr hD (hw n rfl) hst (hρ x (by simp))
        refine ⟨.skip,undef,w',m,?_,.inr ⟨rfl,rfl⟩,h5,VR.undef⟩
        simp only [execOp,Instr.storeAt,h3,Instr.sureAddr,Sem.run_bind,Sem.run_pure,Result.andThen_ok,h4]
    · cases hv
  case slice t x lo hi mx =>
    cases mx with
    | some q =>
      cases hi with
      | none=>cases hv
      | some k =>
        simp only at hv
        cases hl : slice3V P t (ρ x) (lo.map ρ) (ρ k) (ρ q) h with
        | none=>rw [hl] at hv;cases hv
        | some v0 =>
          rw [hl] at hv
          obtain ⟨rfl,rfl,rfl⟩ : v0 = v ∧ h = h' ∧ none = wr:=by simpa using hv
          have ho : OptR D m (lo.map ρ) (lo.map ρ'):=by
            cases lo with
            | none=>exact trivial
            | some y=>exact hρ y (by simp)
          obtain ⟨v',h4,h5⟩:=slice3V_sound (P:=P) hr (hρ x (by simp)) ho (hρ k (by simp)) (hρ q (by simp)) hl
          refine .of (.pure hr (v':=v') ?_ h5)
          exact h4 w
    | none =>
      simp only at hv
      have ho : ∀ q : Option Operand,(∀ y ∈ q,VR D m (ρ y) (ρ' y)) → OptR D m (q.map ρ) (q.map ρ'):=by
        intro q hq
        cases q with
        | none=>exact trivial
        | some y=>exact hq y rfl
      cases hl : sliceV P t (ρ x) (lo.map ρ) (hi.map ρ) h with
      | none =>
        rw [hl] at hv
        simp only at hv
        cases hl : sliceT P t (ρ x) (lo.map ρ) (hi.map ρ) h with
        | none=>rw [hl] at hv;cases hv
        | some v0 =>
          rw [hl] at hv
          obtain ⟨rfl,rfl,rfl⟩ : v0 = v ∧ h = h' ∧ none = wr:=by simpa using hv
          obtain ⟨v',h4,h5⟩:=sliceT_sound (P:=P) hr (hρ x (by simp)) (ho lo fun y hy=>hρ y (by simp;exact .inr (.inl (Option.mem_def.1 hy)))) (ho hi fun y hy=>hρ y (by simp;exact .inr (.inr (Option.mem_def.1 hy)))) hl
          refine .of (.pure hr (v':=v') ?_ h5)
          exact h4 w
      | some v0 =>
        rw [hl] at hv
        obtain ⟨rfl,rfl,rfl⟩ : v0 = v ∧ h = h' ∧ none = wr:=by simpa using hv
        obtain ⟨v',h4,h5⟩:=sliceV_sound (P:=P) hr (hρ x (by simp)) (ho lo fun y hy=>hρ y (by simp;exact .inr (.inl (Option.mem_def.1 hy)))) (ho hi fun y hy=>hρ y (by simp;exact .inr (.inr (Option.mem_def.1 hy)))) hl
        refine .of (.pure hr (v':=v') ?_ h5)
        exact h4 w
  case binOp op t x y u =>
    cases hl : nilBin P op t (ρ x) (ρ y) with
    | none=>rw [hl] at hv;cases hv
    | some v0 =>
      rw [hl] at hv
      obtain ⟨rfl,rfl,rfl⟩ : v0 = v ∧ h = h' ∧ none = wr:=by simpa using hv
      have h2:=hρ x (by simp)
      have h3:=hρ y (by simp)
      have hl' : nilBin P op t (ρ' x) (ρ' y) = some v0:=by
        unfold nilBin at hl ⊢
        split at hl
        · rename_i e hu
          split at hl
          · rename_i a l c l' c' hx hy
            rw [hx] at h2;rw [hy] at h3
            generalize ρ' x = p at *
            generalize ρ' y = q at *
            cases h2<;>cases h3<;>exact hl
          · cases hl
        · rename_i e hu
          split at hl
          · cases hl
          rename_i j hj
          split at hl
          · rename_i n o hx hy
            rw [hx] at h2;rw [hy] at h3
            generalize ρ' x = p at *
            generalize ρ' y = q at *
            cases h2;cases h3
            exact hl
          · rename_i n o n' o' hx hy
            split at hl
            · rename_i hc
              obtain ⟨rfl,rfl⟩:=hc
              rw [hx] at h2;rw [hy] at h3
              generalize ρ' x = p at *
              generalize ρ' y = q at *
              cases h2;cases h3
              simp only [and_self,if_true]
              exact hl
            · cases hl
          · cases hl
        · cases hl
      obtain ⟨h4,b,rfl⟩:=nilBin_run (dst:=dst) (ty:=ty) (pos:=pos) (after:=after) (guard:=guard) (u:=u) hl' w
      exact ⟨.value (.bool b),.bool b,w,m,h4,.inl rfl,Post.refl hr,.bool b⟩
  case makeMap t r =>
    cases r with
    | some _=>cases hv
    | none =>
      obtain ⟨rfl,rfl,rfl⟩ : _ = v ∧ _ = h' ∧ none = wr:=by simpa using hv
      exact StepN.of (newMap_sound (P:=P) hr hlo t)
  case lookup t x k ok =>
    cases hl : lookupV P t (ρ x) (ρ k) ok h with
    | none=>rw [hl] at hv;cases hv
    | some v0 =>
      rw [hl] at hv
      obtain ⟨rfl,rfl,rfl⟩ : v0 = v ∧ h = h' ∧ none = wr:=by simpa using hv
      obtain ⟨h4,h5⟩:=lookupV_sound (P:=P) hr (hρ x (by simp)) (hρ k (by simp)) hl
      exact .of (.pure hr (v':=v0) h4 (VR.of_clean depth _ h5))
  case mapUpdate t x k u =>
    cases hl : mapSetV P t (ρ x) (ρ k) (ρ u) h with
    | none=>rw [hl] at hv;cases hv
    | some q =>
      obtain ⟨h1,n⟩:=q
      rw [hl] at hv
      obtain ⟨rfl,rfl,rfl⟩ : undef = v ∧ h1 = h' ∧ some n = wr:=by simpa using hv
      obtain ⟨w',h4,h5⟩:=mapSetV_sound (P:=P) hr (hρ x (by simp)) (hρ k (by simp)) (hρ u (by simp)) hl (hw n rfl)
      refine ⟨.skip,undef,w',m,?_,.inr ⟨rfl,rfl⟩,h5,VR.undef⟩
      simp only [execOp,Sem.run_bind,h4,Result.andThen_ok,Sem.run_pure]
  case insert t x k u =>
    cases hl : mapSetV P t (ρ x) (ρ k) (ρ u) h with
    | none=>rw [hl] at hv;cases hv
    | some q =>
      obtain ⟨h1,n⟩:=q
      rw [hl] at hv
      obtain ⟨rfl,rfl,rfl⟩ : undef = v ∧ h1 = h' ∧ some n = wr:=by simpa using hv
      obtain ⟨w',h4,h5⟩:=mapSetV_sound (P:=P) hr (hρ x (by simp)) (hρ k (by simp)) (hρ u (by simp)) hl (hw n rfl)
      refine ⟨.skip,undef,w',m,?_,.inr ⟨rfl,rfl⟩,h5,VR.undef⟩
      simp only [execOp,Sem.run_bind,h4,Result.andThen_ok,Sem.run_pure]
  case call c =>
    obtain ⟨callee,args,argTypes⟩:=c
    unfold bhop at hv
    simp only at hv
    split at hv
    · rename_i b
      split at hv
      · rename_i hb
        subst hb
        split at hv
        · rename_i x y hxy
          obtain rfl : args = #[x,y]:=Array.ext' hxy
          have ee : execOp ρ' { dst:=dst,op:=.call { callee:=.builtin .append,args:=#[x,y],argTypes:=argTypes },type:=ty,pos:=pos,after:=after,guard:=guard } = (do pure (.value (← Builtin.append_ argTypes ty #[ρ' x,ρ' y]))):=by
            simp only [execOp,resolve,invoke,List.map_toArray,List.map_cons,List.map_nil]
            rfl
          rw [ee]
          unfold appendX at hv
          split at hv
          · rename_i r h1
            obtain rfl:=Option.some.inj hv
            exact StepN.of (appendV_sound (ty:=ty) hr hlo (hρ x (by simp [Call.operands])) (hρ y (by simp [Call.operands])) h1 hw)
          · exact StepN.of (appendS_sound (ty:=ty) hr hlo (hρ x (by simp [Call.operands])) (hρ y (by simp [Call.operands])) hv hw)
        · cases hv
      · split at hv
        · rename_i hb
          subst hb
          split at hv
          · rename_i x y hxy
            obtain rfl : args = #[x,y]:=Array.ext' hxy
            have ee : execOp ρ' { dst:=dst,op:=.call { callee:=.builtin .copy,args:=#[x,y],argTypes:=argTypes },type:=ty,pos:=pos,after:=after,guard:=guard } = (do pure (.value (← Builtin.copy_ argTypes ty #[ρ' x,ρ' y]))):=by
              simp only [execOp,resolve,invoke,List.map_toArray,List.map_cons,List.map_nil]
              rfl
            rw [ee]
            exact StepN.of (copyV_sound (ty:=ty) hr (hρ x (by simp [Call.operands])) (hρ y (by simp [Call.operands])) hv hw)
          · cases hv
        · split at hv
          · rename_i hb
            subst hb
            split at hv
            · rename_i x hxy
              obtain rfl : args = #[x]:=Array.ext' hxy
              cases hq : sliceDataV (ρ x) with
              | none=>rw [hq] at hv;cases hv
              | some v0 =>
                rw [hq] at hv
                obtain ⟨rfl,rfl,rfl⟩ : v0 = v ∧ h = h' ∧ none = wr:=by simpa using hv
                have ee : execOp ρ' { dst:=dst,op:=.call { callee:=.builtin .unsafeSliceData,args:=#[x],argTypes:=argTypes },type:=ty,pos:=pos,after:=after,guard:=guard } = (do pure (.value (← Builtin.unsafeSliceData_ argTypes ty #[ρ' x]))):=by
                  simp only [execOp,resolve,invoke,List.map_toArray,List.map_cons,List.map_nil]
                  rfl
                rw [ee]
                obtain ⟨v',h4,h5⟩:=sliceDataV_sound (P:=P) (hρ x (by simp [Call.operands])) hq argTypes ty w
                exact StepN.of (.pure hr h4 h5)
            · cases hv
          · split at hv
            · rename_i hb
              subst hb
              split at hv
              · rename_i x y hxy
                obtain rfl : args = #[x,y]:=Array.ext' hxy
                have ee : execOp ρ' { dst:=dst,op:=.call { callee:=.builtin .unsafeString,args:=#[x,y],argTypes:=argTypes },type:=ty,pos:=pos,after:=after,guard:=guard } = (do pure (.value (← Builtin.unsafeString_ argTypes ty #[ρ' x,ρ' y]))):=by
                  simp only [execOp,resolve,invoke,List.map_toArray,List.map_cons,List.map_nil]
                  rfl
                rw [ee]
                exact StepN.of (strOfV_sound (ty:=ty) hr (hρ x (by simp [Call.operands])) (hρ y (by simp [Call.operands])) hv hw)
              · cases hv
            · cases hv
    · cases hv
  all_goals (cases hv;done)
end Go.Rex
