/- An executor of the program's functions on trees of values, proved sound. -/
import Derived.Laws.IdiomStrings
import Derived.Lib.ConvBytes
import Derived.Test.YtpjccpokiaefjaaGreatDoorRexG1
import Derived.MapKept
set_option linter.unusedSimpArgs false
set_option linter.unusedVariables false
set_option linter.defProp false
namespace Go.Rex
open Go.RowKit

theorem slice_vr' {D : Nat → Prop} {h h' : List Blk} {m : NMap} {i : Info} {l c c' : Nat} (hlen : h.length < h'.length) (hl : l ≤ c) (hc : c ≤ c') (he : c' * i.es ≤ i.ext) :
    VR (Dx D h.length h'.length) (upd m h.length i) (.slice (some ⟨h.length,0,none⟩) l c) (.slice (some ⟨i.block,i.off,none⟩) l c'):=by
  have:=VR.slice (D:=Dx D h.length h'.length) (m:=upd m h.length i) h.length 0 l c c' (.inr ⟨Nat.le_refl _,hlen⟩) hl hc (.inr (by rw [upd_same];omega))
  rw [upd_same] at this
  exact this
theorem zeroCells_len (z : Array Value) (n : Nat) : (Builtin.zeroCells z n).toList.length = n * z.size:=by simp [Builtin.zeroCells]

theorem zeroCells_vrs {D : Nat → Prop} {m : NMap} {z : Array Value} {n : Nat} (hz : z.all isClean = true) (hs : 0 < z.size) : VRs D m (Builtin.zeroCells z n).toList (Builtin.zeroCells z n).toList:=by
  refine VRs.refl_of fun v hv=>?_
  simp only [Builtin.zeroCells,Array.toList_map,List.mem_map] at hv
  obtain ⟨j,_,rfl⟩:=hv
  have hj : j % z.size < z.size:=Nat.mod_lt _ hs
  rw [getElem!_pos z _ hj]
  refine VR.of_clean depth _ ?_
  have:=Array.all_eq_true.1 hz (j % z.size) hj
  exact this
theorem appendZ_sound {P : Program} {B lo : Nat} {D : Nat → Prop} {m : NMap} {h h' : List Blk} {w : World} (hr : Rel B lo D m h w) (hlo : lo ≤ h.length) {argTypes : Array TypeId} {ty st e : TypeId} {i : TypeInfo} {s x s' x' v : Value} {wr : Option Nat}
    (h0 : argTypes[0]? = some st) (hu : P.underlying st = some (.slice e)) (hi : P.info? e = some i)
    (hs : VR D m s s') (hx : VR D m x x') (hv : appendZ P i argTypes[1]? s x h = some (v,h',wr)) : StepV P B lo D m h w (Builtin.append_ argTypes ty #[s',x']) v h':=by
  unfold appendZ at hv
  split at hv
  · cases hs
    split at hv
    · rename_i k l
      cases hx
      split at hv
      · rename_i z hz
        split at hv
        · rename_i hc
          obtain ⟨c1,c2,c3,c4,c5,c6,c7,c8⟩:=hc
          obtain ⟨rfl,rfl,rfl⟩ : _ = v ∧ _ = h' ∧ none = wr:=by simpa using hv
          have hrd:=hr.frame (w':=w.drew) ((Below.refl _ _).drew)
          obtain ⟨cap,hcap,hrun⟩:=append_zero_run (ty:=ty) (k:=k) (w:=w) h0 hu hi c1 c2 c3 c4 c5 hz c7
          have hp:=(Post.frame hr (w':=w.drew) ((Below.refl _ _).drew)).trans (hrd.pushRoom hlo i.size (zeroCells_vrs (D:=D) (m:=m) (n:=l.toNat) c8 (by omega)) (Builtin.zeroCells z.cells (cap - l.toNat)).toList e |> fun p=>by rw [Dx.refl];exact p)
          refine ⟨_,_,_,hrun,by simpa using hp,?_⟩
          have:=slice_vr (D:=D) (h:=h) (h':=h ++ [Blk.cells i.size (Builtin.zeroCells z.cells l.toNat).toList]) (m:=m) (i:=⟨w.drew.heap.size,0,(Builtin.zeroCells z.cells l.toNat).toList.length + (Builtin.zeroCells z.cells (cap - l.toNat)).toList.length,i.size⟩) (l:=l.toNat) (c:=l.toNat) (c':=cap) (by simp) (Nat.le_refl _) hcap
            (by
              rw [zeroCells_len,zeroCells_len,c6]
              show cap * i.size ≤ l.toNat * i.size + (cap - l.toNat) * i.size
              rw [← Nat.add_mul]
              exact Nat.mul_le_mul_right _ (by omega)) rfl
          simpa using this
        · cases hv
      · cases hv
    · cases hv
  · cases hv

theorem appendV_sound {P : Program} {B lo : Nat} {D : Nat → Prop} {m : NMap} {h h' : List Blk} {w : World} (hr : Rel B lo D m h w) (hlo : lo ≤ h.length) {argTypes : Array TypeId} {ty : TypeId} {s x s' x' v : Value} {wr : Option Nat}
    (hs : VR D m s s') (hx : VR D m x x') (hv : appendV P argTypes s x h = some (v,h',wr)) (hw : WrOk lo wr) : StepV P B lo D m h w (Builtin.append_ argTypes ty #[s',x']) v h':=by
  unfold appendV at hv
  split at hv
  · cases hv
  rename_i st h0
  split at hv
  · rename_i e hu
    split at hv
    · cases hv
    rename_i i hi
    split at hv
    · rename_i hn
      split at hv
      · cases hv
      rename_i n new hsrc
      obtain ⟨new',hl,hc,hnv⟩:=srcCells_sound (P:=P) hr hx hsrc
      split at hv
      · -- nil
        cases hs
        split at hv
        · rename_i hn0
          subst hn0
          split at hv
          · rename_i hemp
            have hnil : new = []:=by simpa using hemp
            subst hnil
            have hnil' : new' = []:=by have:=hnv.len;simpa using this
            subst hnil'
            obtain ⟨rfl,rfl,rfl⟩ : Value.slice none 0 0 = v ∧ h = h' ∧ none = wr:=by simpa using hv
            exact StepV.pure hr (append_in_run h0 hu hi hn hl hc (Nat.le_refl _) rfl) (.nilSlice _ _)
          · cases hv
        · rename_i hn0
          split at hv
          · rename_i hcond
            obtain ⟨c1,c2,c3,c4⟩:=hcond
            obtain ⟨rfl,rfl,rfl⟩ : _ = v ∧ _ = h' ∧ none = wr:=by simpa using hv
            obtain ⟨z,hz,hzs⟩ : ∃ z,i.zero = some z ∧ z.cells.size = i.size:=by
              cases hz : i.zero with
              | none=>rw [hz] at c3;cases c3
              | some z=>rw [hz] at c3;exact ⟨z,rfl,by simpa using c3⟩
            obtain ⟨_,hl',hc',_⟩:=srcCells_sound (P:=P) (w:=w.drew) (hr.frame ((Below.refl _ _).drew)) hx hsrc
            have hrd:=hr.frame (w':=w.drew) ((Below.refl _ _).drew)
            obtain ⟨new2,hl2,hc2,hnv2⟩:=srcCells_sound (P:=P) hrd hx hsrc
            obtain ⟨cap,hcap,hrun⟩:=append_new_run (ty:=ty) (base:=none) (len:=0) (cap:=0) h0 hu hi hn hl hc2 (by omega) (by simpa using c2) (by omega) (old:=[]) rfl hz
            have hp:=(Post.frame hr (w':=w.drew) ((Below.refl _ _).drew)).trans (hrd.pushRoom hlo i.size hnv2 (Builtin.zeroCells z.cells (cap - (0 + n))).toList e |> fun p=>by rw [Dx.refl];exact p)
            refine ⟨_,_,_,by simpa using hrun,by simpa using hp,?_⟩
            have:=slice_vr (D:=D) (h:=h) (h':=h ++ [Blk.cells i.size new]) (m:=m) (i:=⟨w.drew.heap.size,0,new.length + (Builtin.zeroCells z.cells (cap - (0 + n))).toList.length,i.size⟩) (l:=n) (c:=n) (c':=cap) (by simp) (Nat.le_refl _) (by omega)
              (by
                rw [zeroCells_len,hzs,c4]
                show cap * i.size ≤ n * i.size + (cap - (0 + n)) * i.size
                rw [← Nat.add_mul]
                exact Nat.mul_le_mul_right _ (by omega)) rfl
            simpa using this
          · cases hv
      · -- a slice
        rename_i nm o len c
        cases hs with
        | slice _ _ _ _ c' hD hlc hcc he =>
        split at hv
        · rename_i hn0
          subst hn0
          split at hv
          · rename_i hemp
            have hnil : new = []:=by simpa using hemp
            subst hnil
            have hnil' : new' = []:=by have:=hnv.len;simpa using this
            subst hnil'
            obtain ⟨rfl,rfl,rfl⟩ : _ = v ∧ h = h' ∧ none = wr:=by simpa using hv
            exact StepV.pure hr (append_in_run h0 hu hi hn hl hc (by omega) rfl) (.slice _ _ _ _ _ hD hlc hcc he)
          · cases hv
        · rename_i hn0
          split at hv
          · -- there is room
            rename_i hroom
            cases hwb : writeBlk h nm (o + len * i.size) new with
            | none=>rw [hwb] at hv;cases hv
            | some h1 =>
              rw [hwb] at hv
              obtain ⟨rfl,rfl,rfl⟩ : _ = v ∧ h1 = h' ∧ some nm = wr:=by simpa using hv
              obtain ⟨hst,hp⟩:=writeBlk_sound (P:=P) hr hD (hw nm rfl) hwb hnv
              refine ⟨_,_,m,append_in_run h0 hu hi hn hl hc (by omega) ?_,hp,?_⟩
              · simp only [addr_add]
                rw [Nat.add_assoc]
                exact hst
              · exact hp.vr (.slice _ _ _ _ _ hD hroom hcc he)
          · -- at the top
            rename_i hroom
            split at hv
            · rename_i es cs hb
              split at hv
              · rename_i hcond
                obtain ⟨rfl,htop,hnl,hone,hsm,hby,hz0⟩:=hcond
                obtain ⟨rfl,rfl,rfl⟩ : _ = v ∧ _ = h' ∧ some nm = wr:=by simpa using hv
                have hlnm : lo ≤ nm:=hw nm rfl
                obtain ⟨z,hz,hzs⟩ : ∃ z,i.zero = some z ∧ z.cells.size = i.size:=by
                  cases hz : i.zero with
                  | none=>rw [hz] at hz0;cases hz0
                  | some z=>rw [hz] at hz0;exact ⟨z,rfl,by simpa using hz0⟩
                have hes : (m nm).es = i.size:=(hr.ok nm _ hD hb).1
                have hext:=(hr.own nm _ hD hlnm hb).1
                rw [hes] at he
                by_cases hin : len + n ≤ c'
                · -- in place
                  have hfit : cs.length + new.length ≤ (m nm).ext:=by
                    rcases he with (h00|h00)|he
                    · rw [hnl,h00];simpa using hext
                    · omega
                    · rw [← htop,hnl,Nat.add_assoc,← Nat.add_mul]
                      exact Nat.le_trans (Nat.add_le_add_left (Nat.mul_le_mul_right _ hin) _) he
                  have hp1:=hr.extend hD hlnm hb hfit hnv
                  have hlt:=hr.dom nm hD
                  have hst : (storeCells ⟨(m nm).block,(m nm).off + cs.length,none⟩ new').run P w = .ok () (w.setCells (m nm).block ((m nm).off + cs.length) new'):=by
                    have hown:=hr.own nm _ hD hlnm hb
                    have hx' : ∀ j,j < new'.length → (∃ u,w.cell? ⟨(m nm).block,(m nm).off + cs.length + j,none⟩ = some u) ∧ w.frozen? ⟨(m nm).block,(m nm).off + cs.length + j,none⟩ = false:=fun j hj=>by
                      rw [hnv.len] at hj
                      rw [Nat.add_assoc]
                      exact hown.2 (cs.length + j) (by omega)
                    have:=run_storeCells_cells (P:=P) (m nm).block ((m nm).off + cs.length) new' 0 w (fun j hj=>by obtain ⟨u,hu⟩:=(hx' j hj).1;simp [hu]) (fun j hj=>by simpa using (hx' j hj).2) (fun x hx=>by
                      obtain ⟨k,hk⟩:=List.mem_iff_getElem?.1 hx
                      have hlt : k < new.length:=by have:=(List.getElem?_eq_some_iff.1 hk).1;rw [hnv.len] at this;exact this
                      exact oneCell_vr (hnv.at' k _ _ (List.getElem?_eq_getElem hlt) hk) (by simpa using (List.all_eq_true.1 hone) _ (List.getElem_mem hlt)))
                    simpa using this
                  have hrel:=hp1.rel
                  rw [show (h.set nm (.cells i.size (cs ++ new))).length = h.length by simp,Dx.refl] at hrel
                  have hp2:=hrel.move (by simpa using hlo) hD hlnm (List.getElem?_set_self hlt) o (by omega)
                  have hp:=hp1.trans (by rw [show (h.set nm (.cells i.size (cs ++ new))).length = h.length by simp,Dx.refl];exact hp2)
                  rw [show (h.set nm (.cells i.size (cs ++ new))).length = h.length by simp] at hp
                  have e1 : ((h.set nm (.cells i.size (cs ++ new))).set nm .dead ++ [Blk.cells i.size ((cs ++ new).drop o)]) = h.set nm .dead ++ [Blk.cells i.size (cs.drop o ++ new)]:=by
                    rw [List.set_set,List.drop_append_of_le_length (by omega)]
                  rw [e1] at hp
                  refine ⟨_,_,_,append_in_run h0 hu hi hn hl hc hin ?_,hp,?_⟩
                  · simp only [addr_add]
                    rw [Nat.add_assoc,htop]
                    exact hst
                  · exact slice_vr' (D := D) (h := h) (h' := h.set nm .dead ++ [Blk.cells i.size (cs.drop o ++ new)]) (m := m) (i := ⟨(m nm).block, (m nm).off + o, (m nm).ext - o, i.size⟩) (l := len + n) (c := len + n) (c' := c') (by simp) (Nat.le_refl _) hin (by
                      show c' * i.size ≤ (m nm).ext - o
                      rcases he with (h00|h00)|he
                      · rw [h00];simp
                      · omega
                      · omega)
                · -- a new array
                  have hrd:=hr.frame (w':=w.drew) ((Below.refl _ _).drew)
                  obtain ⟨new2,hl2,hc2,hnv2⟩:=srcCells_sound (P:=P) hrd hx hsrc
                  have hread : readCells h nm o (len * i.size) = some (cs.drop o):=by
                    unfold readCells
                    rw [hb]
                    simp only []
                    rw [if_pos (by omega),List.take_of_length_le (by simp;omega)]
                  obtain ⟨old',hov,hok,hoc⟩:=readCells_sound hrd hD hread
                  obtain ⟨cap,hcap,hrun⟩:=append_new_run (ty:=ty) (base:=some ⟨(m nm).block,(m nm).off + o,none⟩) (len:=len) (cap:=c') h0 hu hi hn hl hc2 hin hby hsm (old:=old') (loadCells_sound hoc _ (hov.len.trans hok)) hz
                  have hk:=Post.kill hrd nm
                  have hrk:=hrd.kill nm
                  have hp:=(Post.frame hr (w':=w.drew) ((Below.refl _ _).drew)).trans (by rw [Dx.refl];exact hk)
                  have hp:=hp.trans (by
                    rw [show (h.set nm Blk.dead).length = h.length by simp,Dx.refl]
                    exact hrk.pushRoom (by simpa using hlo) i.size (hov.append hnv2) (Builtin.zeroCells z.cells (cap - (len + n))).toList e)
                  refine ⟨_,_,_,hrun,hp,?_⟩
                  rw [show (h.set nm Blk.dead).length = h.length by simp]
                  have hd : (cs.drop o).length = len * i.size:=by simp;omega
                  exact slice_vr' (D:=D) (h:=h) (h':=h.set nm .dead ++ [Blk.cells i.size (cs.drop o ++ new)]) (m:=m) (i:=⟨w.drew.heap.size,0,(cs.drop o ++ new).length + (Builtin.zeroCells z.cells (cap - (len + n))).toList.length,i.size⟩) (l:=len + n) (c:=len + n) (c':=cap) (by simp) (Nat.le_refl _) hcap (by
                    rw [zeroCells_len,hzs,List.length_append,hd,hnl]
                    show cap * i.size ≤ len * i.size + n * i.size + (cap - (len + n)) * i.size
                    rw [← Nat.add_mul,← Nat.add_mul]
                    exact Nat.mul_le_mul_right _ (by omega))
              · cases hv
            · cases hv
      · -- a slice without room
        cases hs
        rename_i a' c'
        split at hv
        · rename_i hn0
          subst hn0
          split at hv
          · rename_i hemp
            have hnil : new = []:=by simpa using hemp
            subst hnil
            have hnil' : new' = []:=by have:=hnv.len;simpa using this
            subst hnil'
            obtain ⟨rfl,rfl,rfl⟩ : _ = v ∧ h = h' ∧ none = wr:=by simpa using hv
            exact StepV.pure hr (append_in_run h0 hu hi hn hl hc (by omega) rfl) (.vague _ _)
          · cases hv
        · cases hv
      · cases hv
    · exact appendZ_sound hr hlo h0 hu hi hs hx hv
  · cases hv
section
open Go.Lib
/-! ### a text's bytes -/
def strBytesV (P : Program) (src dst : TypeId) (x : Value) (h : List Blk) : Option (Value × List Blk) :=
  match x with
  | .string s=>match P.underlying src with
    | none=>none
    | some _=>match P.underlying dst with
      | some (.slice e)=>match P.underlying e with
        | some (.int .u8)=>some (.slice (some ⟨h.length,0,none⟩) s.size s.size,h ++ [.cells 1 (s.data.toList.map fun b=>.int .u8 b.toNat)])
        | _=>none
      | _=>none
  | _=>none
theorem grown_le (w : World) (n : Nat) (e : TypeId) : n ≤ grownCap w n 0 e:=by
  unfold grownCap
  simp [Question.cut]
theorem strBytesV_sound {P : Program} {B lo : Nat} {D : Nat → Prop} {m : NMap} {h h' : List Blk} {w : World} (hr : Rel B lo D m h w) (hlo : lo ≤ h.length) {src dst : TypeId} {x x' v : Value} (hx : VR D m x x') (hv : strBytesV P src dst x h = some (v,h')) : StepV P B lo D m h w (convert src dst x') v h':=by
  unfold strBytesV at hv
  split at hv
  · rename_i s
    cases hx
    split at hv
    · cases hv
    rename_i u hs
    split at hv
    · rename_i e hd
      split at hv
      · rename_i he
        obtain ⟨rfl,rfl⟩ : _ = v ∧ _ = h':=by simpa using hv
        have hrun:=Go.Lib.run_convert_string_bytes (P:=P) w src dst e s hs hd he
        have hg:=grown_le w s.size e
        have hsz : (bytesCells w e s).size = grownCap w s.size 0 e:=by simp [bytesCells];omega
        have hrd:=hr.frame (w':=w.drew) ((Below.refl _ _).drew)
        have hvr : VRs D m (s.data.toList.map fun b=>Value.int .u8 b.toNat) (s.data.toList.map fun b=>Value.int .u8 b.toNat):=VRs.refl_of fun v hv=>by
          simp only [List.mem_map] at hv
          obtain ⟨b,_,rfl⟩:=hv
          exact .int _ _
        have hlen : (s.data.toList.map fun b=>Value.int .u8 b.toNat).length = s.size:=by simp
        have hp0:=(Post.frame hr (w':=w.drew) ((Below.refl _ _).drew)).trans (hrd.pushRoom hlo 1 hvr (List.replicate (grownCap w s.size 0 e - s.size) (.int .u8 0)) e |> fun p=>by rw [Dx.refl];exact p)
        have hm : upd m h.length ⟨w.drew.heap.size,0,(s.data.toList.map fun b=>Value.int .u8 b.toNat).length + (List.replicate (grownCap w s.size 0 e - s.size) (Value.int .u8 0)).length,1⟩ h.length = ⟨w.heap.size,0,grownCap w s.size 0 e,1⟩:=by
          rw [upd_same,hlen,List.length_replicate,show s.size + (grownCap w s.size 0 e - s.size) = grownCap w s.size 0 e by omega]
          rfl
        generalize hmm : upd m h.length ⟨w.drew.heap.size,0,(s.data.toList.map fun b=>Value.int .u8 b.toNat).length + (List.replicate (grownCap w s.size 0 e - s.size) (Value.int .u8 0)).length,1⟩ = m' at hp0 hm
        generalize hcl : (s.data.toList.map fun b=>Value.int .u8 b.toNat) = cl at hp0 hlen hvr hmm
        have hD : Dx D h.length (h ++ [Blk.cells 1 cl]).length h.length:=.inr ⟨Nat.le_refl _,by simp⟩
        have hb : (h ++ [Blk.cells 1 cl])[h.length]? = some (.cells 1 cl):=by simp
        have hsize : (bytesWorld w e s).heap.size = w.heap.size + 1:=bytesWorld_size w e s
        have hcell : ∀ (k : Nat) v,cl[k]? = some v → (bytesWorld w e s).cell? ⟨w.heap.size,k,none⟩ = some v:=by
          intro k v hk
          have hk' : k < s.size:=by rw [← hlen];exact (List.getElem?_eq_some_iff.1 hk).1
          rw [bytesWorld_cell w e s k hk',← hcl] at *
          rw [← hcl] at hk
          simp only [List.getElem?_map] at hk
          cases hz : s.data.toList[k]? with
          | none=>rw [hz] at hk;cases hk
          | some b=>rw [hz] at hk;simp only [Option.map_some,Option.some.injEq] at hk;rw [← hk];simp [List.getD,hz]
        have hex : ∀ k,k < grownCap w s.size 0 e → (∃ u,(bytesWorld w e s).cell? ⟨w.heap.size,k,none⟩ = some u) ∧ (bytesWorld w e s).frozen? ⟨w.heap.size,k,none⟩ = false:=by
          intro k hk
          have h1:=bytesWorld_at_new w e s
          refine ⟨⟨(bytesCells w e s)[k]'(by omega),?_⟩,?_⟩
          · simp only [World.cell?,h1]
            simp [Array.getElem?_eq_getElem (show k < (bytesCells w e s).size by omega)]
          · simp only [World.frozen?,h1]
            simp
            omega
        have hp1:=hp0.rel.modify (w':=bytesWorld w e s) hD hlo hb (by simp) rfl rfl rfl (by rw [hsize];simp) (fun k hk=>by
          rw [hm] at hk
          by_cases hlt : k < w.heap.size
          · rw [bytesWorld_at_old w e s k hlt]
            exact ((((Below.refl w.heap.size w).drew).alloc (Nat.le_refl _) _).block k hlt).symm
          · have hk' : k ≠ w.heap.size:=hk
            rw [Array.getElem?_eq_none (by rw [hsize];omega),Array.getElem?_eq_none (by show (w.drew.alloc _).heap.size ≤ k;simp;show w.heap.size + 1 ≤ k;omega)]) (.cells 1 cl) ⟨by rw [hm],fun i v hv=>⟨v,by rw [hm];simpa using hcell i v hv,(hvr.at' i v v hv hv).mono (fun _=>.inl) hp0.agree⟩⟩ ⟨by rw [hm,hlen];exact hg,fun k hk=>by rw [hm] at hk ⊢;simpa using hex k hk⟩
        have hset : (h ++ [Blk.cells 1 cl]).set h.length (Blk.cells 1 cl) = h ++ [Blk.cells 1 cl]:=by
          apply List.ext_getElem?
          intro j
          rw [List.getElem?_set]
          split
          · rename_i e;subst e;simp
          · rfl
        rw [hset] at hp1
        have hp:=hp0.trans hp1
        refine ⟨_,_,_,hrun,hp,?_⟩
        have:=VR.slice (D:=Dx D h.length (h ++ [Blk.cells 1 cl]).length) (m:=m') h.length 0 s.size s.size (grownCap w s.size 0 e) hD (Nat.le_refl _) hg (.inr (by rw [hm];simp))
        rw [hm] at this
        simpa using this
      · cases hv
    · cases hv
  · cases hv
/-! ### a text of bytes -/
def byteOf : Value → Option UInt8
  | .int .u8 n=>if 0 ≤ n ∧ n < 256 then some (UInt8.ofNat n.toNat) else none
  | _=>none
def allBytes : List Value → Option (List UInt8)
  | []=>some []
  | c :: t=>match byteOf c with
    | some b=>(allBytes t).map fun l=>b :: l
    | none=>none
theorem allBytes_at : ∀ {cs : List Value} {bs : List UInt8},allBytes cs = some bs → bs.length = cs.length ∧ ∀ j (hj : j < bs.length),cs[j]? = some (.int .u8 (bs[j].toNat : Int))
  | [],bs,h=>by
    obtain rfl : [] = bs:=by simpa [allBytes] using h
    exact ⟨rfl,fun j hj=>by simp at hj⟩
  | c :: t,bs,h=>by
    simp only [allBytes] at h
    split at h
    · rename_i b hb
      cases ht : allBytes t with
      | none=>rw [ht] at h;cases h
      | some l =>
        rw [ht] at h
        obtain rfl : b :: l = bs:=by simpa using h
        obtain ⟨h1,h2⟩:=allBytes_at ht
        refine ⟨by simp [h1],fun j hj=>?_⟩
        cases j with
        | zero =>
          unfold byteOf at hb
          split at hb
          · rename_i n
            split at hb
            · rename_i hn
              obtain rfl:=Option.some.inj hb
              simp only [List.getElem?_cons_zero,List.getElem_cons_zero]
              congr 2
              have : (UInt8.ofNat n.toNat).toNat = n.toNat:=by
                simp only [UInt8.toNat_ofNat']
                omega
              omega
            · cases hb
          · cases hb
        | succ j=>simpa using h2 j (by simpa using hj)
    · cases h
def bytesStrV (P : Program) (src dst : TypeId) (x : Value) (h : List Blk) : Option Value :=
  match x with
  | .slice (some ⟨n,o,none⟩) l _=>match P.underlying dst with
    | some .string=>match P.underlying src with
      | some (.slice e)=>match P.underlying e with
        | some (.int .u8)=>match readCells h n o l with
          | some cs=>(allBytes cs).map fun bs=>.string ⟨bs.toArray⟩
          | none=>none
        | _=>none
      | _=>none
    | _=>none
  | _=>none
theorem bytesStrV_sound {P : Program} {B lo : Nat} {D : Nat → Prop} {m : NMap} {h : List Blk} {w : World} (hr : Rel B lo D m h w) {src dst : TypeId} {x x' v : Value} (hx : VR D m x x') (hv : bytesStrV P src dst x h = some v) : StepV P B lo D m h w (convert src dst x') v h:=by
  unfold bytesStrV at hv
  split at hv
  · rename_i n o l c
    cases hx with
    | slice _ _ _ _ c' hD hlc hcc he =>
      split at hv
      · rename_i hd
        split at hv
        · rename_i e hs
          split at hv
          · rename_i he
            split at hv
            · rename_i cs hcs
              cases hb : allBytes cs with
              | none=>rw [hb] at hv;cases hv
              | some bs =>
                rw [hb] at hv
                obtain rfl : Value.string ⟨bs.toArray⟩ = v:=by simpa using hv
                obtain ⟨h1,h2⟩:=allBytes_at hb
                obtain ⟨l',hvr,hk,hcl⟩:=readCells_sound hr hD hcs
                have hlen : bs.length = l:=by omega
                subst hlen
                refine StepV.pure hr (run_convert_bytes_back (P:=P) w src dst e _ c' bs hs he hd fun j hj=>?_) (.string _)
                have h3:=h2 j hj
                obtain ⟨v',h4,h5⟩:=hvr.at h3
                cases h5
                have:=hcl j _ h4
                rw [addr_add]
                exact this
            · cases hv
          · cases hv
        · cases hv
      · cases hv
  · cases hv
def convV (P : Program) (src dst : TypeId) (x : Value) (h : List Blk) : Option (Value × List Blk) :=
  match strBytesV P src dst x h with
  | some r=>some r
  | none=>(bytesStrV P src dst x h).map fun v=>(v,h)
theorem convV_sound {P : Program} {B lo : Nat} {D : Nat → Prop} {m : NMap} {h h' : List Blk} {w : World} (hr : Rel B lo D m h w) (hlo : lo ≤ h.length) {src dst : TypeId} {x x' v : Value} (hx : VR D m x x') (hv : convV P src dst x h = some (v,h')) : StepV P B lo D m h w (convert src dst x') v h':=by
  unfold convV at hv
  split at hv
  · rename_i r h1
    obtain rfl:=Option.some.inj hv
    exact strBytesV_sound hr hlo hx h1
  · cases hb : bytesStrV P src dst x h with
    | none=>rw [hb] at hv;cases hv
    | some u =>
      rw [hb] at hv
      obtain ⟨rfl,rfl⟩ : u = v ∧ h = h':=by simpa using hv
      exact bytesStrV_sound hr hx hb
end
end Go.Rex

namespace Go.Rex
open Go.RowKit
theorem putObj_below (w : World) (l : Nat) (o : Obj) : (w.putObj l o).os = w.os ∧ (w.putObj l o).tape = w.tape ∧ (w.putObj l o).output = w.output ∧ (w.putObj l o).heap.size = w.heap.size ∧ ∀ k,k ≠ l → (w.putObj l o).heap[k]? = w.heap[k]? :=
  ⟨rfl,rfl,rfl,by simp [World.putObj],fun k hk=>World.putObj_heap_other hk⟩

theorem Rel.put {B lo : Nat} {D : Nat → Prop} {m : NMap} {h : List Blk} {w : World} (hr : Rel B lo D m h w) {n : Nat} {b : Blk} (hD : D n) (hl : lo ≤ n) (hn : h[n]? = some b) (hb : b ≠ .dead) (o : Obj) (b' : Blk)
    (hok : BlkOk D m (w.putObj (m n).block o) n b') (hown : Owns m (w.putObj (m n).block o) n b') : Post B lo D m h w m (h.set n b') (w.putObj (m n).block o):=by
  obtain ⟨s1,s2,s3,s4,s5⟩:=putObj_below w (m n).block o
  exact hr.modify hD hl hn hb s1 s2 s3 s4 s5 b' hok hown


/-! ### maps with keys without names -/
def keepClean (r : Value) : Option Value:=if isClean r = true then some r else none
theorem keepClean_some {r v : Value} (h : keepClean r = some v) : r = v ∧ isClean v = true:=by
  unfold keepClean at h
  split at h
  · rename_i hc;obtain rfl:=Option.some.inj h;exact ⟨rfl,hc⟩
  · cases h
def entriesOf (h : List Blk) (x : Value) : Option (Array MapEntry) :=
  match x with
  | .map none=>some #[]
  | .map (some n)=>match h[n]? with
    | some (.map es _)=>some es
    | _=>none
  | _=>none
def lookupV (P : Program) (t : TypeId) (x k : Value) (ok : Bool) (h : List Blk) : Option Value :=
  match P.underlying t with
  | some (.map kt et) =>
    if isClean k = true then
      match entriesOf h x with
      | some es=>match prun P (Instr.checkKey es.isEmpty 10000 kt k) with
        | some _=>match prun P (Instr.findKey kt k es.toList) with
          | some (some (_,v))=>keepClean (if ok then .tuple #[v,.bool true] else v)
          | some none=>match P.info? et with
            | some i=>match i.zero with
              | some z=>keepClean (if ok then .tuple #[z,.bool false] else z)
              | none=>none
            | none=>none
          | none=>none
        | none=>none
      | none=>none
    else none
  | _=>none
theorem entriesOf_sound {B lo : Nat} {D : Nat → Prop} {m : NMap} {h : List Blk} {w : World} (hr : Rel B lo D m h w) {x x' : Value} {es : Array MapEntry} (hx : VR D m x x') (he : entriesOf h x = some es) : (x' = .map none ∧ es = #[]) ∨ ∃ r c,x' = .map (some r) ∧ w.heap[r]? = some (.map es c):=by
  unfold entriesOf at he
  split at he
  · obtain rfl:=Option.some.inj he
    cases hx
    exact .inl ⟨rfl,rfl⟩
  · rename_i n
    split at he
    · rename_i es' c hn
      obtain rfl:=Option.some.inj he
      cases hx
      rename_i hD
      exact .inr ⟨_,c,rfl,hr.ok n _ hD hn⟩
    · cases he
  · cases he
theorem lookupV_sound {P : Program} {B lo : Nat} {D : Nat → Prop} {m : NMap} {h : List Blk} {w : World} (hr : Rel B lo D m h w) {t : TypeId} {x x' k k' : Value} {ok : Bool} {v : Value} (hx : VR D m x x') (hk : VR D m k k') (hv : lookupV P t x k ok h = some v) :
    (Instr.lookup t x' k' ok).run P w = .ok v w ∧ isClean v = true:=by
  unfold lookupV at hv
  split at hv
  · rename_i kt et hm
    split at hv
    · rename_i hck
      obtain rfl:=hk.eq_of_clean depth _ _ hck
      split at hv
      · rename_i es hes
        have hform:=entriesOf_sound hr hx hes
        split at hv
        · rename_i hchk
          have hchk:=prun_run hchk w
          split at hv
          · rename_i i v0 hf
            have hf:=prun_run hf w
            obtain ⟨rfl,hc⟩:=keepClean_some hv
            refine ⟨?_,hc⟩
            rcases hform with ⟨rfl,rfl⟩|⟨r,c,rfl,hb⟩
            · simp [Instr.lookup,run_underlying hm] at hchk hf ⊢
              simp [hchk,hf,Result.andThen]
            · simp [Instr.lookup,run_underlying hm,MapKept.run_getObj_map hb] at hchk hf ⊢
              simp [hchk,hf,Result.andThen]
          · rename_i hf
            have hf:=prun_run hf w
            split at hv
            · rename_i i hi
              split at hv
              · rename_i z hz
                obtain ⟨rfl,hc⟩:=keepClean_some hv
                refine ⟨?_,hc⟩
                have hzr : (zeroValue et).run P w = .ok z w:=by simp [zeroValue,typeInfo,hi,hz]
                rcases hform with ⟨rfl,rfl⟩|⟨r,c,rfl,hb⟩
                · simp [Instr.lookup,run_underlying hm] at hchk hf ⊢
                  simp [hchk,hf,hzr,Result.andThen]
                · simp [Instr.lookup,run_underlying hm,MapKept.run_getObj_map hb] at hchk hf ⊢
                  simp [hchk,hf,hzr,Result.andThen]
              · cases hv
            · cases hv
          · cases hv
        · cases hv
      · cases hv
    · cases hv
  · cases hv
def mapSetV (P : Program) (t : TypeId) (x k v : Value) (h : List Blk) : Option (List Blk × Nat) :=
  match P.underlying t with
  | some (.map kt _) =>
    if isClean k = true ∧ isClean v = true then
      match x with
      | .map (some n)=>match h[n]? with
        | some (.map es clock)=>match prun P (Instr.checkKey false 10000 kt k) with
          | some _=>match prun P (Instr.findKey kt k es.toList) with
            | some (some (i,_))=>match prun P (Instr.keyThatStays (((es[i]?).map (·.key)).getD k) k) with
              | some k2=>some (h.set n (.map (es.modify i fun e=>{ e with key:=k2,val:=v }) clock),n)
              | none=>none
            | some none=>some (h.set n (.map (es.push { key:=k,val:=v,born:=clock }) (clock + 1)),n)
            | none=>none
          | none=>none
        | _=>none
      | _=>none
    else none
  | _=>none
theorem mapSetV_sound {P : Program} {B lo : Nat} {D : Nat → Prop} {m : NMap} {h h' : List Blk} {w : World} (hr : Rel B lo D m h w) {t : TypeId} {x x' k k' v v' : Value} {n : Nat} (hx : VR D m x x') (hk : VR D m k k') (hvv : VR D m v v') (hv : mapSetV P t x k v h = some (h', n)) (hl : lo ≤ n) :
    ∃ w',(Instr.mapUpdate t x' k' v').run P w = .ok () w' ∧ Post B lo D m h w m h' w':=by
  unfold mapSetV at hv
  split at hv
  · rename_i kt et hm
    split at hv
    · rename_i hc
      obtain ⟨hck,hcl⟩:=hc
      obtain rfl:=hk.eq_of_clean depth _ _ hck
      obtain rfl:=hvv.eq_of_clean depth _ _ hcl
      split at hv
      · rename_i n0
        split at hv
        · rename_i es clock hn
          cases hx
          rename_i hD
          have hb : w.heap[(m n0).block]? = some (.map es clock):=hr.ok n0 _ hD hn
          have hlt : (m n0).block < w.heap.size:=(Array.getElem?_eq_some_iff.1 hb).1
          have hnew : ∀ o : Obj,(w.putObj (m n0).block o).heap[(m n0).block]? = some o:=fun o=>by simp [World.putObj,hlt]
          split at hv
          · rename_i hchk
            have hchk:=prun_run hchk w
            split at hv
            · rename_i i v0 hf
              have hf:=prun_run hf w
              split at hv
              · rename_i k2 hst
                have hst:=prun_run hst w
                obtain ⟨rfl,rfl⟩ : _ = h' ∧ n0 = n:=by simpa using hv
                refine ⟨_,?_,hr.put hD hl hn (by simp) (.map (es.modify i fun e=>{ e with key:=k2,val:=v' }) clock) _ (hnew _) trivial⟩
                simp [Instr.mapUpdate,run_underlying hm,MapKept.run_getObj_map hb,hchk,hf,hst,MapKept.run_setObj_map _ hb,Result.andThen,World.putObj]
              · cases hv
            · rename_i hf
              have hf:=prun_run hf w
              obtain ⟨rfl,rfl⟩ : _ = h' ∧ n0 = n:=by simpa using hv
              refine ⟨_,?_,hr.put hD hl hn (by simp) (.map (es.push { key:=k',val:=v',born:=clock }) (clock + 1)) _ (hnew _) trivial⟩
              simp [Instr.mapUpdate,run_underlying hm,MapKept.run_getObj_map hb,hchk,hf,MapKept.run_setObj_map _ hb,Result.andThen,World.putObj]
            · cases hv
          · cases hv
        · cases hv
      · cases hv
    · cases hv
  · cases hv
theorem newMap_sound {P : Program} {B lo : Nat} {D : Nat → Prop} {m : NMap} {h : List Blk} {w : World} (hr : Rel B lo D m h w) (hlo : lo ≤ h.length) (t : TypeId) :
    StepV P B lo D m h w (Instr.makeMap t none) (.map (some h.length)) (h ++ [.map #[] 0]):=by
  have hp : Post B lo D m h w (upd m h.length ⟨w.heap.size,0,0,0⟩) (h ++ [.map #[] 0]) (w.alloc (.map #[] 0)) :=
    hr.push _ _ _ rfl hlo (by show (w.alloc _).heap[_]? = _;rw [upd_same];exact World.alloc_heap_new w _) trivial
  refine ⟨.map (some w.heap.size),w.alloc (.map #[] 0),_,by simp [Instr.makeMap,run_newObj_alloc],hp,?_⟩
  have:=VR.map (D:=Dx D h.length (h ++ [Blk.map #[] 0]).length) (m:=upd m h.length ⟨w.heap.size,0,0,0⟩) h.length (.inr (by simp))
  rwa [upd_same] at this
end Go.Rex

namespace Go.Rex
open Go.RowKit

def mapParts (ρ : Operand → Value) (ps : Array (Nat × Operand)) : Array (Nat × Value):=ps.map fun (i,x)=>(i,ρ x)

/-- operations on values without names: as the model has them -/
def genP (P : Program) (ρ : Operand → Value) (o : Oper) : Option Value :=
  match o.op with
  | .select _ _=>none
  | _ => if o.op.operands.toList.all (fun x => isClean (ρ x)) = true then
      match prun P (execOp ρ o) with
      | some (.value v)=>if isClean v = true then some v else none
      | _=>none
    else none

def isSome1 : Value → Bool
  | .pointer (some _)=>true
  | .func (.func _) _ _=>true
  | .func (.yield _) _ _=>true
  | _=>false

def lenV (P : Program) (t : Option TypeId) (x : Value) : Option Value :=
  match t with
  | none=>none
  | some t=>match P.underlying t,x with
    | some (.slice _),.slice _ n _=>some (.int .i64 n)
    | _,_=>none

def orGen (P : Program) (ρ : Operand → Value) (o : Oper) (r : Option Value) : Option Value :=
  match r with
  | some x=>some x
  | none=>genP P ρ o

def bpop (P : Program) (ρ : Operand → Value) (o : Oper) (c : Call) : Option Value :=
  match c.callee with
  | .builtin b =>
    if b = .len then
      match c.args.toList with
      | [x]=>orGen P ρ o (lenV P c.argTypes[0]? (ρ x))
      | _=>none
    else genP P ρ o
  | _=>none

/-- operators on integers -/
def fastBin (op : BinOp) (x y : Value) : Option Value :=
  match x,y with
  | .int k a,.int k' b =>
    if k = k' then
      match op with
      | .add=>some (.int k (k.wrap (a + b)))
      | .sub=>some (.int k (k.wrap (a - b)))
      | .mul=>some (.int k (k.wrap (a * b)))
      | .lss=>some (.bool (decide (a < b)))
      | .leq=>some (.bool (decide (a ≤ b)))
      | .gtr=>some (.bool (decide (a > b)))
      | .geq=>some (.bool (decide (a ≥ b)))
      | .eql=>some (.bool (decide (a = b)))
      | .neq=>some (.bool (decide (a ≠ b)))
      | .quo=>if b = 0 then none else some (.int k (k.wrap (a.tdiv b)))
      | .rem=>if b = 0 then none else some (.int k (a.tmod b))
      | _=>none
    else none
  | _,_=>none

/-- a slice as a pointer to an array -/
def arrPtr (P : Program) (arr : TypeId) (x : Value) : Option Value :=
  match P.underlying arr,x with
  | some (.array k _),.slice (some ⟨n,o,none⟩) len _=>if k ≤ len then some (.pointer (some ⟨n,o,none⟩)) else none
  | _,_=>none
theorem arrPtr_sound {P : Program} {D : Nat → Prop} {m : NMap} {arr : TypeId} {x x' v : Value} (hx : VR D m x x') (hv : arrPtr P arr x = some v) :
    ∃ v',(∀ w,(Instr.arrayAt arr x').run P w = .ok v' w) ∧ VR D m v v':=by
  unfold arrPtr at hv
  split at hv
  · rename_i k e n o len c hu
    split at hv
    · rename_i hk
      obtain rfl:=Option.some.inj hv
      cases hx with
      | slice _ _ _ _ c' hD hl hcc he =>
        refine ⟨_,fun w=>?_,.ptr n o hD⟩
        simp only [Instr.arrayAt,Sem.run_bind,run_underlying hu,Result.andThen_ok]
        rw [if_neg (by omega)]
        rfl
    · cases hv
  · cases hv

/-- what does not look at memory -/
def pop (P : Program) (ρ : Operand → Value) (o : Oper) : Option Value :=
  match o.op with
  | .move x=>some (ρ x)
  | .assign x=>some (ρ x)
  | .pick c a b=>match ρ c with
    | .bool t=>some (if t then ρ a else ρ b)
    | _=>none
  | .nilCheck x=>if isSome1 (ρ x) = true then some (ρ x) else none
  | .build t ps=>buildV P t (mapParts ρ ps)
  | .makeFunc fn first captured=>match fn with
    | .func f=>some (.func (.func f) (first.map ρ) (captured.map ρ))
    | _=>none
  | .extract t i=>match ρ t with
    | .tuple ⟨l⟩=>l[i]?
    | _=>none
  | .fieldAddr t x f=>fieldAddrV P t (ρ x) f
  | .indexAddr t x ix=>indexAddrV P t (ρ x) (ρ ix)
  | .field t x f=>fieldV P t (ρ x) f
  | .index t x ix=>orGen P ρ o (indexV P t (ρ x) (ρ ix))
  | .sliceToArrayPointer arr x=>arrPtr P arr (ρ x)
  | .call c=>bpop P ρ o c
  | .binOp op _ x y _=>orGen P ρ o (fastBin op (ρ x) (ρ y))
  | .alloc _=>none
  | .box _ _=>none
  | .buildSlice _ _ _=>none
  | .makeSlice _ _ _=>none
  | .load _ _=>none
  | .store _ _ _=>none
  | .makeMap _ _=>none
  | .lookup _ _ _ _=>none
  | .mapUpdate _ _ _ _=>none
  | .insert _ _ _ _=>none
  | _=>genP P ρ o

def newH (r : Option (Value × List Blk)) : AOut:=r.map fun (v,h)=>(v,h,none)

def bhop (P : Program) (ρ : Operand → Value) (c : Call) (h : List Blk) : AOut :=
  match c.callee with
  | .builtin b =>
    if b = .append then
      match c.args.toList with
      | [x,y]=>appendV P c.argTypes (ρ x) (ρ y) h
      | _=>none
    else if b = .copy then
      match c.args.toList with
      | [x,y]=>copyV P c.argTypes (ρ x) (ρ y) h
      | _=>none
    else none
  | _=>none

/-- a bound of a slice expression -/
def bnd (x : Option Value) (d : Nat) : Option Nat :=
  match x with
  | none=>some d
  | some (.int _ i)=>if 0 ≤ i then some i.toNat else none
  | some _=>none
def sliceV (P : Program) (t : TypeId) (x : Value) (lo hi : Option Value) (h : List Blk) : Option Value :=
  match P.underlying t,x with
  | some (.slice e),.slice (some ⟨_,_,some _⟩) 0 0 =>
    match bnd lo 0,bnd hi 0 with
    | some 0,some 0=>if (P.info? e).isSome = true then some vag else none
    | _,_=>none
  | some (.slice e),.slice (some ⟨n,o,none⟩) len c =>
    match h[n]? with
    | some (.cells es _) =>
      match bnd lo 0,bnd hi len with
      | some l,some k=>if (es = P.cellsOf e ∨ es = 0) ∧ (P.info? e).isSome = true ∧ l ≤ k ∧ k ≤ c ∧ (l = 0 ∨ l < c) then some (.slice (some ⟨n,o + l * P.cellsOf e,none⟩) (k - l) (c - l))
        else if (es = P.cellsOf e ∨ es = 0) ∧ (P.info? e).isSome = true ∧ l ≤ k ∧ k ≤ c ∧ l = c then some vag else none
      | _,_=>none
    | _=>none
  | some (.array len e),.pointer (some ⟨n,o,none⟩) =>
    match h[n]? with
    | some (.cells es _) =>
      match bnd lo 0,bnd hi len with
      | some l,some k=>if (P.info? e).isSome = true ∧ l ≤ k ∧ k ≤ len ∧ (l = 0 ∨ l < len) then some (.slice (some ⟨n,o + l * P.cellsOf e,none⟩) (k - l) (len - l)) else none
      | _,_=>none
    | _=>none
  | _,_=>none
/-- a bound is an int in both, or absent -/
def OptR (D : Nat → Prop) (m : NMap) (x x' : Option Value) : Prop:=match x,x' with
  | none,none=>True
  | some v,some v'=>VR D m v v'
  | _,_=>False
theorem bnd_run {P : Program} {D : Nat → Prop} {m : NMap} {x x' : Option Value} {d k cap : Nat} {code : BoundsCode} (hx : OptR D m x x') (hk : bnd x d = some k) (hc : k ≤ cap) (w : World) :
    (match x' with|some v=>Instr.sliceBound v cap code|none=>pure d : Sem Nat).run P w = .ok k w:=by
  cases x with
  | none =>
    cases x' with
    | none=>obtain rfl:=Option.some.inj hk;rfl
    | some v'=>exact hx.elim
  | some v =>
    cases x' with
    | none=>exact hx.elim
    | some v' =>
      have hx' : VR D m v v':=hx
      cases v with
      | int ki i =>
        cases hx'
        simp only [bnd] at hk
        split at hk
        · rename_i h0
          obtain rfl:=Option.some.inj hk
          simp only [Instr.sliceBound,asIntOf,Sem.run_bind,Sem.run_pure,Result.andThen_ok]
          rw [if_pos ⟨h0,by omega⟩]
          rfl
        · cases hk
      | _=>simp [bnd] at hk
theorem sliceV_sound {P : Program} {B lo0 : Nat} {D : Nat → Prop} {m : NMap} {h : List Blk} {w : World} (hr : Rel B lo0 D m h w) {t : TypeId} {x x' v : Value} {lo lo' hi hi' : Option Value} (hx : VR D m x x') (hl : OptR D m lo lo') (hh : OptR D m hi hi')
    (hv : sliceV P t x lo hi h = some v) : ∃ v',(∀ w,(Instr.sliceAt t x' lo' hi' none).run P w = .ok v' w) ∧ VR D m v v':=by
  unfold sliceV at hv
  split at hv
  · rename_i e _ _ _ hu
    cases hx
    rename_i a' c'
    split at hv
    · rename_i h1 h2
      split at hv
      · rename_i hi
        obtain rfl:=Option.some.inj hv
        refine ⟨.slice (some a') 0 c',fun w=>?_,.vague _ _⟩
        have r1:=fun code=>bnd_run (P:=P) (cap:=c') (code:=code) hh h2 (by omega) w
        have r2:=fun code=>bnd_run (P:=P) (cap:=0) (code:=code) hl h1 (Nat.le_refl _) w
        have hsb : (Instr.sliceBounds true 0 c' lo' hi' none).run P w = .ok (0,0,c') w:=by
          unfold Instr.sliceBounds
          cases hi'<;>cases lo'<;>simp_all [Sem.run_bind,Sem.run_pure,Result.andThen_ok]
        have hadd : (if c' = 0 then some a' else some (a'.add (0 * P.cellsOf e))) = some a':=by
          simp [Addr.add]
        simp only [Instr.sliceAt,Instr.slice,Sem.run_bind,run_underlying hu,Result.andThen_ok,hsb,sizeOf_cellsOf hi,Sem.run_pure,Option.map_some]
        rw [hadd]
        rfl
      · cases hv
    · cases hv
  · rename_i e n o len c hu
    obtain ⟨hD,c',hlc,hcc,he,rfl⟩ : D n ∧ ∃ c',len ≤ c ∧ c ≤ c' ∧ (((m n).es = 0 ∨ c' = c) ∨ o + c' * (m n).es ≤ (m n).ext) ∧ x' = .slice (some ⟨(m n).block,(m n).off + o,none⟩) len c':=by
      cases hx
      exact ⟨by assumption,_,by assumption,by assumption,by assumption,rfl⟩
    split at hv
    · rename_i es cs hb
      have hes : (m n).es = es:=(hr.ok n _ hD hb).1
      split at hv
      · rename_i l k h1 h2
        split at hv
        · rename_i hc
          obtain ⟨c1,c2,c3,c4,c5⟩:=hc
          obtain rfl:=Option.some.inj hv
          refine ⟨.slice (some ⟨(m n).block,(m n).off + o + l * P.cellsOf e,none⟩) (k - l) (c' - l),fun w=>?_,?_⟩
          · have r1:=fun code=>bnd_run (P:=P) (cap:=c') (code:=code) hh h2 (by omega) w
            have r2:=fun code=>bnd_run (P:=P) (cap:=k) (code:=code) hl h1 c3 w
            have hadd : (if c' = l then some (⟨(m n).block,(m n).off + o,none⟩ : Addr) else some ((⟨(m n).block,(m n).off + o,none⟩ : Addr).add (l * P.cellsOf e))) = some ⟨(m n).block,(m n).off + o + l * P.cellsOf e,none⟩:=by
              rw [addr_add]
              rcases c5 with rfl|c5
              · simp
              · rw [if_neg (by omega)]
            have hsb : (Instr.sliceBounds true len c' lo' hi' none).run P w = .ok (l,k,c') w:=by
              unfold Instr.sliceBounds
              cases hi'<;>cases lo'<;>simp_all [Sem.run_bind,Sem.run_pure,Result.andThen_ok]
            simp only [Instr.sliceAt,Instr.slice,Sem.run_bind,run_underlying hu,Result.andThen_ok,hsb,sizeOf_cellsOf c2,Sem.run_pure,Option.map_some]
            rw [hadd]
          · have := VR.slice (D := D) (m := m) n (o + l * P.cellsOf e) (k - l) (c - l) (c' - l) hD (by omega) (by omega) (by
              rw [hes] at he ⊢
              rcases he with (he|he)|he
              · exact .inl (.inl he)
              · exact .inl (.inr (by omega))
              rcases c1 with rfl|c1
              · have : l * P.cellsOf e + (c' - l) * P.cellsOf e = c' * P.cellsOf e:=by rw [← Nat.add_mul];congr 1;omega
                exact .inr (by omega)
              · exact .inl (.inl c1))
            rwa [← Nat.add_assoc] at this
        · split at hv
          · rename_i hc
            obtain ⟨c1,c2,c3,c4,c5⟩:=hc
            obtain rfl:=Option.some.inj hv
            subst c5
            obtain rfl : k = l:=by omega
            have r1:=fun code=>bnd_run (P:=P) (cap:=c') (code:=code) hh h2 (by omega) w
            have r2:=fun code=>bnd_run (P:=P) (cap:=k) (code:=code) hl h1 c3 w
            have hrun : ∀ w,(Instr.sliceAt t (.slice (some ⟨(m n).block,(m n).off + o,none⟩) len c') lo' hi' none).run P w = .ok (.slice (if c' = k then some ⟨(m n).block,(m n).off + o,none⟩ else some ((⟨(m n).block,(m n).off + o,none⟩ : Addr).add (k * P.cellsOf e))) 0 (c' - k)) w:=by
              intro w
              have r1:=fun code=>bnd_run (P:=P) (cap:=c') (code:=code) hh h2 (by omega) w
              have r2:=fun code=>bnd_run (P:=P) (cap:=k) (code:=code) hl h1 c3 w
              have hsb : (Instr.sliceBounds true len c' lo' hi' none).run P w = .ok (k,k,c') w:=by
                unfold Instr.sliceBounds
                cases hi'<;>cases lo'<;>simp_all [Sem.run_bind,Sem.run_pure,Result.andThen_ok]
              simp only [Instr.sliceAt,Instr.slice,Sem.run_bind,run_underlying hu,Result.andThen_ok,hsb,sizeOf_cellsOf c2,Sem.run_pure,Option.map_some,Nat.sub_self]
            refine ⟨_,hrun,?_⟩
            rw [addr_add]
            split
            · exact .vague _ _
            · exact .vague _ _
          · cases hv
      · cases hv
    · cases hv
  · rename_i len e n o hu
    obtain ⟨hD,rfl⟩ : D n ∧ x' = .pointer (some ⟨(m n).block,(m n).off + o,none⟩):=by
      cases hx
      exact ⟨by assumption,rfl⟩
    split at hv
    · rename_i es cs hb
      split at hv
      · rename_i l k h1 h2
        split at hv
        · rename_i hc
          obtain ⟨c2,c3,c4,c5⟩:=hc
          obtain rfl:=Option.some.inj hv
          refine ⟨.slice (some ⟨(m n).block,(m n).off + o + l * P.cellsOf e,none⟩) (k - l) (len - l),fun w=>?_,?_⟩
          · have r1:=fun code=>bnd_run (P:=P) (cap:=len) (code:=code) hh h2 c4 w
            have r2:=fun code=>bnd_run (P:=P) (cap:=k) (code:=code) hl h1 c3 w
            have hadd : (if len = l then (⟨(m n).block,(m n).off + o,none⟩ : Addr) else ((⟨(m n).block,(m n).off + o,none⟩ : Addr).add (l * P.cellsOf e))) = ⟨(m n).block,(m n).off + o + l * P.cellsOf e,none⟩:=by
              rw [addr_add]
              rcases c5 with rfl|c5
              · simp
              · rw [if_neg (by omega)]
            have hsb : (Instr.sliceBounds false len len lo' hi' none).run P w = .ok (l,k,len) w:=by
              unfold Instr.sliceBounds
              cases hi'<;>cases lo'<;>simp_all [Sem.run_bind,Sem.run_pure,Result.andThen_ok]
            simp only [Instr.sliceAt,Instr.sureAddr,Sem.run_bind,run_underlying hu,Result.andThen_ok,hsb,sizeOf_cellsOf c2,Sem.run_pure]
            rw [hadd]
          · have:=VR.slice (D:=D) (m:=m) n (o + l * P.cellsOf e) (k - l) (len - l) (len - l) hD (by omega) (Nat.le_refl _) (.inl (.inr rfl))
            rwa [← Nat.add_assoc] at this
        · cases hv
      · cases hv
    · cases hv
  · cases hv

/-- x[l:k:q] -/
def slice3V (P : Program) (t : TypeId) (x : Value) (lo : Option Value) (hi mx : Value) (h : List Blk) : Option Value :=
  match P.underlying t,x with
  | some (.slice e),.slice (some ⟨n,o,none⟩) _ c =>
    match h[n]? with
    | some (.cells _ _) =>
      match bnd lo 0,bnd (some hi) 0,bnd (some mx) 0 with
      | some l,some k,some q=>if (P.info? e).isSome = true ∧ l ≤ k ∧ k ≤ q ∧ q ≤ c ∧ (l = 0 ∨ l < q) then some (.slice (some ⟨n,o + l * P.cellsOf e,none⟩) (k - l) (q - l)) else none
      | _,_,_=>none
    | _=>none
  | _,_=>none
theorem slice3V_sound {P : Program} {B lo0 : Nat} {D : Nat → Prop} {m : NMap} {h : List Blk} {w : World} (_hr : Rel B lo0 D m h w) {t : TypeId} {x x' v : Value} {lo lo' : Option Value} {hi hi' mx mx' : Value} (hx : VR D m x x') (hl : OptR D m lo lo') (hh : VR D m hi hi') (hm : VR D m mx mx')
    (hv : slice3V P t x lo hi mx h = some v) : ∃ v',(∀ w,(Instr.sliceAt t x' lo' (some hi') (some mx')).run P w = .ok v' w) ∧ VR D m v v':=by
  unfold slice3V at hv
  split at hv
  · rename_i e n o len c hu
    obtain ⟨hD,c',hlc,hcc,rfl⟩ : D n ∧ ∃ c',len ≤ c ∧ c ≤ c' ∧ x' = .slice (some ⟨(m n).block,(m n).off + o,none⟩) len c':=by
      cases hx
      exact ⟨by assumption,_,by assumption,by assumption,rfl⟩
    split at hv
    · split at hv
      · rename_i l k q h1 h2 h3
        split at hv
        · rename_i hc
          obtain ⟨c2,c3,c4,c5,c6⟩:=hc
          obtain rfl:=Option.some.inj hv
          refine ⟨.slice (some ⟨(m n).block,(m n).off + o + l * P.cellsOf e,none⟩) (k - l) (q - l),fun w=>?_,?_⟩
          · have r3:=fun code=>bnd_run (P:=P) (x':=some mx') (cap:=c') (code:=code) (show OptR D m (some mx) (some mx') from hm) h3 (by omega) w
            have r1:=fun code=>bnd_run (P:=P) (x':=some hi') (cap:=q) (code:=code) (show OptR D m (some hi) (some hi') from hh) h2 (by omega) w
            have r2:=fun code=>bnd_run (P:=P) (cap:=k) (code:=code) hl h1 c3 w
            have hadd : (if q = l then some (⟨(m n).block,(m n).off + o,none⟩ : Addr) else some ((⟨(m n).block,(m n).off + o,none⟩ : Addr).add (l * P.cellsOf e))) = some ⟨(m n).block,(m n).off + o + l * P.cellsOf e,none⟩:=by
              rw [addr_add]
              rcases c6 with rfl|c6
              · simp
              · rw [if_neg (by omega)]
            have hsb : (Instr.sliceBounds true len c' lo' (some hi') (some mx')).run P w = .ok (l,k,q) w:=by
              unfold Instr.sliceBounds
              cases lo'<;>simp_all [Sem.run_bind,Sem.run_pure,Result.andThen_ok]
            simp only [Instr.sliceAt,Instr.slice,Sem.run_bind,run_underlying hu,Result.andThen_ok,hsb,sizeOf_cellsOf c2,Sem.run_pure,Option.map_some]
            rw [hadd]
          · have:=VR.slice (D:=D) (m:=m) n (o + l * P.cellsOf e) (k - l) (q - l) (q - l) hD (by omega) (Nat.le_refl _) (.inl (.inr rfl))
            rwa [← Nat.add_assoc] at this
        · cases hv
      · cases hv
    · cases hv
  · cases hv

/-- == nil on a slice that is somewhere -/
def nilBin (P : Program) (op : BinOp) (t : TypeId) (x y : Value) : Option Value :=
  match P.underlying t with
  | some (.slice _)=>match x,y with
    | .slice (some _) _ _,.slice none _ _=>(match op with
      | .eql=>some (.bool false)
      | .neq=>some (.bool true)
      | _=>none)
    | _,_=>none
  | _=>none
theorem nilBin_run {P : Program} {op : BinOp} {t u : TypeId} {x y : Operand} {dst : Option Tmp} {ty : TypeId} {pos : String} {after : Array Edge} {guard : Option (Nat × Bool)} {ρ : Operand → Value} {v : Value} (hv : nilBin P op t (ρ x) (ρ y) = some v) (w : World) :
    (execOp ρ { dst:=dst,op:=.binOp op t x y u,type:=ty,pos:=pos,after:=after,guard:=guard }).run P w = .ok (.value v) w ∧ ∃ b,v = .bool b:=by
  unfold nilBin at hv
  split at hv
  · rename_i e hu
    split at hv
    · rename_i a l c l' c' hx hy
      have hg : (eqGuard op t x y (.slice (some a) l c) (.slice none l' c')).run P w = .ok () w:=by
        unfold eqGuard
        split<;>rfl
      have he : (Op.equal t (.slice (some a) l c) (.slice none l' c')).run P w = .ok false w:=by
        unfold Op.equal Op.maxDepth Op.equalIn
        simp only [Sem.run_bind,run_underlying hu,Result.andThen_ok,Sem.run_pure]
      cases op<;>simp only [] at hv<;>first
        | (cases hv;done)
        | (obtain rfl := Option.some.inj hv
           refine ⟨?_,_,rfl⟩
           simp only [execOp,hx,hy,Sem.run_bind,hg,Result.andThen_ok,binOp,he,Sem.run_pure,Bool.not_false])
    · cases hv
  · cases hv
/-- what does -/
def hop (P : Program) (ρ : Operand → Value) (o : Oper) (h : List Blk) : AOut :=
  match o.op with
  | .alloc e=>match P.info? e with
    | some i=>match i.zero with
      | some z=>if isClean z = true then some (.pointer (some ⟨h.length,0,none⟩),h ++ [.cells (esOf P e) z.cells.toList],none) else none
      | none=>none
    | none=>none
  | .box e x=>some (.pointer (some ⟨h.length,0,none⟩),h ++ [.cells (esOf P e) (ρ x).cells.toList],none)
  | .buildSlice t n ps=>newH (buildSliceV P t n (mapParts ρ ps) h)
  | .makeSlice t l c=>newH (makeSliceV P t (ρ l) (ρ c) h)
  | .load t a=>match ρ a with
    | .pointer (some ⟨n,o,none⟩)=>(loadV P t h n o).map fun v=>(v,h,none)
    | _=>none
  | .store t a x=>match ρ a with
    | .pointer (some ⟨n,o,none⟩)=>(storeV P t h n o (ρ x)).map fun h'=>(undef,h',some n)
    | _=>none
  | .call c=>bhop P ρ c h
  | .slice t x lo hi mx=>match mx with
    | none=>(sliceV P t (ρ x) (lo.map ρ) (hi.map ρ) h).map fun v=>(v,h,none)
    | some q=>match hi with
      | some k=>(slice3V P t (ρ x) (lo.map ρ) (ρ k) (ρ q) h).map fun v=>(v,h,none)
      | none=>none
  | .binOp op t x y _=>(nilBin P op t (ρ x) (ρ y)).map fun v=>(v,h,none)
  | .makeMap _ r=>match r with
    | none=>some (.map (some h.length),h ++ [.map #[] 0],none)
    | some _=>none
  | .lookup t x k ok=>(lookupV P t (ρ x) (ρ k) ok h).map fun v=>(v,h,none)
  | .mapUpdate t x k v=>(mapSetV P t (ρ x) (ρ k) (ρ v) h).map fun (h',n)=>(undef,h',some n)
  | .insert t x k v=>(mapSetV P t (ρ x) (ρ k) (ρ v) h).map fun (h',n)=>(undef,h',some n)
  | .convert src dst x=>newH (convV P src dst (ρ x) h)
  | _=>none

/-- a step of an operation -/
def StepN (P : Program) (B lo : Nat) (D : Nat → Prop) (m : NMap) (h : List Blk) (w : World) (s : Sem Next) (v : Value) (h' : List Blk) : Prop :=
  ∃ r v' w' m',s.run P w = .ok r w' ∧ (r = .value v' ∨ (r = .skip ∧ v' = undef)) ∧ Post B lo D m h w m' h' w' ∧ VR (Dx D h.length h'.length) m' v v'
theorem StepN.of {P : Program} {B lo : Nat} {D : Nat → Prop} {m : NMap} {h h' : List Blk} {w : World} {s : Sem Value} {v : Value} (hs : StepV P B lo D m h w s v h') : StepN P B lo D m h w (do pure (.value (← s))) v h':=by
  obtain ⟨v',w',m',h1,h2,h3⟩:=hs
  exact ⟨.value v',v',w',m',by simp only [Sem.run_bind,h1,Result.andThen_ok,Sem.run_pure],.inl rfl,h2,h3⟩

/-- a step that does not look at memory -/
def StepP (P : Program) (D : Nat → Prop) (m : NMap) (s : Sem Next) (v : Value) : Prop:=∃ v',(∀ w,s.run P w = .ok (.value v') w) ∧ VR D m v v'
theorem StepP.of {P : Program} {D : Nat → Prop} {m : NMap} {s : Sem Value} {v : Value} (hs : ∃ v',(∀ w,s.run P w = .ok v' w) ∧ VR D m v v') : StepP P D m (do pure (.value (← s))) v:=by
  obtain ⟨v',h1,h2⟩:=hs
  exact ⟨v',fun w=>by simp only [Sem.run_bind,h1,Result.andThen_ok,Sem.run_pure],h2⟩
theorem StepP.step {P : Program} {B lo : Nat} {D : Nat → Prop} {m : NMap} {h : List Blk} {w : World} {s : Sem Next} {v : Value} (hs : StepP P D m s v) (hr : Rel B lo D m h w) : StepN P B lo D m h w s v h:=by
  obtain ⟨v',h1,h2⟩:=hs
  exact ⟨.value v',v',w,m,h1 w,.inl rfl,Post.refl hr,by rw [Dx.refl];exact h2⟩

theorem genP_sound {P : Program} {D : Nat → Prop} {m : NMap} {ρ ρ' : Operand → Value} {o : Oper} {v : Value}
    (hρ : ∀ x ∈ o.op.operands,VR D m (ρ x) (ρ' x)) (hv : genP P ρ o = some v) : StepP P D m (execOp ρ' o) v:=by
  unfold genP at hv
  split at hv
  · cases hv
  · rename_i hsel
    split at hv
    · rename_i hc
      split at hv
      · rename_i v0 hp
        split at hv
        · rename_i hcv
          obtain rfl:=Option.some.inj hv
          have heq : execOp ρ' o = execOp ρ o:=execOp_congr o (fun cs b e=>hsel cs b e) (fun x hx=>by
            have:=List.all_eq_true.1 hc x (by simpa using hx)
            exact (hρ x hx).eq_of_clean depth _ _ this)
          exact ⟨v0,fun w=>by rw [heq];exact prun_run hp w,VR.of_clean depth _ hcv⟩
        · cases hv
      · cases hv
    · cases hv

theorem mapParts_prs {D : Nat → Prop} {m : NMap} {ρ ρ' : Operand → Value} {ps : Array (Nat × Operand)} (h : ∀ x ∈ (ps.toList.map (·.2)).toArray,VR D m (ρ x) (ρ' x)) : PRs D m (mapParts ρ ps).toList (mapParts ρ' ps).toList:=by
  refine ⟨by simp [mapParts],fun i p p' hp hp'=>?_⟩
  simp only [mapParts,Array.toList_map,List.getElem?_map] at hp hp'
  cases hq : ps.toList[i]? with
  | none=>rw [hq] at hp;cases hp
  | some q =>
    rw [hq] at hp hp'
    simp only [Option.map_some,Option.some.injEq] at hp hp'
    subst hp hp'
    exact ⟨rfl,h _ (by simp only [List.mem_toArray,List.mem_map];exact ⟨q,List.mem_of_getElem? hq,rfl⟩)⟩
theorem map_vrs {D : Nat → Prop} {m : NMap} {ρ ρ' : Operand → Value} {xs : Array Operand} (h : ∀ x ∈ xs,VR D m (ρ x) (ρ' x)) : VRs D m (xs.map ρ).toList (xs.map ρ').toList:=by
  refine ⟨by simp,fun i v v' hv hv'=>?_⟩
  simp only [Array.toList_map,List.getElem?_map] at hv hv'
  cases hq : xs.toList[i]? with
  | none=>rw [hq] at hv;cases hv
  | some q =>
    rw [hq] at hv hv'
    simp only [Option.map_some,Option.some.injEq] at hv hv'
    subst hv hv'
    exact h q (by simpa using List.mem_of_getElem? hq)
theorem newH_some {h' : List Blk} {r : Option (Value × List Blk)} {v : Value} {wr : Option Nat} (hv : newH r = some (v,h',wr)) : r = some (v,h') ∧ wr = none:=by
  cases r with
  | none=>cases hv
  | some x=>obtain ⟨a,b⟩:=x;simp [newH] at hv;obtain ⟨rfl,rfl,rfl⟩:=hv;exact ⟨rfl,rfl⟩

theorem fastBin_run {P : Program} {op : BinOp} {t u : TypeId} {x y : Operand} {dst : Option Tmp} {ty : TypeId} {pos : String} {after : Array Edge} {guard : Option (Nat × Bool)} {ρ : Operand → Value} {v : Value} (hv : fastBin op (ρ x) (ρ y) = some v) (w : World) :
    (execOp ρ { dst:=dst,op:=.binOp op t x y u,type:=ty,pos:=pos,after:=after,guard:=guard }).run P w = .ok (.value v) w:=by
  unfold fastBin at hv
  split at hv
  · rename_i k a k' b hx hy
    split at hv
    · rename_i hk
      subst hk
      have hg : (eqGuard op t x y (.int k a) (.int k b)).run P w = .ok () w:=by
        unfold eqGuard
        split<;>rfl
      have key : ∀ r : Value,(binOp op t (.int k a) (.int k b)).run P w = .ok r w → (execOp ρ { dst:=dst,op:=.binOp op t x y u,type:=ty,pos:=pos,after:=after,guard:=guard }).run P w = .ok (.value r) w:=by
        intro r hr
        simp only [execOp,hx,hy,Sem.run_bind,hg,Result.andThen_ok,hr,Sem.run_pure]
      apply key
      have neq : decide (a ≠ b) = (a != b):=by by_cases h : a = b<;>simp [h]
      have eql : decide (a = b) = (a == b):=by by_cases h : a = b<;>simp [h]
      cases op<;>simp only [] at hv<;>first
        | (cases hv;done)
        | (obtain rfl:=Option.some.inj hv;simp [binOp,Op.intArith,Op.intCmp,neq,eql];done)
        | (split at hv
           · cases hv
           · rename_i h0
             obtain rfl:=Option.some.inj hv
             simp [binOp,Op.intDiv,h0])
    · cases hv
  · cases hv

theorem pop_sound {P : Program} {D : Nat → Prop} {m : NMap} {ρ ρ' : Operand → Value} {o : Oper} {v : Value}
    (hρ : ∀ x ∈ o.op.operands,VR D m (ρ x) (ρ' x)) (hv : pop P ρ o = some v) : StepP P D m (execOp ρ' o) v:=by
  obtain ⟨dst,op,ty,pos,after,guard⟩:=o
  simp only [Op.operands] at hρ
  cases op<;>simp only [pop] at hv
  case move x =>
    obtain rfl:=Option.some.inj hv
    exact ⟨_,fun w=>rfl,hρ x (by simp)⟩
  case assign x =>
    obtain rfl:=Option.some.inj hv
    exact ⟨_,fun w=>rfl,hρ x (by simp)⟩
  case pick c a b =>
    split at hv
    · rename_i t hc
      obtain rfl:=Option.some.inj hv
      have h1:=hρ c (by simp)
      have h2:=hρ a (by simp)
      have h3:=hρ b (by simp)
      rw [hc] at h1
      have h4 : ρ' c = .bool t:=by
        generalize ρ' c = y at *
        cases h1;rfl
      refine ⟨if t then ρ' a else ρ' b,fun w=>?_,by cases t<;>assumption⟩
      simp [execOp,h4,asBool]
    · cases hv
  case nilCheck x =>
    split at hv
    · rename_i hc
      obtain rfl:=Option.some.inj hv
      have h1:=hρ x (by simp)
      refine ⟨ρ' x,fun w=>?_,h1⟩
      simp only [execOp]
      generalize ρ x = y at *
      generalize ρ' x = y' at *
      cases h1<;>first|(simp [isSome1] at hc;done)|rfl
    · cases hv
  case build t ps=>exact .of (buildV_sound (mapParts_prs hρ) hv)
  case makeFunc fn first captured =>
    cases fn<;>simp only [] at hv<;>try (cases hv;done)
    rename_i f
    obtain rfl:=Option.some.inj hv
    have h1:=map_vrs (xs:=first) (ρ:=ρ) (ρ':=ρ') (D:=D) (m:=m) fun x hx=>hρ x (by simp [hx])
    have h2:=map_vrs (xs:=captured) (ρ:=ρ) (ρ':=ρ') (D:=D) (m:=m) fun x hx=>hρ x (by simp [hx])
    exact ⟨_,fun w=>rfl,.func f _ _ _ _ h1.len h1.at' h2.len h2.at'⟩
  case extract t i =>
    split at hv
    · rename_i l ht
      have h2:=hρ t (by simp)
      rw [ht] at h2
      obtain ⟨l',hl,h3⟩ : ∃ l',VRs D m l l' ∧ ρ' t = .tuple ⟨l'⟩:=by
        generalize ρ' t = y at *
        cases h2;exact ⟨_,⟨by assumption,by assumption⟩,rfl⟩
      obtain ⟨v',h4,h5⟩:=hl.at hv
      refine .of ⟨v',fun w=>?_,h5⟩
      simp only [Instr.extract,h3]
      simp [h4]
    · cases hv
  case fieldAddr t x f=>exact .of (fieldAddrV_sound (hρ x (by simp)) hv)
  case indexAddr t x ix=>exact .of (indexAddrV_sound (hρ x (by simp)) (hρ ix (by simp)) hv)
  case binOp op t x y u =>
    unfold orGen at hv
    split at hv
    · rename_i r h1
      obtain rfl:=Option.some.inj hv
      have h2:=hρ x (by simp)
      have h3:=hρ y (by simp)
      obtain ⟨k,a,k',b,hx,hy⟩ : ∃ k a k' b,ρ x = .int k a ∧ ρ y = .int k' b:=by
        unfold fastBin at h1
        split at h1
        · rename_i k a k' b hx hy;exact ⟨k,a,k',b,hx,hy⟩
        · cases h1
      rw [hx] at h2;rw [hy] at h3
      have e2 : ρ' x = .int k a:=by
        generalize ρ' x = z at *
        cases h2;rfl
      have e3 : ρ' y = .int k' b:=by
        generalize ρ' y = z at *
        cases h3;rfl
      rw [hx,hy,← e2,← e3] at h1
      refine ⟨r,fun w=>fastBin_run h1 w,?_⟩
      unfold fastBin at h1
      rw [e2,e3] at h1
      simp only at h1
      split at h1
      · cases op <;> simp only [] at h1 <;> first
          | (cases h1;done)
          | (obtain rfl:=Option.some.inj h1;first|exact .int _ _|exact .bool _)
          | (split at h1
             · cases h1
             · obtain rfl:=Option.some.inj h1;exact .int _ _)
      · cases h1
    · exact genP_sound (by simpa only [Op.operands] using hρ) hv
  case field t x f=>exact .of (fieldV_sound (hρ x (by simp)) hv)
  case sliceToArrayPointer arr x=>exact .of (arrPtr_sound (hρ x (by simp)) hv)
  case index t x ix =>
    unfold orGen at hv
    split at hv
    · rename_i r hr'
      obtain rfl:=Option.some.inj hv
      exact .of (indexV_sound (hρ x (by simp)) (hρ ix (by simp)) hr')
    · exact genP_sound (by simpa only [Op.operands] using hρ) hv
  case call c =>
    obtain ⟨callee,args,argTypes⟩:=c
    unfold bpop at hv
    simp only at hv
    split at hv
    · rename_i b
      split at hv
      · rename_i hb
        subst hb
        split at hv
        · rename_i a ha
          obtain rfl : args = #[a]:=Array.ext' ha
          unfold orGen at hv
          split at hv
          · rename_i r h1
            obtain rfl:=Option.some.inj hv
            have h2:=hρ a (by simp [Call.operands])
            unfold lenV at h1
            split at h1
            · cases h1
            · rename_i t ht
              split at h1
              · rename_i e ad n c hu hx
                obtain rfl:=Option.some.inj h1
                rw [hx] at h2
                obtain ⟨x',c',h3⟩ : ∃ x' c',ρ' a = .slice x' n c':=by
                  generalize ρ' a = y at *
                  cases h2<;>exact ⟨_,_,rfl⟩
                have ee : execOp ρ' { dst:=dst,op:=.call { callee:=.builtin .len,args:=#[a],argTypes:=argTypes },type:=ty,pos:=pos,after:=after,guard:=guard } = (do pure (.value (← Builtin.len_ argTypes ty #[ρ' a]))):=by
                  simp only [execOp,resolve,invoke,List.map_toArray,List.map_cons,List.map_nil]
                  rfl
                rw [ee]
                refine StepP.of (s:=Builtin.len_ argTypes ty #[ρ' a]) ⟨.int .i64 n,fun w=>?_,.int _ _⟩
                simp only [Builtin.len_,ht,h3,List.getElem?_toArray,List.getElem?_cons_zero,Sem.run_bind,run_underlying hu,Result.andThen_ok,Sem.run_pure]
                rfl
              · cases h1
          · exact genP_sound (by simpa only [Op.operands] using hρ) hv
        · cases hv
      · exact genP_sound (by simpa only [Op.operands] using hρ) hv
    · cases hv
  all_goals first|(cases hv;done)|exact genP_sound (by simpa only [Op.operands] using hρ) hv

theorem hop_sound {P : Program} {B lo : Nat} {D : Nat → Prop} {m : NMap} {h h' : List Blk} {w : World} {ρ ρ' : Operand → Value} {o : Oper} {v : Value} {wr : Option Nat} (hr : Rel B lo D m h w) (hlo : lo ≤ h.length)
    (hρ : ∀ x ∈ o.op.operands,VR D m (ρ x) (ρ' x)) (hv : hop P ρ o h = some (v,h',wr)) (hw : WrOk lo wr) : StepN P B lo D m h w (execOp ρ' o) v h':=by
  obtain ⟨dst,op,ty,pos,after,guard⟩:=o
  simp only [Op.operands] at hρ
  cases op<;>simp only [hop] at hv
  case alloc e =>
    split at hv
    · rename_i i hi
      split at hv
      · rename_i z hz
        split at hv
        · rename_i hc
          obtain ⟨rfl,rfl,rfl⟩ : _ = v ∧ _ = h' ∧ none = wr:=by simpa using hv
          obtain ⟨v',w',m',h1,h2,h3⟩:=newVar_sound (P:=P) hr hlo (esOf P e) e (VR.of_clean depth z hc)
          refine StepN.of ⟨v',w',m',?_,h2,h3⟩
          simp only [Instr.alloc,Sem.run_bind,zeroValue,typeInfo,run_program,Result.andThen_ok,hi,hz,Sem.run_pure] at h1 ⊢
          exact h1
        · cases hv
      · cases hv
    · cases hv
  case box e x =>
    obtain ⟨rfl,rfl,rfl⟩ : _ = v ∧ _ = h' ∧ none = wr:=by simpa using hv
    exact StepN.of (newVar_sound (P:=P) hr hlo (esOf P e) e (hρ x (by simp)))
  case convert src dst x =>
    obtain ⟨h1,rfl⟩:=newH_some hv
    exact StepN.of (convV_sound hr hlo (hρ x (by simp)) h1)
  case buildSlice t n ps =>
    obtain ⟨h1,rfl⟩:=newH_some hv
    exact StepN.of (buildSliceV_sound hr hlo (mapParts_prs hρ) h1)
  case makeSlice t l c =>
    obtain ⟨h1,rfl⟩:=newH_some hv
    exact StepN.of (makeSliceV_sound hr hlo (hρ l (by simp)) (hρ c (by simp)) h1)
  case load t a =>
    split at hv
    · rename_i n o ha
      cases hl : loadV P t h n o with
      | none=>rw [hl] at hv;cases hv
      | some v0 =>
        rw [hl] at hv
        obtain ⟨rfl,rfl,rfl⟩ : v0 = v ∧ h = h' ∧ none = wr:=by simpa using hv
        have h2:=hρ a (by simp)
        rw [ha] at h2
        obtain ⟨hD,h3⟩ : D n ∧ ρ' a = .pointer (some ⟨(m n).block,(m n).off + o,none⟩):=by
          generalize ρ' a = y at *
          cases h2;exact ⟨by assumption,rfl⟩
        obtain ⟨v',h4,h5⟩:=loadV_sound (P:=P) hr hD hl
        refine .of (.pure hr (v':=v') ?_ h5)
        simp only [Instr.loadAt,h3,Instr.sureAddr,Sem.run_bind,Sem.run_pure,Result.andThen_ok,h4]
    · cases hv
  case store t a x =>
    split at hv
    · rename_i n o ha
      cases hst : storeV P t h n o (ρ x) with
      | none=>rw [hst] at hv;cases hv
      | some h1 =>
        rw [hst] at hv
        obtain ⟨rfl,rfl,rfl⟩ : undef = v ∧ h1 = h' ∧ some n = wr:=by simpa using hv
        have h2:=hρ a (by simp)
        rw [ha] at h2
        obtain ⟨hD,h3⟩ : D n ∧ ρ' a = .pointer (some ⟨(m n).block,(m n).off + o,none⟩):=by
          generalize ρ' a = y at *
          cases h2;exact ⟨by assumption,rfl⟩
        obtain ⟨w',h4,h5⟩:=storeV_sound (P:=P) hr hD (hw n rfl) hst (hρ x (by simp))
        refine ⟨.skip,undef,w',m,?_,.inr ⟨rfl,rfl⟩,h5,VR.undef⟩
        simp only [execOp,Instr.storeAt,h3,Instr.sureAddr,Sem.run_bind,Sem.run_pure,Result.andThen_ok,h4]
    · cases hv
  case slice t x lo hi mx =>
    cases mx with
    | some q =>
      cases hi with
      | none=>cases hv
      | some k =>
        simp only at hv
        cases hl : slice3V P t (ρ x) (lo.map ρ) (ρ k) (ρ q) h with
        | none=>rw [hl] at hv;cases hv
        | some v0 =>
          rw [hl] at hv
          obtain ⟨rfl,rfl,rfl⟩ : v0 = v ∧ h = h' ∧ none = wr:=by simpa using hv
          have ho : OptR D m (lo.map ρ) (lo.map ρ'):=by
            cases lo with
            | none=>exact trivial
            | some y=>exact hρ y (by simp)
          obtain ⟨v',h4,h5⟩:=slice3V_sound (P:=P) hr (hρ x (by simp)) ho (hρ k (by simp)) (hρ q (by simp)) hl
          refine .of (.pure hr (v':=v') ?_ h5)
          exact h4 w
    | none =>
      simp only at hv
      cases hl : sliceV P t (ρ x) (lo.map ρ) (hi.map ρ) h with
      | none=>rw [hl] at hv;cases hv
      | some v0 =>
        rw [hl] at hv
        obtain ⟨rfl,rfl,rfl⟩ : v0 = v ∧ h = h' ∧ none = wr:=by simpa using hv
        have ho : ∀ q : Option Operand,(∀ y ∈ q,VR D m (ρ y) (ρ' y)) → OptR D m (q.map ρ) (q.map ρ'):=by
          intro q hq
          cases q with
          | none=>exact trivial
          | some y=>exact hq y rfl
        obtain ⟨v',h4,h5⟩:=sliceV_sound (P:=P) hr (hρ x (by simp)) (ho lo fun y hy=>hρ y (by simp;exact .inr (.inl (Option.mem_def.1 hy)))) (ho hi fun y hy=>hρ y (by simp;exact .inr (.inr (Option.mem_def.1 hy)))) hl
        refine .of (.pure hr (v':=v') ?_ h5)
        exact h4 w
  case binOp op t x y u =>
    cases hl : nilBin P op t (ρ x) (ρ y) with
    | none=>rw [hl] at hv;cases hv
    | some v0 =>
      rw [hl] at hv
      obtain ⟨rfl,rfl,rfl⟩ : v0 = v ∧ h = h' ∧ none = wr:=by simpa using hv
      have h2:=hρ x (by simp)
      have h3:=hρ y (by simp)
      have hl' : nilBin P op t (ρ' x) (ρ' y) = some v0:=by
        unfold nilBin at hl ⊢
        split at hl
        · rename_i e hu
          split at hl
          · rename_i a l c l' c' hx hy
            rw [hx] at h2;rw [hy] at h3
            generalize ρ' x = p at *
            generalize ρ' y = q at *
            cases h2<;>cases h3<;>exact hl
          · cases hl
        · cases hl
      obtain ⟨h4,b,rfl⟩:=nilBin_run (dst:=dst) (ty:=ty) (pos:=pos) (after:=after) (guard:=guard) (u:=u) hl' w
      exact ⟨.value (.bool b),.bool b,w,m,h4,.inl rfl,Post.refl hr,.bool b⟩
  case makeMap t r =>
    cases r with
    | some _=>cases hv
    | none =>
      obtain ⟨rfl,rfl,rfl⟩ : _ = v ∧ _ = h' ∧ none = wr:=by simpa using hv
      exact StepN.of (newMap_sound (P:=P) hr hlo t)
  case lookup t x k ok =>
    cases hl : lookupV P t (ρ x) (ρ k) ok h with
    | none=>rw [hl] at hv;cases hv
    | some v0 =>
      rw [hl] at hv
      obtain ⟨rfl,rfl,rfl⟩ : v0 = v ∧ h = h' ∧ none = wr:=by simpa using hv
      obtain ⟨h4,h5⟩:=lookupV_sound (P:=P) hr (hρ x (by simp)) (hρ k (by simp)) hl
      exact .of (.pure hr (v':=v0) h4 (VR.of_clean depth _ h5))
  case mapUpdate t x k u =>
    cases hl : mapSetV P t (ρ x) (ρ k) (ρ u) h with
    | none=>rw [hl] at hv;cases hv
    | some q =>
      obtain ⟨h1,n⟩:=q
      rw [hl] at hv
      obtain ⟨rfl,rfl,rfl⟩ : undef = v ∧ h1 = h' ∧ some n = wr:=by simpa using hv
      obtain ⟨w',h4,h5⟩:=mapSetV_sound (P:=P) hr (hρ x (by simp)) (hρ k (by simp)) (hρ u (by simp)) hl (hw n rfl)
      refine ⟨.skip,undef,w',m,?_,.inr ⟨rfl,rfl⟩,h5,VR.undef⟩
      simp only [execOp,Sem.run_bind,h4,Result.andThen_ok,Sem.run_pure]
  case insert t x k u =>
    cases hl : mapSetV P t (ρ x) (ρ k) (ρ u) h with
    | none=>rw [hl] at hv;cases hv
    | some q =>
      obtain ⟨h1,n⟩:=q
      rw [hl] at hv
      obtain ⟨rfl,rfl,rfl⟩ : undef = v ∧ h1 = h' ∧ some n = wr:=by simpa using hv
      obtain ⟨w',h4,h5⟩:=mapSetV_sound (P:=P) hr (hρ x (by simp)) (hρ k (by simp)) (hρ u (by simp)) hl (hw n rfl)
      refine ⟨.skip,undef,w',m,?_,.inr ⟨rfl,rfl⟩,h5,VR.undef⟩
      simp only [execOp,Sem.run_bind,h4,Result.andThen_ok,Sem.run_pure]
  case call c =>
    obtain ⟨callee,args,argTypes⟩:=c
    unfold bhop at hv
    simp only at hv
    split at hv
    · rename_i b
      split at hv
      · rename_i hb
        subst hb
        split at hv
        · rename_i x y hxy
          obtain rfl : args = #[x,y]:=Array.ext' hxy
          have ee : execOp ρ' { dst:=dst,op:=.call { callee:=.builtin .append,args:=#[x,y],argTypes:=argTypes },type:=ty,pos:=pos,after:=after,guard:=guard } = (do pure (.value (← Builtin.append_ argTypes ty #[ρ' x,ρ' y]))):=by
            simp only [execOp,resolve,invoke,List.map_toArray,List.map_cons,List.map_nil]
            rfl
          rw [ee]
          exact StepN.of (appendV_sound (ty:=ty) hr hlo (hρ x (by simp [Call.operands])) (hρ y (by simp [Call.operands])) hv hw)
        · cases hv
      · split at hv
        · rename_i hb
          subst hb
          split at hv
          · rename_i x y hxy
            obtain rfl : args = #[x,y]:=Array.ext' hxy
            have ee : execOp ρ' { dst:=dst,op:=.call { callee:=.builtin .copy,args:=#[x,y],argTypes:=argTypes },type:=ty,pos:=pos,after:=after,guard:=guard } = (do pure (.value (← Builtin.copy_ argTypes ty #[ρ' x,ρ' y]))):=by
              simp only [execOp,resolve,invoke,List.map_toArray,List.map_cons,List.map_nil]
              rfl
            rw [ee]
            exact StepN.of (copyV_sound (ty:=ty) hr (hρ x (by simp [Call.operands])) (hρ y (by simp [Call.operands])) hv hw)
          · cases hv
        · cases hv
    · cases hv
  all_goals (cases hv;done)
end Go.Rex

namespace Go.Rex
open Go.RowKit

structure Ctx where
  call : FuncId → List Value → List Blk → AOut
  round : Nat → List Value → List Blk → AOut

/-- the state of an activation: its temporaries, and the names of its marks -/
structure AS where
  tm : List Value
  df : List Nat

def nth : List Value → Nat → Value
  | [],_=>undef
  | v :: _,0=>v
  | _ :: l,n + 1=>nth l n
theorem nth_eq : ∀ (l : List Value) (n : Nat),nth l n = l[n]?.getD undef
  | [],n=>by simp [nth]
  | v :: l,0=>by simp [nth]
  | v :: l,n + 1=>by simp [nth,nth_eq l n]
def ev (tm : List Value) : Operand → Value
  | .tmp t=>nth tm t
  | .const v=>v
  | .global g=>.pointer (some ⟨g,0,none⟩)
  | .func f=>.func (.func f) #[] #[]
def putL (tm : List Value) (dst : Option Tmp) (v : Value) : List Value :=
  match dst with
  | some d=>tm.set d v
  | none=>tm

def wmin : Option Nat → Option Nat → Option Nat
  | none,b=>b
  | a,none=>a
  | some a,some b=>some (min a b)
def wge (wr : Option Nat) (k : Nat) : Bool:=match wr with|none=>true|some n=>decide (k ≤ n)

/-- a function without a body: as the model has it -/
def extV (P : Program) (g : FuncId) (args : List Value) : Option Value :=
  if args.all isClean = true then
    match prun P (callFunc g ⟨args⟩) with
    | some (.value v)=>if isClean v = true then some v else none
    | _=>none
  else none

/-- an operation: a call of a Go function, a round, or what stands above -/
def xcall (C : Ctx) (P : Program) (ρ : Operand → Value) (c : Call) (h : List Blk) : AOut :=
  match c.callee with
  | .value f=>match ρ f with
    | .func fn ⟨first⟩ ⟨captured⟩=>match fn with
      | .func g=>match P.funcs[g]? with
        | some fd=>match fd.body with
          | some _ => if (fd.name == "runtime.NumGoroutine") = false then C.call g (first ++ (c.args.toList.map ρ ++ captured)) h else none
          | none=>(extV P g (first ++ (c.args.toList.map ρ ++ captured))).map fun v=>(v,h,none)
        | none=>none
      | .yield l=>C.round l (c.args.toList.map ρ) h
      | _=>none
    | _=>none
  | _=>none
def xop (C : Ctx) (P : Program) (ρ : Operand → Value) (o : Oper) (h : List Blk) : AOut :=
  match hop P ρ o h with
  | some r=>some r
  | none=>match o.op with
    | .call c=>xcall C P ρ c h
    | _=>none

def opsOk (o : Oper) : Bool:=o.op.operands.toList.all opndOk
/-- what is asked of a region that draws nothing -/
def regOk (ops : List Oper) : Bool:=ops.all opsOk

def runOps (C : Ctx) (P : Program) (ops : Array Oper) : List Oper → List Value → List Blk → Option (List Value × List Blk × Option Nat)
  | [],tm,h=>some (tm,h,none)
  | o :: rest,tm,h =>
    if Region.wanted o (yielded ops ⟨tm⟩) = true then
      match pop P (ev tm) o with
      | some v=>runOps C P ops rest (putL tm o.dst v) h
      | none =>
        match xop C P (ev tm) o h with
        | some (v,h1,w1)=>(runOps C P ops rest (putL tm o.dst v) h1).map fun (a2,h2,w2)=>(a2,h2,wmin w1 w2)
        | none=>none
    else runOps C P ops rest (putL tm o.dst undef) h

/-! ### a region that draws its order -/
def nthN : List Nat → Nat → Nat
  | [],_=>0
  | v :: _,0=>v
  | _ :: l,n + 1=>nthN l n
/-- on which operations one waits, by bits; 'ms': those of the operations ahead -/
def waits (ms : List Nat) : List Edge → Nat
  | []=>0
  | e :: es=>if Region.binds .any e = true then waits ms es ||| (2 ^ e.on ||| nthN ms e.on) else waits ms es
def masks : List Oper → List Nat → List Nat
  | [],ms=>ms
  | o :: os,ms=>masks os (ms ++ [waits ms o.after.toList])

/-- who writes which temporary -/
def dsts : List Oper → Nat → List (Nat × Nat)
  | [],_=>[]
  | o :: os,i=>match o.dst with
    | some d=>(d,i) :: dsts os (i + 1)
    | none=>dsts os (i + 1)
def nodupD : List (Nat × Nat) → Bool
  | []=>true
  | (d,_) :: l=>l.all (fun p=>p.1 != d) && nodupD l
/-- operation i looks at t: whoever writes it is ordered beside it -/
def lookOk (ms : List Nat) (m i t : Nat) (ds : List (Nat × Nat)) : Bool :=
  ds.all fun p=>p.1 != t || p.2 == i || m.testBit p.2 || (nthN ms p.2).testBit i
def eachOk (ops : Array Oper) (ms : List Nat) (ds : List (Nat × Nat)) : List Oper → Nat → Bool
  | [],_=>true
  | o :: os,i=>opsOk o && (decide (nthN ms i < 2 ^ i) && ((o.looksAt ops).all (fun t=>lookOk ms (nthN ms i) i t ds) && eachOk ops ms ds os (i + 1)))
def drawOk0 (ops : Array Oper) : Bool :=
  let ms:=masks ops.toList []
  let ds:=dsts ops.toList 0
  nodupD ds && eachOk ops ms ds ops.toList 0
def isLoud (o : Oper) : Bool :=
  match o.op with
  | .alloc _=>true
  | .box _ _=>true
  | .buildSlice _ _ _=>true
  | .makeSlice _ _ _=>true
  | .makeMap _ _=>true
  | .load _ _=>true
  | .slice _ _ _ _ _=>true
  | .lookup _ _ _ _=>true
  | .store _ _ _=>true
  | .mapUpdate _ _ _ _=>true
  | .insert _ _ _ _=>true
  | .call c=>match c.callee with
    | .builtin b=>b == .append || b == .copy
    | _=>true
  | _=>false
def isWr (o : Oper) : Bool :=
  match o.op with
  | .store _ _ _=>true
  | .mapUpdate _ _ _ _=>true
  | .insert _ _ _ _=>true
  | .call c=>match c.callee with
    | .builtin b=>b == .append
    | _=>false
  | _=>false
/-- beside a write something is not ordered -/
def beside (ms : List Nat) (i mi : Nat) : List Oper → Nat → Bool
  | [],_=>false
  | o :: os,j=>(isLoud o && i != j && !mi.testBit j && !(nthN ms j).testBit i) || beside ms i mi os (j + 1)
def needs (ms : List Nat) (l : List Oper) : List Oper → Nat → Bool
  | [],_=>false
  | o :: os,i=>(isWr o && beside ms i (nthN ms i) l 0) || needs ms l os (i + 1)
def needFree (ops : Array Oper) : Bool:=needs (masks ops.toList []) ops.toList ops.toList 0
def drawOk (ops : Array Oper) : Bool:=drawOk0 ops && !needFree ops
def freeOk (ops : Array Oper) : Bool:=drawOk0 ops && needFree ops

structure Dr where
  tm : List Value
  h : List Blk
  np : List Nat
  chain : Bool
  wr : Option Nat

def drawHeap (m i : Nat) (o : Oper) (s : Dr) (r : AOut) : Option Dr :=
  match r with
  | some (v,h1,w1) =>
    if s.chain = false ∧ wge w1 s.h.length = true then
      (if h1.length = s.h.length then some { tm:=putL s.tm o.dst v,h:=s.h,np:=i :: s.np,chain:=false,wr:=s.wr }
       else some { tm:=putL s.tm o.dst v,h:=s.h ++ h1.drop s.h.length,np:=i :: s.np,chain:=false,wr:=s.wr })
    else if s.np.all (fun j=>m.testBit j) = true ∧ s.h.length ≤ h1.length then some { tm:=putL s.tm o.dst v,h:=h1,np:=i :: s.np,chain:=true,wr:=wmin s.wr w1 }
    else none
  | none=>none
def drawStep (C : Ctx) (P : Program) (ops : Array Oper) (m i : Nat) (o : Oper) (s : Dr) : Option Dr :=
  if Region.wanted o (yielded ops ⟨s.tm⟩) = true then
    match pop P (ev s.tm) o with
    | some v=>some { s with tm:=putL s.tm o.dst v }
    | none=>drawHeap m i o s (xop C P (ev s.tm) o s.h)
  else some { s with tm:=putL s.tm o.dst undef }
def drawAll (C : Ctx) (P : Program) (ops : Array Oper) (ms : List Nat) : List Oper → Nat → Dr → Option Dr
  | [],_,s=>some s
  | o :: rest,i,s=>match drawStep C P ops (nthN ms i) i o s with
    | some s'=>drawAll C P ops ms rest (i + 1) s'
    | none=>none
def runDraw1 (C : Ctx) (P : Program) (ops : Array Oper) (tm : List Value) (h : List Blk) : Option (List Value × List Blk × Option Nat) :=
  if drawOk ops = true then
    (drawAll C P ops (masks ops.toList []) ops.toList 0 { tm,h,np:=[],chain:=false,wr:=none }).map fun s=>(s.tm,s.h,s.wr)
  else none

/-! ### .. with writes that nobody waits for -/
/-- what an operation touches: only what it makes (or nothing), whatever it can reach, or one name that was there; an append: the name that it goes on, and the one that it reads -/
inductive Tk
  | mk
  | all
  | rd (n : Nat)
  | wr (n : Nat)
  | ap (n n2 : Nat)
def wrT : Tk → Option Nat
  | .wr n=>some n
  | .ap n _=>some n
  | _=>none
def seesT : Tk → Nat → Bool
  | .rd n',n=>n' == n
  | .wr n',n=>n' == n
  | .ap a b,n=>a == n || b == n
  | _,_=>false
structure Rc where
  i : Nat
  l0 : Nat
  l1 : Nat
  k : Tk
structure Fr where
  tm : List Value
  h : List Blk
  rs : List Rc
  b : Nat
  bar : Option Nat
  wr : Option Nat

def ptrName : Value → Option Nat
  | .pointer (some ⟨n,_,none⟩)=>some n
  | .slice (some ⟨n,_,none⟩) _ _=>some n
  | .map (some n)=>some n
  | _=>none
def touch (ρ : Operand → Value) (o : Oper) : Option Tk :=
  match o.op with
  | .alloc _=>some .mk
  | .box _ _=>some .mk
  | .buildSlice _ _ _=>some .mk
  | .makeSlice _ _ _=>some .mk
  | .makeMap _ _=>some .mk
  | .binOp _ _ _ _ _=>some .mk
  | .load _ a=>(ptrName (ρ a)).map .rd
  | .slice _ x _ _ _=>(ptrName (ρ x)).map .rd
  | .lookup _ x _ _=>match ptrName (ρ x) with
    | some n=>some (.rd n)
    | none=>some .mk
  | .store _ a _=>(ptrName (ρ a)).map .wr
  | .mapUpdate _ x _ _=>(ptrName (ρ x)).map .wr
  | .insert _ x _ _=>(ptrName (ρ x)).map .wr
  | .call c=>match c.callee with
    | .builtin b=>if b = .append then match c.args.toList with
      | [x,y]=>match ρ y with
        | .slice (some ⟨n2,_,none⟩) (_ + 1) _=>match ρ x with
          | .slice none 0 0=>some (.rd n2)
          | .slice (some ⟨n,_,none⟩) _ _=>if n = n2 then none else some (.ap n n2)
          | _=>none
        | _=>none
      | _=>none
      else none
    | _=>none
  | _=>none

/-- operation j with these waits can't have been given n -/
def hidden (rs : List Rc) (b n j mj : Nat) : Bool:=decide (b ≤ n) && rs.all fun r=>!(decide (r.l0 ≤ n) && decide (n < r.l1)) || (r.i != j && !mj.testBit r.i)
def okRd (m : Nat) (rs : List Rc) (n : Nat) : Bool:=rs.all fun r=>wrT r.k != some n || m.testBit r.i
def okAll (m i : Nat) (rs : List Rc) (b : Nat) : Bool:=rs.all fun r=>match wrT r.k with
  | some n'=>hidden rs b n' i m || m.testBit r.i
  | none=>true
def okWr (ms : List Nat) (m : Nat) (rs : List Rc) (b n : Nat) : Bool:=rs.all fun r=>match r.k with
  | .all=>hidden rs b n r.i (nthN ms r.i) || m.testBit r.i
  | k=>!seesT k n || m.testBit r.i
def barOk (m : Nat) : Option Nat → Bool
  | none=>true
  | some q=>m.testBit q

def freeHeap (ms : List Nat) (m i : Nat) (ρ : Operand → Value) (o : Oper) (s : Fr) (r : AOut) : Option Fr :=
  match r with
  | some (v,h1,w1) =>
    if barOk m s.bar = true then
      match touch ρ o with
      | some .mk=>some { s with tm:=putL s.tm o.dst v,h:=h1,rs:=⟨i,s.h.length,h1.length,.mk⟩ :: s.rs }
      | some (.rd n)=>if okRd m s.rs n = true then some { s with tm:=putL s.tm o.dst v,h:=h1,rs:=⟨i,s.h.length,h1.length,.rd n⟩ :: s.rs } else none
      | some (.wr n)=>if okWr ms m s.rs s.b n = true then some { s with tm:=putL s.tm o.dst v,h:=h1,rs:=⟨i,s.h.length,s.h.length,.wr n⟩ :: s.rs,wr:=wmin s.wr w1 } else none
      | some (.ap n n2)=>if okWr ms m s.rs s.b n = true ∧ okRd m s.rs n2 = true then some { s with tm:=putL s.tm o.dst v,h:=h1,rs:=⟨i,s.h.length,h1.length,.ap n n2⟩ :: s.rs,wr:=wmin s.wr w1 } else none
      | _ =>
        if wge w1 s.h.length = true ∧ s.h.length ≤ h1.length ∧ okAll m i s.rs s.b = true then
          some { s with tm:=putL s.tm o.dst v,h:=s.h ++ h1.drop s.h.length,rs:=⟨i,s.h.length,h1.length,.all⟩ :: s.rs }
        else if s.rs.all (fun r=>m.testBit r.i) = true ∧ s.h.length ≤ h1.length then
          some { tm:=putL s.tm o.dst v,h:=h1,rs:=[],b:=h1.length,bar:=some i,wr:=wmin s.wr w1 }
        else none
    else none
  | none=>none
def freeStep (C : Ctx) (P : Program) (ops : Array Oper) (ms : List Nat) (m i : Nat) (o : Oper) (s : Fr) : Option Fr :=
  if Region.wanted o (yielded ops ⟨s.tm⟩) = true then
    match pop P (ev s.tm) o with
    | some v=>some { s with tm:=putL s.tm o.dst v }
    | none=>freeHeap ms m i (ev s.tm) o s (xop C P (ev s.tm) o s.h)
  else some { s with tm:=putL s.tm o.dst undef }
def freeAll (C : Ctx) (P : Program) (ops : Array Oper) (ms : List Nat) : List Oper → Nat → Fr → Option Fr
  | [],_,s=>some s
  | o :: rest,i,s=>match freeStep C P ops ms (nthN ms i) i o s with
    | some s'=>freeAll C P ops ms rest (i + 1) s'
    | none=>none
def runFree (C : Ctx) (P : Program) (ops : Array Oper) (tm : List Value) (h : List Blk) : Option (List Value × List Blk × Option Nat) :=
  if freeOk ops = true then
    (freeAll C P ops (masks ops.toList []) ops.toList 0 { tm,h,rs:=[],b:=h.length,bar:=none,wr:=none }).map fun s=>(s.tm,s.h,s.wr)
  else none
def runDraw (C : Ctx) (P : Program) (ops : Array Oper) (tm : List Value) (h : List Blk) : Option (List Value × List Blk × Option Nat) :=
  if needFree ops = true then runFree C P ops tm h else runDraw1 C P ops tm h
theorem runDraw_of1 {C : Ctx} {P : Program} {ops : Array Oper} {tm : List Value} {h : List Blk} {r : List Value × List Blk × Option Nat} (h1 : runDraw1 C P ops tm h = some r) : runDraw C P ops tm h = some r:=by
  unfold runDraw
  split
  · rename_i hn
    unfold runDraw1 at h1
    split at h1
    · rename_i hd
      simp only [drawOk,hn,Bool.not_true,Bool.and_false] at hd
      cases hd
    · cases h1
  · exact h1
theorem runDraw_of2 {C : Ctx} {P : Program} {ops : Array Oper} {tm : List Value} {h : List Blk} {r : List Value × List Blk × Option Nat} (h1 : runFree C P ops tm h = some r) : runDraw C P ops tm h = some r:=by
  unfold runDraw
  split
  · exact h1
  · rename_i hn
    unfold runFree at h1
    split at h1
    · rename_i hd
      simp only [freeOk,hn,Bool.and_false] at hd
      cases hd
    · cases h1

abbrev EOut:=Option (Exit × AS × List Blk × Option Nat)
def liftE (df : List Nat) (r : Option (List Value × List Blk × Option Nat)) : EOut:=r.map fun (tm,h,w)=>(.normal,⟨tm,df⟩,h,w)

/-- the statement 'for range over a function' -/
def rangeStart (ro : Option Nat) (h : List Blk) : Option (List Blk × Nat × List Nat) :=
  match ro with
  | none=>some (h ++ [.dfr],h.length,[h.length])
  | some l=>match h[l]? with
    | some (.loop _ _ _ _ _ _ d)=>some (h,d,[])
    | _=>none
def rangeEnd (a' : AS) (l : Nat) (h2 : List Blk) (w2 : Option Nat) : EOut :=
  match h2[l]? with
  | some (.loop st pend _ _ _ _ _) =>
    if st = .busy then none else
    match pend with
    | none=>some (.normal,a',h2.set l .dead,w2)
    | some c=>match c with
      | .ret=>some (.ret,a',h2.set l .dead,w2)
      | .exit id=>some (.exit id,a',h2.set l .dead,w2)
      | _=>none
  | _=>none
def runRange (C : Ctx) (P : Program) (ro : Option Nat) (g : Operand) (ps : Array Tmp) (assign body : Code) (a : AS) (h : List Blk) : EOut :=
  if opndOk g = true then
  match ev a.tm g with
  | .func fn ⟨first⟩ ⟨captured⟩=>match fn with
    | .func gf=>match P.funcs[gf]? with
      | some fd => if fd.body.isSome = true ∧ (fd.name == "runtime.NumGoroutine") = false then
          match rangeStart ro h with
          | none=>none
          | some (h1,d,mark) =>
            match C.call gf (first ++ ([.func (.yield h1.length) #[] #[]] ++ captured)) (h1 ++ [.loop .ready none a.tm ps assign body d]) with
            | some (_,h2,w2)=>rangeEnd ⟨a.tm,mark ++ a.df⟩ h1.length h2 w2
            | none=>none
        else none
      | none=>none
    | _=>none
  | _=>none
  else none

def exec (C : Ctx) (P : Program) (ro : Option Nat) : Nat → Code → AS → List Blk → EOut
  | 0,_,_,_=>none
  | k + 1,c,a,h=>match c with
    | .skip=>some (.normal,a,h,none)
    | .label _=>some (.normal,a,h,none)
    | .exit id=>some (.exit id,a,h,none)
    | .ret=>some (.ret,a,h,none)
    | .seq x y=>match exec C P ro k x a h with
      | none=>none
      | some (e,a1,h1,w1)=>match e with
        | .normal=>(exec C P ro k y a1 h1).map fun (e2,a2,h2,w2)=>(e2,a2,h2,wmin w1 w2)
        | _=>some (e,a1,h1,w1)
    | .cond c x y => if opndOk c = true then match ev a.tm c with
        | .bool t=>match t with
          | true=>exec C P ro k x a h
          | false=>exec C P ro k y a h
        | _=>none
      else none
    | .block id b=>match exec C P ro k b a h with
      | none=>none
      | some (e,a1,h1,w1)=>match e with
        | .exit id'=>if id' = id then some (.normal,a1,h1,w1) else some (.exit id',a1,h1,w1)
        | _=>some (e,a1,h1,w1)
    | .loop b=>match exec C P ro k b a h with
      | none=>none
      | some (e,a1,h1,w1)=>match e with
        | .normal=>(exec C P ro k (.loop b) a1 h1).map fun (e2,a2,h2,w2)=>(e2,a2,h2,wmin w1 w2)
        | _=>some (e,a1,h1,w1)
    | .region _ ops draw=>match draw with
      | true=>liftE a.df (runDraw C P ops a.tm h)
      | false=>if regOk ops.toList = true then liftE a.df (runOps C P ops ops.toList a.tm h) else none
    | .rangeFunc g ps assign body=>runRange C P ro g ps assign body a h
    | _=>none

def takeDefers : List Nat → List Blk → Option (List Blk × Option Nat)
  | [],h=>some (h,none)
  | n :: ds,h=>match h[n]? with
    | some .dfr=>(takeDefers ds (h.set n .dead)).map fun (h2,w)=>(h2,wmin (some n) w)
    | _=>none

def resV (P : Program) (h : List Blk) (tm : List Value) : ResultVar → Option Value
  | .tmp t=>some (nth tm t)
  | .cell a t=>match nth tm a with
    | .pointer (some ⟨n,o,none⟩)=>loadV P t h n o
    | _=>none
def resAll (P : Program) (h : List Blk) (tm : List Value) : List ResultVar → Option (List Value)
  | []=>some []
  | r :: rs=>match resV P h tm r with
    | some v=>(resAll P h tm rs).map fun vs=>v :: vs
    | none=>none
def oneOf : List Value → Value
  | [v]=>v
  | vs=>.tuple ⟨vs⟩

/-- a call's end: the marks, the results; what can't be reached any more is forgotten -/
def runEnd (P : Program) (fd : Func) (n0 : Nat) (h : List Blk) (a1 : AS) (h1 : List Blk) (w1 : Option Nat) : AOut :=
  match takeDefers a1.df h1 with
  | some (h2,w2)=>match resAll P h2 a1.tm fd.results.toList with
    | some vs =>
      if isClean (oneOf vs) = true then
        (if wge (wmin w1 w2) n0 = true then some (oneOf vs,h,none) else some (oneOf vs,h2,wmin w1 w2))
      else if wge (wmin w1 w2) n0 = true then some (oneOf vs,h2,none) else some (oneOf vs,h2,wmin w1 w2)
    | none=>none
  | none=>none
def runCall (C : Ctx) (P : Program) (k : Nat) (f : FuncId) (args : List Value) (h : List Blk) : AOut :=
  match P.funcs[f]? with
  | none=>none
  | some fd=>match fd.body with
    | none=>none
    | some c =>
      match exec C P none k c ⟨args ++ List.replicate (fd.ntmps - args.length) undef,[]⟩ h with
      | some (e,a1,h1,w1)=>match e with
        | .normal=>runEnd P fd h.length h a1 h1 w1
        | .ret=>runEnd P fd h.length h a1 h1 w1
        | _=>none
      | none=>none
def setArgs : List Tmp → List Value → List Value → List Value
  | p :: ps,v :: vs,tmps=>setArgs ps vs (tmps.set p v)
  | _,_,tmps=>tmps
def roundEnd (l : Nat) (jump : Option Code) (h2 : List Blk) (w : Option Nat) : AOut :=
  match h2[l]? with
  | some (.loop _ _ t3 p3 as3 b3 d3)=>some (.bool jump.isNone,h2.set l (.loop (if jump.isNone then .ready else .done) jump t3 p3 as3 b3 d3),wmin (some l) w)
  | _=>none
def runRound (C : Ctx) (P : Program) (k : Nat) (l : Nat) (args : List Value) (h : List Blk) : AOut :=
  match h[l]? with
  | some (.loop st _ tmps ps assign body _) =>
    if st = .ready ∧ args.length = ps.size then
      match exec C P (some l) k assign ⟨setArgs ps.toList args tmps,[]⟩ h with
      | some (e,a1,h1,w1)=>match e with
        | .normal=>match h1[l]? with
          | some (.loop st1 pend1 tmps' ps' as' bd' d') =>
            if st1 = .ready then
            match exec C P (some l) k body a1 (h1.set l (.loop .busy pend1 tmps' ps' as' bd' d')) with
            | some (e2, _, h2, w2) => match e2 with
                | .normal=>roundEnd l none h2 (wmin w1 w2)
                | .ret=>roundEnd l (some .ret) h2 (wmin w1 w2)
                | .exit id=>roundEnd l (some (.exit id)) h2 (wmin w1 w2)
                | _=>none
            | none=>none
            else none
          | _=>none
        | _=>none
      | none=>none
    else none
  | _=>none

def ctx (P : Program) (k : Nat) : Nat → Ctx
  | 0=>⟨fun _ _ _=>none,fun _ _ _=>none⟩
  | d + 1=>⟨runCall (ctx P k d) P k,runRound (ctx P k d) P k⟩

def ecall (P : Program) (k d : Nat) (f : FuncId) (args : List Value) (h : List Blk) : AOut:=(ctx P k d).call f args h
end Go.Rex

namespace Go.Rex
open Go.RowKit

def Fw (ro : Option Nat) : Fence:={ Fence.wide with round:=ro }

/-- a call's end -/
def Good (B lo : Nat) (D : Nat → Prop) (m : NMap) (h : List Blk) (w : World) (v : Value) (h' : List Blk) : Ending → World → Prop:=fun e w' =>
  ∃ v' m',e = .returned v' ∧ Post B lo D m h w m' h' w' ∧ VR (Dx D h.length h'.length) m' v v'

structure CtxOk (P : Program) (C : Ctx) : Prop where
  call : ∀ {f : FuncId} {args : List Value} {h : List Blk} {v : Value} {h' : List Blk} {wr : Option Nat},C.call f args h = some (v,h',wr) →
    ∀ {B lo : Nat} {D : Nat → Prop} {m : NMap} {w : World} {args' : List Value},Rel B lo D m h w → lo ≤ h.length → WrOk lo wr → VRs D m args args' → Calls P f ⟨args'⟩ w (Good B lo D m h w v h')
  round : ∀ {l : Nat} {args : List Value} {h : List Blk} {v : Value} {h' : List Blk} {wr : Option Nat},C.round l args h = some (v,h',wr) →
    ∀ {B lo : Nat} {D : Nat → Prop} {m : NMap} {w : World} {args' : List Value},Rel B lo D m h w → lo ≤ h.length → WrOk lo wr → D l → VRs D m args args' →
      ∃ fn tmps assign body,(Instr.yield (m l).block ⟨args'⟩).run P w = .ok (.round (m l).block fn tmps assign body) w ∧ ∀ n,RoundIn Fence.wide n P (m l).block fn tmps assign body w (Good B lo D m h w v h')

theorem gl_vr {B : Nat} {w : World} {D : Nat → Prop} {m : NMap} {g : Nat} {a : Act} (hg : Gl B D m w) (h : g < NG) : VR D m (.pointer (some ⟨g,0,none⟩)) (a.eval (.global g)):=by
  obtain ⟨h1,h2,h3⟩:=hg.nm g h
  have:=VR.ptr (m:=m) g 0 h1
  rw [h2,h3] at this
  exact this
theorem ev_vr {B : Nat} {w : World} {D : Nat → Prop} {m : NMap} {tm : List Value} {a : Act} (hg : Gl B D m w) (hA : VRs D m tm a.tmps.toList) {x : Operand} (hx : opndOk x = true) : VR D m (ev tm x) (a.eval x):=by
  cases x with
  | tmp t =>
    simp only [ev,nth_eq,Act.eval]
    have:=hA.getD t (VR.undef (D:=D) (m:=m))
    have e : a.tmps.getD t undef = a.tmps.toList[t]?.getD undef:=by simp [Array.getD_eq_getD_getElem?]
    rw [e]
    exact this
  | const v=>exact VR.of_clean depth v hx
  | global g=>exact gl_vr hg (by simpa [opndOk] using hx)
  | func f=>exact .func f [] [] [] [] rfl (fun i v v' h=>by simp at h) rfl (fun i v v' h=>by simp at h)

theorem opsOk_vr {B : Nat} {w : World} {D : Nat → Prop} {m : NMap} {tm : List Value} {a : Act} (hg : Gl B D m w) (hA : VRs D m tm a.tmps.toList) {o : Oper} (ho : opsOk o = true) : ∀ x ∈ o.op.operands,VR D m (ev tm x) (a.eval x):=fun x hx =>
  ev_vr hg hA (List.all_eq_true.1 ho x (by simpa using hx))

theorem putL_vrs {D : Nat → Prop} {m : NMap} {tm : List Value} {a : Act} (hA : VRs D m tm a.tmps.toList) (dst : Option Tmp) {v v' : Value} (hv : VR D m v v') : VRs D m (putL tm dst v) (a.put dst v').tmps.toList:=by
  cases dst with
  | none=>exact hA
  | some d=>simp only [putL,Act.put,Array.toList_setIfInBounds];exact hA.set d hv
theorem put_defers (a : Act) (dst : Option Tmp) (v : Value) : (a.put dst v).defers = a.defers:=by cases dst<;>rfl

theorem wanted_vr {D : Nat → Prop} {m : NMap} {tm : List Value} {a : Act} {ops : Array Oper} {o : Oper} (hA : VRs D m tm a.tmps.toList) : Region.wanted o (yielded ops a.tmps) = Region.wanted o (yielded ops ⟨tm⟩):=by
  have key : ∀ j,yielded ops a.tmps j = yielded ops ⟨tm⟩ j:=by
    intro j
    unfold yielded
    cases hd : ((ops[j]?).bind (·.dst) : Option Tmp) with
    | none=>rfl
    | some d =>
      simp only [Option.bind_some]
      have e1 : (⟨tm⟩ : Array Value)[d]? = tm[d]?:=by simp
      have e2 : a.tmps[d]? = a.tmps.toList[d]?:=by simp
      rw [e1,e2]
      cases hv : tm[d]? with
      | none =>
        have : a.tmps.toList[d]? = none:=by
          rw [List.getElem?_eq_none_iff] at hv ⊢
          rw [hA.len];exact hv
        rw [this]
      | some v =>
        obtain ⟨v',hv',hr⟩:=hA.at hv
        rw [hv']
        cases hr<;>rfl
  unfold Region.wanted
  cases o.guard with
  | none=>rfl
  | some p=>simp only [key]

theorem WrOk.min {lo : Nat} {a b : Option Nat} (h : WrOk lo (wmin a b)) : WrOk lo a ∧ WrOk lo b:=by
  cases a with
  | none=>exact ⟨fun n h=>(by cases h),by simpa [wmin] using h⟩
  | some x =>
    cases b with
    | none=>exact ⟨by simpa [wmin] using h,fun n h=>(by cases h)⟩
    | some y =>
      have:=h (Min.min x y) rfl
      exact ⟨fun n hn=>by cases hn;omega,fun n hn=>by cases hn;omega⟩
theorem wge_ok {wr : Option Nat} {k : Nat} (h : wge wr k = true) : WrOk k wr:=by
  intro n hn
  subst hn
  simpa [wge] using h
section
variable {P : Program} {C : Ctx} {ro : Option Nat} {n : Nat} {Q : Exit → Act → World → Prop}

/-- what an operation ends in -/
def OpIn (ro : Option Nat) (n : Nat) (P : Program) (Q : Exit → Act → World → Prop) (o : Oper) (a : Act) (B lo : Nat) (D : Nat → Prop) (m : NMap) (h : List Blk) (w : World) (v : Value) (h' : List Blk) : Prop :=
  ∀ next : Act → World → Prop,(∀ v' w' m',Post B lo D m h w m' h' w' → VR (Dx D h.length h'.length) m' v v' → next (a.put o.dst v') w') → Oper.wpIn (Fw ro) n P o a w next Q

theorem StepN.opIn {B lo : Nat} {D : Nat → Prop} {m : NMap} {h h' : List Blk} {w : World} {o : Oper} {a : Act} {v : Value} (hd : ∀ c,o.op ≠ .defer c) (hs : StepN P B lo D m h w (execOp a.eval o) v h') : OpIn ro n P Q o a B lo D m h w v h':=by
  intro next hnext
  obtain ⟨r,v',w',m',h1,h2,h3,h4⟩:=hs
  refine ⟨fun _ _=>trivial,?_⟩
  show o.uponIn (Fw ro) n P a next Q ((o.semAt ro a.eval).run P w)
  rw [Oper.semAt_eq _ _ _ hd,h1]
  rcases h2 with rfl|⟨rfl,rfl⟩
  · exact hnext v' w' m' h3 h4
  · exact hnext undef w' m' h3 h4

theorem hop_nodefer {ρ : Operand → Value} {o : Oper} {h : List Blk} {r : Value × List Blk × Option Nat} (hv : hop P ρ o h = some r) : ∀ c,o.op ≠ .defer c:=by
  intro c hc
  unfold hop at hv
  rw [hc] at hv
  cases hv
theorem pop_nodefer {ρ : Operand → Value} {o : Oper} {v : Value} (hv : pop P ρ o = some v) : ∀ c,o.op ≠ .defer c:=by
  intro c hc
  unfold pop at hv
  rw [hc] at hv
  simp only [genP,hc] at hv
  split at hv
  · have : prun P (execOp ρ o) = none ∨ ∃ d, prun P (execOp ρ o) = some (.defer d) := by
      unfold execOp
      rw [hc]
      simp only []
      unfold resolve
      cases c.callee with
      | builtin b=>exact .inr ⟨_,rfl⟩
      | invoke x nm=>exact .inr ⟨_,rfl⟩
      | value f =>
        simp only []
        unfold Deferred.ofValue
        cases ρ f<;>first|exact .inl rfl|exact .inr ⟨_,rfl⟩
    rcases this with h|⟨d,h⟩<;>rw [h] at hv<;>cases hv
  · cases hv

theorem xop_in' (hC : CtxOk P C) {B lo : Nat} {D : Nat → Prop} {m : NMap} {h h' : List Blk} {w : World} {o : Oper} {a : Act} {tm : List Value} {v : Value} {wr : Option Nat} (hr : Rel B lo D m h w) (hlo : lo ≤ h.length)
    (hρ : ∀ x ∈ o.op.operands,VR D m (ev tm x) (a.eval x)) (hv : xop C P (ev tm) o h = some (v,h',wr)) (hw : WrOk lo wr) : OpIn ro n P Q o a B lo D m h w v h':=by
  unfold xop at hv
  split at hv
  · rename_i r hh
    obtain rfl:=Option.some.inj hv
    exact (hop_sound hr hlo hρ hh hw).opIn (hop_nodefer hh)
  · split at hv
    · rename_i c hc
      have hd : ∀ c',o.op ≠ .defer c':=fun c' e=>by rw [hc] at e;cases e
      rw [hc] at hρ
      simp only [Op.operands,Call.operands] at hρ
      unfold xcall at hv
      split at hv
      · rename_i f hf
        rw [hf] at hρ
        have h1:=hρ f (by simp)
        have h2:=map_vrs (xs:=c.args) (ρ:=ev tm) (ρ':=a.eval) (D:=D) (m:=m) fun x hx=>hρ x (by simp [hx])
        rw [Array.toList_map,Array.toList_map] at h2
        split at hv
        · rename_i fn first captured hfv
          rw [hfv] at h1
          split at hv
          · rename_i g
            obtain ⟨first',captured',hfi,hca,e1⟩ : ∃ first' captured',VRs D m first first' ∧ VRs D m captured captured' ∧ a.eval f = .func (.func g) ⟨first'⟩ ⟨captured'⟩:=by
              generalize a.eval f = y at *
              cases h1
              exact ⟨_,_,⟨by assumption,by assumption⟩,⟨by assumption,by assumption⟩,rfl⟩
            have hargs : VRs D m (first ++ (c.args.toList.map (ev tm) ++ captured)) (first' ++ (c.args.toList.map a.eval ++ captured')):=hfi.append (h2.append hca)
            have harr : (⟨first'⟩ ++ c.args.map a.eval ++ ⟨captured'⟩ : Array Value) = ⟨first' ++ (c.args.toList.map a.eval ++ captured')⟩:=Array.ext' (by simp)
            have hrun : ∀ w,(execOp a.eval o).run P w = (callFunc g ⟨first' ++ (c.args.toList.map a.eval ++ captured')⟩).run P w:=by
              intro w
              simp only [execOp,hc,resolve,hf,e1,Deferred.ofValue,Sem.run_bind,Sem.run_pure,Result.andThen_ok,invoke]
              rw [harr]
            split at hv
            · rename_i fd hfd
              split at hv
              · rename_i body hbody
                split at hv
                · rename_i hname
                  intro next hnext
                  refine ⟨fun _ _=>trivial,?_⟩
                  show o.uponIn (Fw ro) n P a next Q ((o.semAt ro a.eval).run P w)
                  rw [Oper.semAt_eq _ _ _ hd,hrun]
                  have hcf : (callFunc g ⟨first' ++ (c.args.toList.map a.eval ++ captured')⟩).run P w = .ok (.enter g ⟨first' ++ (c.args.toList.map a.eval ++ captured')⟩) w:=by
                    unfold callFunc
                    simp only [Sem.run_bind,run_program,Result.andThen_ok,hfd,hname,Bool.false_eq_true,if_false,hbody]
                    rfl
                  rw [hcf]
                  refine ⟨(fun h=>(by cases h)),?_⟩
                  have:=callsIn_wide (n:=n - 1).2 (hC.call hv hr hlo hw hargs)
                  refine CallsIn.mono (F:=Fw ro) (by exact this) ?_
                  rintro e w' ⟨v',m',rfl,hp,hvr⟩
                  exact hnext v' w' m' hp hvr
                · cases hv
              · rename_i hbody
                cases hx : extV P g (first ++ (c.args.toList.map (ev tm) ++ captured)) with
                | none=>rw [hx] at hv;cases hv
                | some v0 =>
                  rw [hx] at hv
                  obtain ⟨rfl,rfl,rfl⟩ : v0 = v ∧ h = h' ∧ none = wr:=by simpa using hv
                  unfold extV at hx
                  split at hx
                  · rename_i hcl
                    have heq : first' ++ (c.args.toList.map a.eval ++ captured') = first ++ (c.args.toList.map (ev tm) ++ captured) :=
                      hargs.eq_of fun u hu u' hur=>hur.eq_of_clean depth _ _ (by have:=List.all_eq_true.1 hcl u hu;exact this)
                    split at hx
                    · rename_i v1 hp
                      split at hx
                      · rename_i hcv
                        obtain rfl:=Option.some.inj hx
                        exact StepN.opIn hd ⟨.value v1,v1,w,m,by rw [hrun,heq];exact prun_run hp w,.inl rfl,Post.refl hr,VR.of_clean depth _ hcv⟩
                      · cases hx
                    · cases hx
                  · cases hx
            · cases hv
          · rename_i l
            obtain ⟨hD,rfl,rfl,e1⟩ : D l ∧ first = [] ∧ captured = [] ∧ a.eval f = .func (.yield (m l).block) #[] #[]:=by
              generalize a.eval f = y at *
              cases h1
              exact ⟨by assumption,rfl,rfl,rfl⟩
            obtain ⟨fn,tmps,assign,body,hy,hround⟩:=hC.round hv hr hlo hw hD h2
            intro next hnext
            refine ⟨fun _ _=>trivial,?_⟩
            show o.uponIn (Fw ro) n P a next Q ((o.semAt ro a.eval).run P w)
            rw [Oper.semAt_eq _ _ _ hd]
            have hrun : (execOp a.eval o).run P w = .ok (.round (m l).block fn tmps assign body) w:=by
              simp only [execOp,hc,resolve,hf,e1,Deferred.ofValue,Sem.run_bind,Sem.run_pure,Result.andThen_ok,invoke]
              rw [show (#[] ++ c.args.map a.eval : Array Value) = ⟨c.args.toList.map a.eval⟩ from Array.ext' (by simp)]
              exact hy
            rw [hrun]
            refine ⟨(fun h=>(by cases h)),?_⟩
            refine RoundIn.mono (F:=Fw ro) (by exact hround (n - 1)) ?_
            rintro e w' ⟨v',m',rfl,hp,hvr⟩
            exact hnext v' w' m' hp hvr
          · cases hv
        · cases hv
      · cases hv
    · cases hv

theorem xop_in (hC : CtxOk P C) {B lo : Nat} {D : Nat → Prop} {m : NMap} {h h' : List Blk} {w : World} {o : Oper} {a : Act} {tm : List Value} {v : Value} {wr : Option Nat} (hr : Rel B lo D m h w) (hlo : lo ≤ h.length)
    (hA : VRs D m tm a.tmps.toList) (ho : opsOk o = true) (hv : xop C P (ev tm) o h = some (v,h',wr)) (hw : WrOk lo wr) : OpIn ro n P Q o a B lo D m h w v h' :=
  xop_in' hC hr hlo (opsOk_vr hr.gl hA ho) hv hw

theorem runOps_sound (hC : CtxOk P C) {ops : Array Oper} : ∀ (l : List Oper) (k : Nat), ops.toList.drop k = l → l.all opsOk = true → ∀ {B lo : Nat} {D : Nat → Prop} {m : NMap} {h h' : List Blk} {w : World} {a : Act} {tm tm' : List Value} {wr : Option Nat},
    Rel B lo D m h w → lo ≤ h.length → VRs D m tm a.tmps.toList → runOps C P ops l tm h = some (tm',h',wr) → WrOk lo wr →
    (∀ a' w' m',Post B lo D m h w m' h' w' → VRs (Dx D h.length h'.length) m' tm' a'.tmps.toList → a'.defers = a.defers → Q .normal a' w') → wpOpsIn (Fw ro) n P ops Q (List.range' k l.length) a w:=by
  intro l
  induction l with
  | nil =>
    intro k _ _ B lo D m h h' w a tm tm' wr hr _ hA hv _ hQ
    obtain ⟨rfl,rfl,rfl⟩ : tm = tm' ∧ h = h' ∧ none = wr:=by simpa [runOps] using hv
    exact hQ a w m (Post.refl hr) (by rw [Dx.refl];exact hA) rfl
  | cons o rest ih =>
    intro k hk hall B lo D m h h' w a tm tm' wr hr hlo hA hv hw hQ
    simp only [List.all_cons,Bool.and_eq_true] at hall
    have hok : ops[k]? = some o:=by
      have : ops.toList[k]? = some o:=by rw [← List.head?_drop,hk];rfl
      simpa using this
    have hk' : ops.toList.drop (k + 1) = rest:=by rw [← List.tail_drop,hk];rfl
    simp only [List.length_cons,List.range'_succ,wpOpsIn,hok]
    rw [wanted_vr hA]
    simp only [runOps] at hv
    split at hv
    · rename_i hwant
      rw [if_pos hwant]
      split at hv
      · rename_i v hp
        have hs:=(pop_sound (opsOk_vr hr.gl hA hall.1) hp).step hr
        refine StepN.opIn (pop_nodefer hp) hs _ fun v' w' m' hpost hvr=>?_
        have hrel:=hpost.rel
        have e : Dx D h.length h.length = D:=Dx.refl
        rw [e] at hrel hvr
        refine ih (k + 1) hk' hall.2 hrel hlo (putL_vrs (hA.mono (fun _ h=>h) hpost.agree) o.dst hvr) hv hw fun a' w2 m2 hp2 hA2 hd2=>?_
        refine hQ a' w2 m2 (hpost.trans (by rw [e];exact hp2)) hA2 (by rw [hd2,put_defers])
      · split at hv
        · rename_i v h1 w1 hx
          cases hrest : runOps C P ops rest (putL tm o.dst v) h1 with
          | none=>rw [hrest] at hv;cases hv
          | some r =>
            obtain ⟨tm2,h2,w2⟩:=r
            rw [hrest] at hv
            obtain ⟨rfl,rfl,rfl⟩ : tm2 = tm' ∧ h2 = h' ∧ wmin w1 w2 = wr:=by simpa using hv
            obtain ⟨hw1,hw2⟩:=hw.min
            refine xop_in hC hr hlo hA hall.1 hx hw1 _ fun v' w' m' hpost hvr=>?_
            refine ih (k + 1) hk' hall.2 hpost.rel (Nat.le_trans hlo hpost.grow) (putL_vrs (hpost.vrs hA) o.dst hvr) hrest hw2 fun a' w3 m2 hp2 hA2 hd2=>?_
            refine hQ a' w3 m2 (hpost.trans hp2) ?_ (by rw [hd2,put_defers])
            rwa [Dx.trans hpost.grow hp2.grow] at hA2
        · cases hv
    · rename_i hwant
      rw [if_neg hwant]
      refine ⟨fun _ _=>trivial,?_⟩
      refine ih (k + 1) hk' hall.2 hr hlo (putL_vrs hA o.dst VR.undef) hv hw fun a' w2 m2 hp2 hA2 hd2=>?_
      exact hQ a' w2 m2 hp2 hA2 (by rw [hd2,put_defers])
end
end Go.Rex
