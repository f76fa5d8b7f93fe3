/- An executor of the program's functions on trees of values,proved sound. -/
import Derived.Laws.IdiomStrings
import Derived.Lib.ConvBytes
import Derived.Lib.Builder
import Derived.Lib.UnsafeStr
import Derived.Test.YtdlghpacmamnfaaRexG1
import Derived.MapKept
set_option linter.unusedSimpArgs false
set_option linter.unusedVariables false
set_option linter.defProp false
namespace Go.Rex
open Go.RowKit
theorem slice_vr'{D:Nat→Prop}{h h':List Blk}{m:NMap}{i:Info}{l c c':Nat}(hlen:h.length<h'.length)(hl:l≤c)(hc:c≤c')(he:c'*i.es≤i.ext) :
 VR (Dx D h.length h'.length) (upd m h.length i) (.slice (some ⟨h.length,0,none⟩) l c) (.slice (some ⟨i.block,i.off,none⟩) l c'):=by
 have:=VR.slice (D:=Dx D h.length h'.length) (m:=upd m h.length i) h.length 0 l c c' (.inr ⟨a9 _,hlen⟩) hl hc (.inr (by rw[aA];omega))
 rw[aA] at this
 exact this
theorem cJ(z:Array Value)(n:Nat):(Builtin.zeroCells z n).toList.length=n*z.size:=by simp[Builtin.zeroCells]
theorem oX{D:Nat→Prop}{m:NMap}{z:Array Value}{n:Nat}(hz:z.all aP=true)(hs:0<z.size):VRs D m (Builtin.zeroCells z n).toList (Builtin.zeroCells z n).toList:=by
 refine VRs.refl_of fun v hv=>?_
 simp only[Builtin.zeroCells,Array.toList_map,List.mem_map] at hv
 obtain⟨j,_,rfl⟩:=hv
 have hj:j%z.size<z.size:=Nat.mod_lt _ hs
 rw[getElem!_pos z _ hj]
 refine VR.of_clean depth _ ?_
 have:=Array.all_eq_true.1 hz (j%z.size) hj
 exact this
theorem pC{P:Program}{B lo:Nat}{D:Nat→Prop}{m:NMap}{h h':List Blk}{w:World}(hr:Rel B lo D m h w)(hlo:lo≤h.length){argTypes:Array TypeId}{ty st e:TypeId}{i:TypeInfo}{s x s' x' v:Value}{wr:Option Nat}
 (h0:argTypes[0]?=some st) (hu:P.underlying st=some (.slice e)) (hi:P.info? e=some i)
 (hs:VR D m s s') (hx:VR D m x x') (hv:fX P i argTypes[1]? s x h=some (v,h',wr)):StepV P B lo D m h w (Builtin.append_ argTypes ty #[s',x']) v h':=by
 unfold fX at hv
 split at hv
 ·cases hs
  split at hv
  ·rename_i k l
   cases hx
   split at hv
   ·rename_i z hz
    split at hv
    ·rename_i hc
     obtain⟨c1,c2,c3,c4,c5,c6,c7,c8⟩:=hc
     obtain⟨rfl,rfl,rfl⟩:_=v∧_=h'∧none=wr:=by simpa using hv
     have hrd:=hr.frame (w':=w.drew) ((Below.refl _ _).drew)
     obtain⟨cap,hcap,hrun⟩:=nE (ty:=ty) (k:=k) (w:=w) h0 hu hi c1 c2 c3 c4 c5 hz c7
     have hp:=(Post.frame hr (w':=w.drew) ((Below.refl _ _).drew)).trans (hrd.pushRoom hlo i.size (oX (D:=D) (m:=m) (n:=l.toNat) c8 (by omega)) (Builtin.zeroCells z.cells (cap-l.toNat)).toList e |> fun p=>by rw[Dx.refl];exact p)
     refine⟨_,_,_,hrun,by simpa using hp,?_⟩
     have:=iU (D:=D) (h:=h) (h':=h++[Blk.cells i.size (Builtin.zeroCells z.cells l.toNat).toList]) (m:=m) (i:=⟨w.drew.heap.size,0,(Builtin.zeroCells z.cells l.toNat).toList.length+(Builtin.zeroCells z.cells (cap-l.toNat)).toList.length,i.size⟩) (l:=l.toNat) (c:=l.toNat) (c':=cap) (by simp) (a9 _) hcap
      (by
       rw[cJ,cJ,c6]
       show cap*i.size≤l.toNat*i.size+(cap-l.toNat)*i.size
       rw[← Nat.add_mul]
       exact g0 _ (by omega)) rfl
     simpa using this
    ·cases hv
   ·cases hv
  ·cases hv
 ·cases hv
theorem pF{P:Program}{B lo:Nat}{D:Nat→Prop}{m:NMap}{h h':List Blk}{w:World}(hr:Rel B lo D m h w)(hlo:lo≤h.length){argTypes:Array TypeId}{ty:TypeId}{s x s' x' v:Value}{wr:Option Nat}
 (hs:VR D m s s') (hx:VR D m x x') (hv:cQ P argTypes s x h=some (v,h',wr)) (hw:WrOk lo wr):StepV P B lo D m h w (Builtin.append_ argTypes ty #[s',x']) v h':=by
 unfold cQ at hv
 split at hv
 ·cases hv
 rename_i st h0
 split at hv
 ·rename_i e hu
  split at hv
  ·cases hv
  rename_i i hi
  split at hv
  ·rename_i hn
   split at hv
   ·cases hv
   rename_i n new hsrc
   obtain⟨new',hl,hc,hnv⟩:=bG (P:=P) hr hx hsrc
   split at hv
   ·
    cases hs
    split at hv
    ·rename_i hn0
     subst hn0
     split at hv
     ·rename_i hemp
      have hnil:new=[]:=by simpa using hemp
      subst hnil
      have hnil':new'=[]:=by have:=hnv.len;simpa using this
      subst hnil'
      obtain⟨rfl,rfl,rfl⟩:Value.slice none 0 0=v∧h=h'∧none=wr:=by simpa using hv
      exact StepV.pure hr (bF h0 hu hi hn hl hc (a9 _) rfl) (.nilSlice _ _)
     ·cases hv
    ·rename_i hn0
     split at hv
     ·rename_i hcond
      obtain⟨c1,c2,c3,c4⟩:=hcond
      obtain⟨rfl,rfl,rfl⟩:_=v∧_=h'∧none=wr:=by simpa using hv
      obtain⟨z,hz,hzs⟩:∃ z,i.zero=some z∧z.cells.size=i.size:=by
       cases hz:i.zero with
       | none=>rw[hz] at c3;cases c3
       | some z=>rw[hz] at c3;exact⟨z,rfl,by simpa using c3⟩
      obtain⟨_,hl',hc',_⟩:=bG (P:=P) (w:=w.drew) (hr.frame ((Below.refl _ _).drew)) hx hsrc
      have hrd:=hr.frame (w':=w.drew) ((Below.refl _ _).drew)
      obtain⟨new2,hl2,hc2,hnv2⟩:=bG (P:=P) hrd hx hsrc
      obtain⟨cap,hcap,hrun⟩:=dZ (ty:=ty) (base:=none) (len:=0) (cap:=0) h0 hu hi hn hl hc2 (by omega) (by simpa using c2) (by omega) (old:=[]) rfl hz
      have hpush:Post B lo D m h w.drew (upd m h.length ⟨w.drew.heap.size,0,new.length+(Builtin.zeroCells z.cells (cap-(0+n))).toList.length,i.size⟩) (h++[sP x e i.size new]) (w.drew.alloc (.cells ⟨new2++(Builtin.zeroCells z.cells (cap-(0+n))).toList⟩ e)):=by
       unfold sP
       split
       ·exact hrd.pushRoomT hlo i.size hnv2 (Builtin.zeroCells z.cells (cap-(0+n))).toList e (fun h0=>by rw[cJ,hzs,h0,Nat.mul_zero])
       ·exact hrd.pushRoom hlo i.size hnv2 (Builtin.zeroCells z.cells (cap-(0+n))).toList e
      have hp:=(Post.frame hr (w':=w.drew) ((Below.refl _ _).drew)).trans (hpush |> fun p=>by rw[Dx.refl];exact p)
      refine⟨_,_,_,by simpa using hrun,by simpa using hp,?_⟩
      have:=iU (D:=D) (h:=h) (h':=h++[sP x e i.size new]) (m:=m) (i:=⟨w.drew.heap.size,0,new.length+(Builtin.zeroCells z.cells (cap-(0+n))).toList.length,i.size⟩) (l:=n) (c:=n) (c':=cap) (by simp) (a9 _) (by omega)
       (by
        rw[cJ,hzs,c4]
        show cap*i.size≤n*i.size+(cap-(0+n))*i.size
        rw[← Nat.add_mul]
        exact g0 _ (by omega)) rfl
      simpa using this
     ·cases hv
   ·
    rename_i nm o len c
    cases hs with
    | slice _ _ _ _ c' hD hlc hcc he =>
    split at hv
    ·rename_i hn0
     subst hn0
     split at hv
     ·rename_i hemp
      have hnil:new=[]:=by simpa using hemp
      subst hnil
      have hnil':new'=[]:=by have:=hnv.len;simpa using this
      subst hnil'
      obtain⟨rfl,rfl,rfl⟩:_=v∧h=h'∧none=wr:=by simpa using hv
      exact StepV.pure hr (bF h0 hu hi hn hl hc (by omega) rfl) (.slice _ _ _ _ _ hD hlc hcc he)
     ·cases hv
    ·rename_i hn0
     split at hv
     ·
      rename_i hroom
      cases hwb:aS h nm (o+len*i.size) new with
      | none=>rw[hwb] at hv;cases hv
      | some h1 =>
       rw[hwb] at hv
       obtain⟨rfl,rfl,rfl⟩:_=v∧h1=h'∧some nm=wr:=by simpa using hv
       obtain⟨hst,hp⟩:=dG (P:=P) hr hD (hw nm rfl) hwb hnv
       refine⟨_,_,m,bF h0 hu hi hn hl hc (by omega) ?_,hp,?_⟩
       ·simp only[bU]
        rw[e7]
        exact hst
       ·exact hp.vr (.slice _ _ _ _ _ hD hroom hcc he)
     ·
      rename_i hroom
      split at hv
      ·rename_i es cs hb
       split at hv
       ·rename_i hcond
        obtain⟨rfl,htop,hnl,hone,hsm,hby,hz0⟩:=hcond
        obtain⟨rfl,rfl,rfl⟩:_=v∧_=h'∧some nm=wr:=by simpa using hv
        have hlnm:lo≤nm:=hw nm rfl
        obtain⟨z,hz,hzs⟩:∃ z,i.zero=some z∧z.cells.size=i.size:=by
         cases hz:i.zero with
         | none=>rw[hz] at hz0;cases hz0
         | some z=>rw[hz] at hz0;exact⟨z,rfl,by simpa using hz0⟩
        have hes:(m nm).es=i.size:=(hr.ok nm _ hD hb).1
        have hext:=(hr.own nm _ hD hlnm hb).1
        rw[hes] at he
        by_cases hin:len+n≤c'
        ·
         have hfit:cs.length+new.length≤(m nm).ext:=by
          rcases he with (h00|h00)|he
          ·rw[hnl,h00];simpa using hext
          ·omega
          ·rw[← htop,hnl,e7,← Nat.add_mul]
           exact e6 (Nat.add_le_add_left (g0 _ hin) _) he
         have hp1:=hr.extend hD hlnm hb hfit hnv
         have hlt:=hr.dom nm hD
         have hst:(storeCells ⟨(m nm).block,(m nm).off+cs.length,none⟩ new').run P w = .ok () (w.setCells (m nm).block ((m nm).off+cs.length) new'):=by
          have hown:=hr.own nm _ hD hlnm hb
          have hx':∀ j,j<new'.length→(∃ u,w.cell? ⟨(m nm).block,(m nm).off+cs.length+j,none⟩=some u)∧w.frozen? ⟨(m nm).block,(m nm).off+cs.length+j,none⟩=false:=fun j hj=>by
           rw[hnv.len] at hj
           rw[e7]
           exact hown.2 (cs.length+j) (by omega)
          have:=run_storeCells_cells (P:=P) (m nm).block ((m nm).off+cs.length) new' 0 w (fun j hj=>by obtain⟨u,hu⟩:=(hx' j hj).1;simp[hu]) (fun j hj=>by simpa using (hx' j hj).2) (fun x hx=>by
           obtain⟨k,hk⟩:=i4.1 hx
           have hlt:k<new.length:=by have:=(a7.1 hk).1;rw[hnv.len] at this;exact this
           exact fT (hnv.at' k _ _ (b5 hlt) hk) (by simpa using (a8.1 hone) _ (List.getElem_mem hlt)))
          simpa using this
         have hrel:=hp1.rel
         rw[show (h.set nm (.cells i.size (cs++new))).length=h.length by simp,Dx.refl] at hrel
         have hp2:=hrel.move (by simpa using hlo) hD hlnm (d8 hlt) o (by omega)
         have hp:=hp1.trans (by rw[show (h.set nm (.cells i.size (cs++new))).length=h.length by simp,Dx.refl];exact hp2)
         rw[show (h.set nm (.cells i.size (cs++new))).length=h.length by simp] at hp
         have e1:((h.set nm (.cells i.size (cs++new))).set nm .dead++[Blk.cells i.size ((cs++new).drop o)])=h.set nm .dead++[Blk.cells i.size (cs.drop o++new)]:=by
          rw[List.set_set,List.drop_append_of_le_length (by omega)]
         rw[e1] at hp
         refine⟨_,_,_,bF h0 hu hi hn hl hc hin ?_,hp,?_⟩
         ·simp only[bU]
          rw[e7,htop]
          exact hst
         ·exact slice_vr' (D := D) (h := h) (h' := h.set nm .dead ++ [Blk.cells i.size (cs.drop o ++ new)]) (m := m) (i := ⟨(m nm).block, (m nm).off + o, (m nm).ext - o, i.size⟩) (l := len + n) (c := len + n) (c' := c') (by simp) (a9 _) hin (by
            show c'*i.size≤(m nm).ext-o
            rcases he with (h00|h00)|he
            ·rw[h00];simp
            ·omega
            ·omega)
        ·
         have hrd:=hr.frame (w':=w.drew) ((Below.refl _ _).drew)
         obtain⟨new2,hl2,hc2,hnv2⟩:=bG (P:=P) hrd hx hsrc
         have hread:aL h nm o (len*i.size)=some (cs.drop o):=by
          unfold aL
          rw[hb]
          simp only[]
          rw[b8 (by omega),f9 (by simp;omega)]
         obtain⟨old',hov,hok,hoc⟩:=aZ hrd hD hread
         obtain⟨cap,hcap,hrun⟩:=dZ (ty:=ty) (base:=some ⟨(m nm).block,(m nm).off+o,none⟩) (len:=len) (cap:=c') h0 hu hi hn hl hc2 hin hby hsm (old:=old') (cB hoc _ (hov.len.trans hok)) hz
         have hk:=Post.kill hrd nm
         have hrk:=hrd.kill nm
         have hp:=(Post.frame hr (w':=w.drew) ((Below.refl _ _).drew)).trans (by rw[Dx.refl];exact hk)
         have hp:=hp.trans (by
          rw[show (h.set nm Blk.dead).length=h.length by simp,Dx.refl]
          exact hrk.pushRoom (by simpa using hlo) i.size (hov.append hnv2) (Builtin.zeroCells z.cells (cap-(len+n))).toList e)
         refine⟨_,_,_,hrun,hp,?_⟩
         rw[show (h.set nm Blk.dead).length=h.length by simp]
         have hd:(cs.drop o).length=len*i.size:=by simp;omega
         exact slice_vr' (D:=D) (h:=h) (h':=h.set nm .dead++[Blk.cells i.size (cs.drop o++new)]) (m:=m) (i:=⟨w.drew.heap.size,0,(cs.drop o++new).length+(Builtin.zeroCells z.cells (cap-(len+n))).toList.length,i.size⟩) (l:=len+n) (c:=len+n) (c':=cap) (by simp) (a9 _) hcap (by
          rw[cJ,hzs,i5,hd,hnl]
          show cap*i.size≤len*i.size+n*i.size+(cap-(len+n))*i.size
          rw[← Nat.add_mul,← Nat.add_mul]
          exact g0 _ (by omega))
       ·cases hv
      ·cases hv
   ·
    cases hs
    rename_i a' c'
    split at hv
    ·rename_i hn0
     subst hn0
     split at hv
     ·rename_i hemp
      have hnil:new=[]:=by simpa using hemp
      subst hnil
      have hnil':new'=[]:=by have:=hnv.len;simpa using this
      subst hnil'
      obtain⟨rfl,rfl,rfl⟩:_=v∧h=h'∧none=wr:=by simpa using hv
      exact StepV.pure hr (bF h0 hu hi hn hl hc (by omega) rfl) (.vague _ _)
     ·cases hv
    ·cases hv
   ·cases hv
  ·exact pC hr hlo h0 hu hi hs hx hv
 ·cases hv
theorem pA{P:Program}{B lo:Nat}{D:Nat→Prop}{m:NMap}{h h':List Blk}{w:World}(hr:Rel B lo D m h w)(hlo:lo≤h.length){argTypes:Array TypeId}{ty:TypeId}{s x s' x' v:Value}{wr:Option Nat}
 (hs:VR D m s s') (hx:VR D m x x') (hv:iZ P argTypes s x h=some (v,h',wr)) (hw:WrOk lo wr):StepV P B lo D m h w (Builtin.append_ argTypes ty #[s',x']) v h':=by
 unfold iZ at hv
 split at hv
 ·cases hv
 rename_i st h0
 split at hv
 ·rename_i e hu
  split at hv
  ·cases hv
  rename_i i hi
  split at hv
  ·rename_i hn
   split at hv
   ·rename_i b
    split at hv
    ·rename_i nm len c
     split at hv
     ·rename_i t es cs hb
      split at hv
      ·rename_i hcond
       obtain⟨hsz,rfl,rfl,rfl,hroom,hsm,hby,hz0⟩:=hcond
       cases hs with
       | slice _ _ _ _ c' hD hlc hcc he =>
       have hlnm:lo≤nm:=hw nm (Prod.mk.inj (Prod.mk.inj (a6 hv)).2).2.symm
       have hsrc:eS h i.size (.string b)=some (b.size,(b.extract 0 b.size).data.toList.map fun b=>.int .u8 b.toNat):=rfl
       generalize hnew:(b.extract 0 b.size).data.toList.map (fun b=>Value.int .u8 b.toNat)=new at hv hsrc
       have hnl:new.length=b.size:=by rw[← hnew];simp
       have hone:new.all (·.oneCell')=true:=by
        rw[← hnew,a8]
        intro y hy
        simp only[List.mem_map] at hy
        obtain⟨_,_,rfl⟩:=hy
        rfl
       obtain⟨new',hl,hc,hnv⟩:=bG (P:=P) hr hx hsrc
       obtain⟨z,hz,hzs⟩:∃ z,i.zero=some z∧z.cells.size=i.size:=by
        cases hz:i.zero with
        | none=>rw[hz] at hz0;cases hz0
        | some z=>rw[hz] at hz0;exact⟨z,rfl,by simpa using hz0⟩
       have hok:=hr.ok nm _ hD hb
       have hown:=hr.own nm _ hD hlnm hb
       have hext:=hown.1
       have hes:=hok.1.1
       have hoff:=hok.1.2.1
       rw[hes] at he
       have hfit:cs.length+b.size≤c'→cs.length+new.length≤(m nm).ext:=fun hin=>by
        rcases he with (h00|h00)|he
        ·cases h00
        ·omega
        ·omega
       have hst:cs.length+b.size≤c'→(storeCells ⟨(m nm).block,(m nm).off+cs.length,none⟩ new').run P w = .ok () (w.setCells (m nm).block ((m nm).off+cs.length) new'):=fun hin=>by
        have hfit:=hfit hin
        have hx':∀ j,j<new'.length→(∃ u,w.cell? ⟨(m nm).block,(m nm).off+cs.length+j,none⟩=some u)∧w.frozen? ⟨(m nm).block,(m nm).off+cs.length+j,none⟩=false:=fun j hj=>by
         rw[hnv.len] at hj
         rw[e7]
         exact hown.2 (cs.length+j) (by omega)
        have:=run_storeCells_cells (P:=P) (m nm).block ((m nm).off+cs.length) new' 0 w (fun j hj=>by obtain⟨u,hu⟩:=(hx' j hj).1;simp[hu]) (fun j hj=>by simpa using (hx' j hj).2) (fun x hx=>by
         obtain⟨k,hk⟩:=i4.1 hx
         have hlt:k<new.length:=by have:=(a7.1 hk).1;rw[hnv.len] at this;exact this
         exact fT (hnv.at' k _ _ (b5 hlt) hk) (by simpa using (a8.1 hone) _ (List.getElem_mem hlt)))
        simpa using this
       have hrun:cs.length+b.size≤c'→(Builtin.append_ argTypes ty #[.slice (some ⟨(m nm).block,(m nm).off+0,none⟩) cs.length c',x']).run P w = .ok (.slice (some ⟨(m nm).block,(m nm).off+0,none⟩) (cs.length+b.size) c') (w.setCells (m nm).block ((m nm).off+cs.length) new'):=fun hin=>bF h0 hu hi hn hl hc hin (by
        simp only[bU,hsz]
        rw[Nat.add_zero,Nat.mul_one]
        exact hst hin)
       obtain⟨rfl,rfl,rfl⟩:_=v∧_=h'∧some nm=wr:=by simpa using hv
       have hlt:=hr.dom nm hD
       by_cases hin:cs.length+b.size≤c'
       ·have hp1:=hr.extendT hD hlnm (by decide) hb (hfit hin) hnv
        have hrel:=hp1.rel
        rw[show (h.set nm (.tcells t 1 (cs++new))).length=h.length by simp,Dx.refl] at hrel
        have hp2:=hrel.moveT (by simpa using hlo) hD hlnm (d8 hlt)
        have hp:=hp1.trans (by rw[show (h.set nm (.tcells t 1 (cs++new))).length=h.length by simp,Dx.refl];exact hp2)
        rw[show (h.set nm (.tcells t 1 (cs++new))).length=h.length by simp] at hp
        rw[List.set_set] at hp
        refine⟨_,_,_,hrun hin,hp,?_⟩
        have := slice_vr' (D := D) (h := h) (h' := h.set nm .dead ++ [Blk.tcells t 1 (cs ++ new)]) (m := m) (i := ⟨(m nm).block, (m nm).off, (m nm).ext, 1⟩) (l := cs.length + b.size) (c := cs.length + b.size) (c' := c') (by simp) (a9 _) hin (by
            show c'*1≤(m nm).ext
            rcases he with (h00|h00)|he
            ·cases h00
            ·omega
            ·omega)
        simpa using this
       ·have hrd:=hr.frame (w':=w.drew) ((Below.refl _ _).drew)
        obtain⟨new2,hl2,hc2,hnv2⟩:=bG (P:=P) hrd hx hsrc
        have hread:aL h nm 0 (cs.length*i.size)=some cs:=by
         unfold aL
         rw[hb]
         simp only[]
         rw[hsz,b8 (by omega),List.drop_zero,f9 (by omega)]
        obtain⟨old',hov,hok',hoc⟩:=aZ hrd hD hread
        obtain⟨cap,hcap,hrun⟩:=dZ (ty:=ty) (base:=some ⟨(m nm).block,(m nm).off+0,none⟩) (len:=cs.length) (cap:=c') h0 hu hi hn hl hc2 hin hby hsm (old:=old') (cB hoc _ (by rw[hov.len,hsz,Nat.mul_one])) hz
        have hk:=Post.kill hrd nm
        have hrk:=hrd.kill nm
        have hp:=(Post.frame hr (w':=w.drew) ((Below.refl _ _).drew)).trans (by rw[Dx.refl];exact hk)
        have hp:=hp.trans (by
         rw[show (h.set nm Blk.dead).length=h.length by simp,Dx.refl]
         exact hrk.pushRoomT (by simpa using hlo) 1 (hov.append hnv2) (Builtin.zeroCells z.cells (cap-(cs.length+b.size))).toList t (fun h=>by cases h))
        refine⟨_,_,_,hrun,hp,?_⟩
        rw[show (h.set nm Blk.dead).length=h.length by simp]
        exact slice_vr' (D:=D) (h:=h) (h':=h.set nm .dead++[Blk.tcells t 1 (cs++new)]) (m:=m) (i:=⟨w.drew.heap.size,0,(cs++new).length+(Builtin.zeroCells z.cells (cap-(cs.length+b.size))).toList.length,1⟩) (l:=cs.length+b.size) (c:=cs.length+b.size) (c':=cap) (by simp) (a9 _) hcap (by
         rw[cJ,hzs,i5,hnl,hsz]
         show cap*1≤cs.length+b.size+(cap-(cs.length+b.size))*1
         omega)
      ·cases hv
     ·cases hv
    ·cases hv
   ·cases hv
  ·cases hv
 ·cases hv
section
open Go.Lib
def gS(P:Program)(src dst:TypeId)(x:Value)(h:List Blk):Option (Value×List Blk):=
 match x with
 | .string s=>match P.underlying src with
  | none=>none
  | some _=>match P.underlying dst with
   | some (.slice e)=>match P.underlying e with
    | some (.int .u8)=>some (.slice (some ⟨h.length,0,none⟩) s.size s.size,h++[.cells 1 (s.data.toList.map fun b=>.int .u8 b.toNat)])
    | _=>none
   | _=>none
 | _=>none
theorem xM(w:World)(n:Nat)(e:TypeId):n≤grownCap w n 0 e:=by
 unfold grownCap
 simp[Question.cut]
theorem mY{P:Program}{B lo:Nat}{D:Nat→Prop}{m:NMap}{h h':List Blk}{w:World}(hr:Rel B lo D m h w)(hlo:lo≤h.length){src dst:TypeId}{x x' v:Value}(hx:VR D m x x')(hv:gS P src dst x h=some (v,h')):StepV P B lo D m h w (convert src dst x') v h':=by
 unfold gS at hv
 split at hv
 ·rename_i s
  cases hx
  split at hv
  ·cases hv
  rename_i u hs
  split at hv
  ·rename_i e hd
   split at hv
   ·rename_i he
    obtain⟨rfl,rfl⟩:_=v∧_=h':=by simpa using hv
    have hrun:=Go.Lib.run_convert_string_bytes (P:=P) w src dst e s hs hd he
    have hg:=xM w s.size e
    have hsz:(bytesCells w e s).size=grownCap w s.size 0 e:=by simp[bytesCells];omega
    have hrd:=hr.frame (w':=w.drew) ((Below.refl _ _).drew)
    have hvr:VRs D m (s.data.toList.map fun b=>Value.int .u8 b.toNat) (s.data.toList.map fun b=>Value.int .u8 b.toNat):=VRs.refl_of fun v hv=>by
     simp only[List.mem_map] at hv
     obtain⟨b,_,rfl⟩:=hv
     exact .int _ _
    have hlen:(s.data.toList.map fun b=>Value.int .u8 b.toNat).length=s.size:=by simp
    have hp0:=(Post.frame hr (w':=w.drew) ((Below.refl _ _).drew)).trans (hrd.pushRoom hlo 1 hvr (List.replicate (grownCap w s.size 0 e-s.size) (.int .u8 0)) e |> fun p=>by rw[Dx.refl];exact p)
    have hm:upd m h.length ⟨w.drew.heap.size,0,(s.data.toList.map fun b=>Value.int .u8 b.toNat).length+(List.replicate (grownCap w s.size 0 e-s.size) (Value.int .u8 0)).length,1⟩ h.length=⟨w.heap.size,0,grownCap w s.size 0 e,1⟩:=by
     rw[aA,hlen,List.length_replicate,show s.size+(grownCap w s.size 0 e-s.size)=grownCap w s.size 0 e by omega]
     rfl
    generalize hmm:upd m h.length ⟨w.drew.heap.size,0,(s.data.toList.map fun b=>Value.int .u8 b.toNat).length+(List.replicate (grownCap w s.size 0 e-s.size) (Value.int .u8 0)).length,1⟩=m' at hp0 hm
    generalize hcl:(s.data.toList.map fun b=>Value.int .u8 b.toNat)=cl at hp0 hlen hvr hmm
    have hD:Dx D h.length (h++[Blk.cells 1 cl]).length h.length:=.inr ⟨a9 _,by simp⟩
    have hb:(h++[Blk.cells 1 cl])[h.length]?=some (.cells 1 cl):=by simp
    have hsize:(bytesWorld w e s).heap.size=w.heap.size+1:=bytesWorld_size w e s
    have hcell:∀(k:Nat) v,cl[k]?=some v→(bytesWorld w e s).cell? ⟨w.heap.size,k,none⟩=some v:=by
     intro k v hk
     have hk':k<s.size:=by rw[← hlen];exact (a7.1 hk).1
     rw[bytesWorld_cell w e s k hk',← hcl] at *
     rw[← hcl] at hk
     simp only[List.getElem?_map] at hk
     cases hz:s.data.toList[k]? with
     | none=>rw[hz] at hk;cases hk
     | some b=>rw[hz] at hk;simp only[Option.map_some,Option.some.injEq] at hk;rw[← hk];simp[List.getD,hz]
    have hex:∀ k,k<grownCap w s.size 0 e→(∃ u,(bytesWorld w e s).cell? ⟨w.heap.size,k,none⟩=some u)∧(bytesWorld w e s).frozen? ⟨w.heap.size,k,none⟩=false:=by
     intro k hk
     have h1:=bytesWorld_at_new w e s
     refine⟨⟨(bytesCells w e s)[k]'(by omega),?_⟩,?_⟩
     ·simp only[World.cell?,h1]
      simp[Array.getElem?_eq_getElem (show k<(bytesCells w e s).size by omega)]
     ·simp only[World.frozen?,h1]
      simp
      omega
    have hp1:=hp0.rel.modify (w':=bytesWorld w e s) hD hlo hb (by simp) rfl rfl rfl (by rw[hsize];simp) (fun k hk=>by
     rw[hm] at hk
     by_cases hlt:k<w.heap.size
     ·rw[bytesWorld_at_old w e s k hlt]
      exact ((((Below.refl w.heap.size w).drew).alloc (a9 _) _).block k hlt).symm
     ·have hk':k≠w.heap.size:=hk
      rw[Array.getElem?_eq_none (by rw[hsize];omega),Array.getElem?_eq_none (by show (w.drew.alloc _).heap.size≤k;simp;show w.heap.size+1≤k;omega)]) (.cells 1 cl) ⟨by rw[hm],fun i v hv=>⟨v,by rw[hm];simpa using hcell i v hv,(hvr.at' i v v hv hv).mono (fun _=>.inl) hp0.agree⟩⟩ ⟨by rw[hm,hlen];exact hg,fun k hk=>by rw[hm] at hk ⊢;simpa using hex k hk⟩
    have hset:(h++[Blk.cells 1 cl]).set h.length (Blk.cells 1 cl)=h++[Blk.cells 1 cl]:=by
     apply i7
     intro j
     rw[g9]
     split
     ·rename_i e;subst e;simp
     ·rfl
    rw[hset] at hp1
    have hp:=hp0.trans hp1
    refine⟨_,_,_,hrun,hp,?_⟩
    have:=VR.slice (D:=Dx D h.length (h++[Blk.cells 1 cl]).length) (m:=m') h.length 0 s.size s.size (grownCap w s.size 0 e) hD (a9 _) hg (.inr (by rw[hm];simp))
    rw[hm] at this
    simpa using this
   ·cases hv
  ·cases hv
 ·cases hv
def xS:Value→Option UInt8
 | .int .u8 n=>if 0≤n∧n<256 then some (UInt8.ofNat n.toNat) else none
 | _=>none
def eY:List Value→Option (List UInt8)
 | []=>some []
 | c::t=>match xS c with
  | some b=>(eY t).map fun l=>b::l
  | none=>none
theorem iX:∀ {cs:List Value} {bs:List UInt8},eY cs=some bs→bs.length=cs.length∧∀ j (hj:j<bs.length),cs[j]?=some (.int .u8 (bs[j].toNat:Int))
 | [],bs,h=>by
  obtain rfl:[]=bs:=by simpa [eY] using h
  exact⟨rfl,fun j hj=>by simp at hj⟩
 | c::t,bs,h=>by
  simp only[eY] at h
  split at h
  ·rename_i b hb
   cases ht:eY t with
   | none=>rw[ht] at h;cases h
   | some l =>
    rw[ht] at h
    obtain rfl:b::l=bs:=by simpa using h
    obtain⟨h1,h2⟩:=iX ht
    refine⟨by simp[h1],fun j hj=>?_⟩
    cases j with
    | zero =>
     unfold xS at hb
     split at hb
     ·rename_i n
      split at hb
      ·rename_i hn
       obtain rfl:=a6 hb
       simp only[List.getElem?_cons_zero,List.getElem_cons_zero]
       congr 2
       have:(UInt8.ofNat n.toNat).toNat=n.toNat:=by
        simp only[UInt8.toNat_ofNat']
        omega
       omega
      ·cases hb
     ·cases hb
    | succ j=>simpa using h2 j (by simpa using hj)
  ·cases h
def lS(P:Program)(src dst:TypeId)(x:Value)(h:List Blk):Option Value:=
 match x with
 | .slice (some ⟨n,o,none⟩) l _=>match P.underlying dst with
  | some .string=>match P.underlying src with
   | some (.slice e)=>match P.underlying e with
    | some (.int .u8)=>match aL h n o l with
     | some cs=>(eY cs).map fun bs=>.string ⟨bs.toArray⟩
     | none=>none
    | _=>none
   | _=>none
  | _=>none
 | _=>none
theorem nA{P:Program}{B lo:Nat}{D:Nat→Prop}{m:NMap}{h:List Blk}{w:World}(hr:Rel B lo D m h w){src dst:TypeId}{x x' v:Value}(hx:VR D m x x')(hv:lS P src dst x h=some v):StepV P B lo D m h w (convert src dst x') v h:=by
 unfold lS at hv
 split at hv
 ·rename_i n o l c
  cases hx with
  | slice _ _ _ _ c' hD hlc hcc he =>
   split at hv
   ·rename_i hd
    split at hv
    ·rename_i e hs
     split at hv
     ·rename_i he
      split at hv
      ·rename_i cs hcs
       cases hb:eY cs with
       | none=>rw[hb] at hv;cases hv
       | some bs =>
        rw[hb] at hv
        obtain rfl:Value.string ⟨bs.toArray⟩=v:=by simpa using hv
        obtain⟨h1,h2⟩:=iX hb
        obtain⟨l',hvr,hk,hcl⟩:=aZ hr hD hcs
        have hlen:bs.length=l:=by omega
        subst hlen
        refine StepV.pure hr (run_convert_bytes_back (P:=P) w src dst e _ c' bs hs he hd fun j hj=>?_) (.string _)
        have h3:=h2 j hj
        obtain⟨v',h4,h5⟩:=hvr.at h3
        cases h5
        have:=hcl j _ h4
        rw[bU]
        exact this
      ·cases hv
     ·cases hv
    ·cases hv
   ·cases hv
 ·cases hv
def kS(P:Program)(src dst:TypeId)(x:Value)(h:List Blk):Option Value:=
 match x with
 | .pointer (some ⟨n,0,none⟩)=>match h[n]? with
  | some (.tcells t 0 (c0::c))=>match P.underlying src,P.underlying dst with
   | some (.pointer u),some .unsafePointer=>match P.info? u with
    | some j=>if j.size≠0 then some (.pointer (some ⟨n,0,none⟩)) else none
    | none=>none
   | some .unsafePointer,some (.pointer u)=>match P.info? u with
    | some _=>if liesAt P P.depth t ((c0::c).length/P.cellsOf t) 0 u 1=true then some (.pointer (some ⟨n,0,none⟩)) else none
    | none=>none
   | _,_=>none
  | _=>none
 | _=>none
theorem nN{P:Program}{B lo:Nat}{D:Nat→Prop}{m:NMap}{h:List Blk}{w:World}(hr:Rel B lo D m h w){src dst:TypeId}{x x' v:Value}(hx:VR D m x x')(hv:kS P src dst x h=some v):StepV P B lo D m h w (convert src dst x') v h:=by
 unfold kS at hv
 split at hv
 ·rename_i n
  cases hx
  rename_i hD
  split at hv
  ·rename_i t c0 c hb
   obtain⟨⟨a1,a2,k,a3,a4,a5⟩,_⟩:=hr.ok n _ hD hb
   obtain rfl:=a5 rfl
   split at hv
   ·rename_i u hs hd
    split at hv
    ·rename_i j hj
     split at hv
     ·rename_i hz
      obtain rfl:=a6 hv
      exact StepV.pure hr (run_to_unsafe (P:=P) w ⟨(m n).block,(m n).off+0,none⟩ hs hd hj hz a3 (by show (m n).off+0<_;rw[a2];simp)) (.ptr n 0 hD)
     ·cases hv
    ·cases hv
   ·rename_i u hs hd
    split at hv
    ·rename_i j hj
     split at hv
     ·rename_i hz
      obtain rfl:=a6 hv
      exact StepV.pure hr (run_from_unsafe (P:=P) w ⟨(m n).block,(m n).off+0,none⟩ hs hd hj a3 (by show liesAt P P.depth t _ ((m n).off+0) u 1=true;rw[a2];exact hz)) (.ptr n 0 hD)
     ·cases hv
    ·cases hv
   ·cases hv
  ·cases hv
 ·cases hv
def tT(P:Program)(src dst:TypeId)(x:Value)(h:List Blk):Option (Value×List Blk):=
 match gS P src dst x h with
 | some r=>some r
 | none=>match lS P src dst x h with
  | some v=>some (v,h)
  | none=>(kS P src dst x h).map fun v=>(v,h)
theorem tN{P:Program}{B lo:Nat}{D:Nat→Prop}{m:NMap}{h h':List Blk}{w:World}(hr:Rel B lo D m h w)(hlo:lo≤h.length){src dst:TypeId}{x x' v:Value}(hx:VR D m x x')(hv:tT P src dst x h=some (v,h')):StepV P B lo D m h w (convert src dst x') v h':=by
 unfold tT at hv
 split at hv
 ·rename_i r h1
  obtain rfl:=a6 hv
  exact mY hr hlo hx h1
 ·split at hv
  ·rename_i u hb
   obtain⟨rfl,rfl⟩:u=v∧h=h':=by simpa using hv
   exact nA hr hx hb
  ·cases hb:kS P src dst x h with
   | none=>rw[hb] at hv;cases hv
   | some u =>
    rw[hb] at hv
    obtain⟨rfl,rfl⟩:u=v∧h=h':=by simpa using hv
    exact nN hr hx hb
end
end Go.Rex
namespace Go.Rex
open Go.RowKit
theorem hK(w:World)(l:Nat)(o:Obj):(w.putObj l o).os=w.os∧(w.putObj l o).tape=w.tape∧(w.putObj l o).output=w.output∧(w.putObj l o).heap.size=w.heap.size∧∀ k,k≠l→(w.putObj l o).heap[k]?=w.heap[k]?:=
 ⟨rfl,rfl,rfl,by simp[World.putObj],fun k hk=>World.putObj_heap_other hk⟩
theorem Rel.put{B lo:Nat}{D:Nat→Prop}{m:NMap}{h:List Blk}{w:World}(hr:Rel B lo D m h w){n:Nat}{b:Blk}(hD:D n)(hl:lo≤n)(hn:h[n]?=some b)(hb:b ≠ .dead)(o:Obj)(b':Blk)
 (hok:BlkOk D m (w.putObj (m n).block o) n b') (hown:Owns m (w.putObj (m n).block o) n b'):Post B lo D m h w m (h.set n b') (w.putObj (m n).block o):=by
 obtain⟨s1,s2,s3,s4,s5⟩:=hK w (m n).block o
 exact hr.modify hD hl hn hb s1 s2 s3 s4 s5 b' hok hown
def fH(r:Value):Option Value:=if aP r=true then some r else none
theorem iK{r v:Value}(h:fH r=some v):r=v∧aP v=true:=by
 unfold fH at h
 split at h
 ·rename_i hc;obtain rfl:=a6 h;exact⟨rfl,hc⟩
 ·cases h
def cV(h:List Blk)(x:Value):Option (Array MapEntry):=
 match x with
 | .map none=>some #[]
 | .map (some n)=>match h[n]? with
  | some (.map es _)=>some es
  | _=>none
 | _=>none
def dB(P:Program)(t:TypeId)(x k:Value)(ok:Bool)(h:List Blk):Option Value:=
 match P.underlying t with
 | some (.map kt et) =>
  if aR k=true then
   match cV h x with
   | some es=>match prun P (Instr.checkKey es.isEmpty 10000 kt k) with
    | some _=>match prun P (Instr.findKey kt k es.toList) with
     | some (some (_,v))=>fH (if ok then .tuple #[v,.bool true] else v)
     | some none=>match P.info? et with
      | some i=>match i.zero with
       | some z=>fH (if ok then .tuple #[z,.bool false] else z)
       | none=>none
      | none=>none
     | none=>none
    | none=>none
   | none=>none
  else none
 | _=>none
theorem nB{B lo:Nat}{D:Nat→Prop}{m:NMap}{h:List Blk}{w:World}(hr:Rel B lo D m h w){x x':Value}{es:Array MapEntry}(hx:VR D m x x')(he:cV h x=some es):(x' = .map none∧es=#[])∨∃ r c,x' = .map (some r)∧w.heap[r]?=some (.map es c):=by
 unfold cV at he
 split at he
 ·obtain rfl:=a6 he
  cases hx
  exact .inl ⟨rfl,rfl⟩
 ·rename_i n
  split at he
  ·rename_i es' c hn
   obtain rfl:=a6 he
   cases hx
   rename_i hD
   exact .inr ⟨_,c,rfl,hr.ok n _ hD hn⟩
  ·cases he
 ·cases he
theorem pH{P:Program}{B lo:Nat}{D:Nat→Prop}{m:NMap}{h:List Blk}{w:World}(hr:Rel B lo D m h w){t:TypeId}{x x' k k':Value}{ok:Bool}{v:Value}(hx:VR D m x x')(hk:VR D m k k')(hv:dB P t x k ok h=some v) :
 (Instr.lookup t x' k' ok).run P w = .ok v w∧aP v=true:=by
 unfold dB at hv
 split at hv
 ·rename_i kt et hm
  split at hv
  ·rename_i hck
   obtain rfl:=hk.eq_fixed hck
   split at hv
   ·rename_i es hes
    have hform:=nB hr hx hes
    split at hv
    ·rename_i hchk
     have hchk:=cH hchk w
     split at hv
     ·rename_i i v0 hf
      have hf:=cH hf w
      obtain⟨rfl,hc⟩:=iK hv
      refine⟨?_,hc⟩
      rcases hform with⟨rfl,rfl⟩|⟨r,c,rfl,hb⟩
      ·simp[Instr.lookup,run_underlying hm] at hchk hf ⊢
       simp[hchk,hf,Result.andThen]
      ·simp[Instr.lookup,run_underlying hm,MapKept.run_getObj_map hb] at hchk hf ⊢
       simp[hchk,hf,Result.andThen]
     ·rename_i hf
      have hf:=cH hf w
      split at hv
      ·rename_i i hi
       split at hv
       ·rename_i z hz
        obtain⟨rfl,hc⟩:=iK hv
        refine⟨?_,hc⟩
        have hzr:(zeroValue et).run P w = .ok z w:=by simp[zeroValue,typeInfo,hi,hz]
        rcases hform with⟨rfl,rfl⟩|⟨r,c,rfl,hb⟩
        ·simp[Instr.lookup,run_underlying hm] at hchk hf ⊢
         simp[hchk,hf,hzr,Result.andThen]
        ·simp[Instr.lookup,run_underlying hm,MapKept.run_getObj_map hb] at hchk hf ⊢
         simp[hchk,hf,hzr,Result.andThen]
       ·cases hv
      ·cases hv
     ·cases hv
    ·cases hv
   ·cases hv
  ·cases hv
 ·cases hv
def bA(P:Program)(t:TypeId)(x k v:Value)(h:List Blk):Option (List Blk×Nat):=
 match P.underlying t with
 | some (.map kt _) =>
  if aR k=true∧aR v=true then
   match x with
   | .map (some n)=>match h[n]? with
    | some (.map es clock)=>match prun P (Instr.checkKey false 10000 kt k) with
     | some _=>match prun P (Instr.findKey kt k es.toList) with
      | some (some (i,_))=>match prun P (Instr.keyThatStays (((es[i]?).map (·.key)).getD k) k) with
       | some k2=>some (h.set n (.map (es.modify i fun e=>{ e with key:=k2,val:=v }) clock),n)
       | none=>none
      | some none=>some (h.set n (.map (es.push { key:=k,val:=v,born:=clock }) (clock+1)),n)
      | none=>none
     | none=>none
    | _=>none
   | _=>none
  else none
 | _=>none
theorem jL{P:Program}{B lo:Nat}{D:Nat→Prop}{m:NMap}{h h':List Blk}{w:World}(hr:Rel B lo D m h w){t:TypeId}{x x' k k' v v':Value}{n:Nat}(hx:VR D m x x')(hk:VR D m k k')(hvv:VR D m v v')(hv:bA P t x k v h=some (h',n))(hl:lo≤n) :
 ∃ w',(Instr.mapUpdate t x' k' v').run P w = .ok () w'∧Post B lo D m h w m h' w':=by
 unfold bA at hv
 split at hv
 ·rename_i kt et hm
  split at hv
  ·rename_i hc
   obtain⟨hck,hcl⟩:=hc
   obtain rfl:=hk.eq_fixed hck
   obtain rfl:=hvv.eq_fixed hcl
   split at hv
   ·rename_i n0
    split at hv
    ·rename_i es clock hn
     cases hx
     rename_i hD
     have hb:w.heap[(m n0).block]?=some (.map es clock):=hr.ok n0 _ hD hn
     have hlt:(m n0).block<w.heap.size:=(Array.getElem?_eq_some_iff.1 hb).1
     have hnew:∀ o:Obj,(w.putObj (m n0).block o).heap[(m n0).block]?=some o:=fun o=>by simp[World.putObj,hlt]
     split at hv
     ·rename_i hchk
      have hchk:=cH hchk w
      split at hv
      ·rename_i i v0 hf
       have hf:=cH hf w
       split at hv
       ·rename_i k2 hst
        have hst:=cH hst w
        obtain⟨rfl,rfl⟩:_=h'∧n0=n:=by simpa using hv
        refine⟨_,?_,hr.put hD hl hn (by simp) (.map (es.modify i fun e=>{ e with key:=k2,val:=v' }) clock) _ (hnew _) trivial⟩
        simp[Instr.mapUpdate,run_underlying hm,MapKept.run_getObj_map hb,hchk,hf,hst,MapKept.run_setObj_map _ hb,Result.andThen,World.putObj]
       ·cases hv
      ·rename_i hf
       have hf:=cH hf w
       obtain⟨rfl,rfl⟩:_=h'∧n0=n:=by simpa using hv
       refine⟨_,?_,hr.put hD hl hn (by simp) (.map (es.push { key:=k',val:=v',born:=clock }) (clock+1)) _ (hnew _) trivial⟩
       simp[Instr.mapUpdate,run_underlying hm,MapKept.run_getObj_map hb,hchk,hf,MapKept.run_setObj_map _ hb,Result.andThen,World.putObj]
      ·cases hv
     ·cases hv
    ·cases hv
   ·cases hv
  ·cases hv
 ·cases hv
theorem rG{P:Program}{B lo:Nat}{D:Nat→Prop}{m:NMap}{h:List Blk}{w:World}(hr:Rel B lo D m h w)(hlo:lo≤h.length)(t:TypeId) :
 StepV P B lo D m h w (Instr.makeMap t none) (.map (some h.length)) (h++[.map #[] 0]):=by
 have hp:Post B lo D m h w (upd m h.length ⟨w.heap.size,0,0,0⟩) (h++[.map #[] 0]) (w.alloc (.map #[] 0)):=
  hr.push _ _ _ rfl hlo (by show (w.alloc _).heap[_]?=_;rw[aA];exact World.alloc_heap_new w _) trivial
 refine⟨.map (some w.heap.size),w.alloc (.map #[] 0),_,by simp[Instr.makeMap,run_newObj_alloc],hp,?_⟩
 have:=VR.map (D:=Dx D h.length (h++[Blk.map #[] 0]).length) (m:=upd m h.length ⟨w.heap.size,0,0,0⟩) h.length (.inr (by simp))
 rwa [aA] at this
end Go.Rex
