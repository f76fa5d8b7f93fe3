/- An executor of the program's functions on trees of values,proved sound. -/
import Derived.Test.YtdlghpacmamnfaaRexG4
set_option linter.unusedSimpArgs false
set_option linter.unusedVariables false
set_option linter.defProp false
namespace Go.Rex
open Go.RowKit
theorem tH{P:Program}{B lo:Nat}{D:Nat→Prop}{m:NMap}{h h':List Blk}{w:World}(hr:Rel B lo D m h w){t:TypeId}{n o:Nat}{v v':Value}(hD:D n)(hl:lo≤n)(hw:dJ P t h n o v=some h')(hv:VR D m v v') :
 ∃ w',(storeVar t ⟨(m n).block,(m n).off+o,none⟩ v').run P w = .ok () w'∧Post B lo D m h w m h' w'∧Only (m n).block w w':=by
 unfold dJ at hw
 split at hw
 ·rename_i i hi
  split at hw
  ·rename_i hs
   obtain⟨h1,h2⟩:=dG (P:=P) hr hD hl hw (eB hv)
   have hs':v'.cells.size=i.size:=by
    have:=(eB hv).len
    simp only[Array.length_toList] at this
    omega
   refine⟨_,?_,h2,bT _ _ _⟩
   simp[storeVar,bD hi,hs',h1]
  ·cases hw
 ·cases hw
theorem kJ{P:Program}{B lo:Nat}{D:Nat→Prop}{m:NMap}{h h':List Blk}{w:World}(hr:Rel B lo D m h w){t:TypeId}{x x' k k' v v':Value}{n:Nat}(hx:VR D m x x')(hk:VR D m k k')(hvv:VR D m v v')(hv:bA P t x k v h=some (h',n))(hl:lo≤n) :
 ∃ w',(Instr.mapUpdate t x' k' v').run P w = .ok () w'∧Post B lo D m h w m h' w'∧Only (m n).block w w':=by
 unfold bA at hv
 split at hv
 ·rename_i kt et hm
  split at hv
  ·rename_i hc
   obtain⟨hck,hcl⟩:=hc
   obtain rfl:=hk.eq_fixed hck
   obtain rfl:=hvv.eq_fixed hcl
   split at hv
   ·rename_i n0
    split at hv
    ·rename_i es clock hn
     cases hx
     rename_i hD
     have hb:w.heap[(m n0).block]?=some (.map es clock):=hr.ok n0 _ hD hn
     have hlt:(m n0).block<w.heap.size:=(Array.getElem?_eq_some_iff.1 hb).1
     have hnew:∀ o:Obj,(w.putObj (m n0).block o).heap[(m n0).block]?=some o:=fun o=>by simp[World.putObj,hlt]
     split at hv
     ·rename_i hchk
      have hchk:=cH hchk w
      split at hv
      ·rename_i i v0 hf
       have hf:=cH hf w
       split at hv
       ·rename_i k2 hst
        have hst:=cH hst w
        obtain⟨rfl,rfl⟩:_=h'∧n0=n:=by simpa using hv
        refine⟨_,?_,hr.put hD hl hn (by simp) (.map (es.modify i fun e=>{ e with key:=k2,val:=v' }) clock) _ (hnew _) trivial,hK _ _ _⟩
        simp[Instr.mapUpdate,run_underlying hm,MapKept.run_getObj_map hb,hchk,hf,hst,MapKept.run_setObj_map _ hb,Result.andThen,World.putObj]
       ·cases hv
      ·rename_i hf
       have hf:=cH hf w
       obtain⟨rfl,rfl⟩:_=h'∧n0=n:=by simpa using hv
       refine⟨_,?_,hr.put hD hl hn (by simp) (.map (es.push { key:=k',val:=v',born:=clock }) (clock+1)) _ (hnew _) trivial,hK _ _ _⟩
       simp[Instr.mapUpdate,run_underlying hm,MapKept.run_getObj_map hb,hchk,hf,MapKept.run_setObj_map _ hb,Result.andThen,World.putObj]
      ·cases hv
     ·cases hv
    ·cases hv
   ·cases hv
  ·cases hv
 ·cases hv
theorem Bs{P:Program}{B lo:Nat}{D:Nat→Prop}{m:NMap}{h h':List Blk}{w:World}{ρ ρ':Operand→Value}{o:Oper}{v:Value}{w1:Option Nat}{n:Nat}(hr:Rel B lo D m h w)
 (hρ:∀ x∈o.op.operands,VR D m (ρ x) (ρ' x)) (ht:touch ρ o=some (.wr n)) (hv:hop P ρ o h=some (v,h',w1)) (hl:lo≤n) :
 ∃ w',(execOp ρ' o).run P w = .ok .skip w'∧Post B lo D m h w m h' w'∧Only (m n).block w w':=by
 obtain⟨dst,op,ty,pos,after,guard⟩:=o
 simp only[Op.operands] at hρ
 cases op<;>simp only[touch] at ht<;>simp only[hop] at hv
 case store t a x =>
  split at hv
  ·rename_i n0 o0 ha
   rw[ha] at ht
   obtain rfl:n0=n:=by simpa [aB] using ht
   cases hst:dJ P t h n0 o0 (ρ x) with
   | none=>rw[hst] at hv;cases hv
   | some h1 =>
    rw[hst] at hv
    obtain⟨rfl,rfl,rfl⟩:undef=v∧h1=h'∧some n0=w1:=by simpa using hv
    have h2:=hρ a (by simp)
    rw[ha] at h2
    obtain⟨hD,h3⟩:D n0∧ρ' a = .pointer (some ⟨(m n0).block,(m n0).off+o0,none⟩):=by
     generalize ρ' a=y at *
     cases h2;exact⟨by assumption,rfl⟩
    obtain⟨w',h4,h5,h6⟩:=tH (P:=P) hr hD hl hst (hρ x (by simp))
    refine⟨w',?_,h5,h6⟩
    simp only[execOp,Instr.storeAt,h3,Instr.sureAddr,Sem.run_bind,Sem.run_pure,Result.andThen_ok,h4]
  ·cases hv
 case mapUpdate t x k u =>
  cases hq:bA P t (ρ x) (ρ k) (ρ u) h with
  | none=>rw[hq] at hv;cases hv
  | some q =>
   obtain⟨h1,n0⟩:=q
   rw[hq] at hv
   obtain⟨rfl,rfl,rfl⟩:undef=v∧h1=h'∧some n0=w1:=by simpa using hv
   have hx:=(fF hq).1
   rw[hx] at ht
   obtain rfl:n0=n:=by simpa [aB] using ht
   obtain⟨w',h4,h5,h6⟩:=kJ (P:=P) hr (hρ x (by simp)) (hρ k (by simp)) (hρ u (by simp)) hq hl
   refine⟨w',?_,h5,h6⟩
   simp only[execOp,Sem.run_bind,h4,Result.andThen_ok,Sem.run_pure]
 case insert t x k u =>
  cases hq:bA P t (ρ x) (ρ k) (ρ u) h with
  | none=>rw[hq] at hv;cases hv
  | some q =>
   obtain⟨h1,n0⟩:=q
   rw[hq] at hv
   obtain⟨rfl,rfl,rfl⟩:undef=v∧h1=h'∧some n0=w1:=by simpa using hv
   have hx:=(fF hq).1
   rw[hx] at ht
   obtain rfl:n0=n:=by simpa [aB] using ht
   obtain⟨w',h4,h5,h6⟩:=kJ (P:=P) hr (hρ x (by simp)) (hρ k (by simp)) (hρ u (by simp)) hq hl
   refine⟨w',?_,h5,h6⟩
   simp only[execOp,Sem.run_bind,h4,Result.andThen_ok,Sem.run_pure]
 case load t a=>cases hp:aB (ρ a)<;>rw[hp] at ht<;>cases ht
 case slice t x lo hi mx=>cases hp:aB (ρ x)<;>rw[hp] at ht<;>cases ht
 case lookup t x k ok=>split at ht<;>cases ht
 case call c => exfalso; repeat' (split at ht)
                all_goals (cases ht;done)
 all_goals (cases ht;done)
def Touch(b:Nat)(w w':World):Prop:=Below 0 w w'∧∀ k,k<w.heap.size→k≠b→w'.heap[k]?=w.heap[k]?
theorem mK(b o:Nat)(vs:List Value)(w:World):Touch b w (w.setCells b o vs):=by
 obtain⟨h1,h2,h3,h4,h5⟩:=bT (b:=b) vs o w
 exact⟨⟨h1,h2,h3,by omega,fun k hk=>by omega⟩,fun k _ hk=>h5 k hk⟩
theorem wT(b:Nat)(x:Obj)(w:World):Touch b w (w.drew.alloc x):=by
 have h:=((Below.refl w.heap.size w).drew).alloc (a9 _) x
 exact⟨h.mono (f0 _),fun k hk _=>h.block k hk⟩
theorem qN{h h':List Blk}{n o:Nat}{vs:List Value}(hw:aS h n o vs=some h'):h'.length=h.length:=by
 unfold aS at hw
 split at hw
 ·split at hw
  ·obtain rfl:=a6 hw;simp
  ·cases hw
 ·split at hw
  ·obtain rfl:=a6 hw;simp
  ·cases hw
 ·cases hw
theorem Af{P:Program}{B lo:Nat}{D:Nat→Prop}{m:NMap}{h h':List Blk}{w:World}(hr:Rel B lo D m h w)(hlo:lo≤h.length){argTypes:Array TypeId}{ty:TypeId}{nm o len c:Nat}{x s' x' v:Value}{wr:Option Nat}
 (hs:VR D m (.slice (some ⟨nm,o,none⟩) len c) s') (hx:VR D m x x') (hv:cQ P argTypes (.slice (some ⟨nm,o,none⟩) len c) x h=some (v,h',wr)) (hw:WrOk lo wr) (hw1:wr=some nm) :
 ∃ v' w' m',(Builtin.append_ argTypes ty #[s',x']).run P w = .ok v' w'∧Post B lo D m h w m' h' w'∧VR (Dx D h.length h'.length) m' v v'∧Touch (m nm).block w w'∧∀ k,h.length≤k→k<h'.length→(m' k).block=(m nm).block∨w.heap.size≤(m' k).block:=by
 unfold cQ at hv
 split at hv
 ·cases hv
 rename_i st h0
 split at hv
 ·rename_i e hu
  split at hv
  ·cases hv
  rename_i i hi
  split at hv
  ·rename_i hn
   split at hv
   ·cases hv
   rename_i n new hsrc
   obtain⟨new',hl,hc,hnv⟩:=bG (P:=P) hr hx hsrc
   simp only at hv
   cases hs with
   | slice _ _ _ _ c' hD hlc hcc he =>
    split at hv
    ·exfalso
     split at hv
     ·obtain⟨rfl,rfl,rfl⟩:_=v∧h=h'∧none=wr:=by simpa using hv
      cases hw1
     ·cases hv
    ·rename_i hn0
     split at hv
     ·
      rename_i hroom
      cases hwb:aS h nm (o+len*i.size) new with
      | none=>rw[hwb] at hv;cases hv
      | some h1 =>
       rw[hwb] at hv
       obtain⟨rfl,rfl,rfl⟩:_=v∧h1=h'∧some nm=wr:=by simpa using hv
       obtain⟨hst,hp⟩:=dG (P:=P) hr hD (hw nm rfl) hwb hnv
       refine⟨_,_,m,bF h0 hu hi hn hl hc (by omega) ?_,hp,?_,mK _ _ _ _,fun k h1 h2=>by have:=qN hwb;omega⟩
       ·simp only[bU]
        rw[e7]
        exact hst
       ·exact hp.vr (.slice _ _ _ _ _ hD hroom hcc he)
     ·
      rename_i hroom
      split at hv
      ·rename_i es cs hb
       split at hv
       ·rename_i hcond
        obtain⟨rfl,htop,hnl,hone,hsm,hby,hz0⟩:=hcond
        obtain⟨rfl,rfl,rfl⟩:_=v∧_=h'∧some nm=wr:=by simpa using hv
        have hlnm:lo≤nm:=hw nm rfl
        obtain⟨z,hz,hzs⟩:∃ z,i.zero=some z∧z.cells.size=i.size:=by
         cases hz:i.zero with
         | none=>rw[hz] at hz0;cases hz0
         | some z=>rw[hz] at hz0;exact⟨z,rfl,by simpa using hz0⟩
        have hes:(m nm).es=i.size:=(hr.ok nm _ hD hb).1
        have hext:=(hr.own nm _ hD hlnm hb).1
        rw[hes] at he
        by_cases hin:len+n≤c'
        ·
         have hfit:cs.length+new.length≤(m nm).ext:=by
          rcases he with (h00|h00)|he
          ·rw[hnl,h00];simpa using hext
          ·omega
          ·rw[← htop,hnl,e7,← Nat.add_mul]
           exact e6 (Nat.add_le_add_left (g0 _ hin) _) he
         have hp1:=hr.extend hD hlnm hb hfit hnv
         have hlt:=hr.dom nm hD
         have hst:(storeCells ⟨(m nm).block,(m nm).off+cs.length,none⟩ new').run P w = .ok () (w.setCells (m nm).block ((m nm).off+cs.length) new'):=by
          have hown:=hr.own nm _ hD hlnm hb
          have hx':∀ j,j<new'.length→(∃ u,w.cell? ⟨(m nm).block,(m nm).off+cs.length+j,none⟩=some u)∧w.frozen? ⟨(m nm).block,(m nm).off+cs.length+j,none⟩=false:=fun j hj=>by
           rw[hnv.len] at hj
           rw[e7]
           exact hown.2 (cs.length+j) (by omega)
          have:=run_storeCells_cells (P:=P) (m nm).block ((m nm).off+cs.length) new' 0 w (fun j hj=>by obtain⟨u,hu⟩:=(hx' j hj).1;simp[hu]) (fun j hj=>by simpa using (hx' j hj).2) (fun x hx=>by
           obtain⟨k,hk⟩:=i4.1 hx
           have hlt:k<new.length:=by have:=(a7.1 hk).1;rw[hnv.len] at this;exact this
           exact fT (hnv.at' k _ _ (b5 hlt) hk) (by simpa using (a8.1 hone) _ (List.getElem_mem hlt)))
          simpa using this
         have hrel:=hp1.rel
         rw[show (h.set nm (.cells i.size (cs++new))).length=h.length by simp,Dx.refl] at hrel
         have hp2:=hrel.move (by simpa using hlo) hD hlnm (d8 hlt) o (by omega)
         have hp:=hp1.trans (by rw[show (h.set nm (.cells i.size (cs++new))).length=h.length by simp,Dx.refl];exact hp2)
         rw[show (h.set nm (.cells i.size (cs++new))).length=h.length by simp] at hp
         have e1:((h.set nm (.cells i.size (cs++new))).set nm .dead++[Blk.cells i.size ((cs++new).drop o)])=h.set nm .dead++[Blk.cells i.size (cs.drop o++new)]:=by
          rw[List.set_set,List.drop_append_of_le_length (by omega)]
         rw[e1] at hp
         refine⟨_,_,_,bF h0 hu hi hn hl hc hin ?_,hp,?_,mK _ _ _ _,fun k h1 h2=>.inl ?_⟩
         ·simp only[bU]
          rw[e7,htop]
          exact hst
         ·exact slice_vr' (D := D) (h := h) (h' := h.set nm .dead ++ [Blk.cells i.size (cs.drop o ++ new)]) (m := m) (i := ⟨(m nm).block, (m nm).off + o, (m nm).ext - o, i.size⟩) (l := len + n) (c := len + n) (c' := c') (by simp) (a9 _) hin (by
            show c'*i.size≤(m nm).ext-o
            rcases he with (h00|h00)|he
            ·rw[h00];simp
            ·omega
            ·omega)
         ·have hk:k=h.length:=by simp at h2;omega
          subst hk
          rw[aA]
        ·
         have hrd:=hr.frame (w':=w.drew) ((Below.refl _ _).drew)
         obtain⟨new2,hl2,hc2,hnv2⟩:=bG (P:=P) hrd hx hsrc
         have hread:aL h nm o (len*i.size)=some (cs.drop o):=by
          unfold aL
          rw[hb]
          simp only[]
          rw[b8 (by omega),f9 (by simp;omega)]
         obtain⟨old',hov,hok,hoc⟩:=aZ hrd hD hread
         obtain⟨cap,hcap,hrun⟩:=dZ (ty:=ty) (base:=some ⟨(m nm).block,(m nm).off+o,none⟩) (len:=len) (cap:=c') h0 hu hi hn hl hc2 hin hby hsm (old:=old') (cB hoc _ (hov.len.trans hok)) hz
         have hk:=Post.kill hrd nm
         have hrk:=hrd.kill nm
         have hp:=(Post.frame hr (w':=w.drew) ((Below.refl _ _).drew)).trans (by rw[Dx.refl];exact hk)
         have hp:=hp.trans (by
          rw[show (h.set nm Blk.dead).length=h.length by simp,Dx.refl]
          exact hrk.pushRoom (by simpa using hlo) i.size (hov.append hnv2) (Builtin.zeroCells z.cells (cap-(len+n))).toList e)
         refine⟨_,_,_,hrun,hp,?_,wT _ _ _,fun k h1 h2=>.inr ?_⟩
         rw[show (h.set nm Blk.dead).length=h.length by simp]
         have hd:(cs.drop o).length=len*i.size:=by simp;omega
         exact slice_vr' (D:=D) (h:=h) (h':=h.set nm .dead++[Blk.cells i.size (cs.drop o++new)]) (m:=m) (i:=⟨w.drew.heap.size,0,(cs.drop o++new).length+(Builtin.zeroCells z.cells (cap-(len+n))).toList.length,i.size⟩) (l:=len+n) (c:=len+n) (c':=cap) (by simp) (a9 _) hcap (by
          rw[cJ,hzs,i5,hd,hnl]
          show cap*i.size≤len*i.size+n*i.size+(cap-(len+n))*i.size
          rw[← Nat.add_mul,← Nat.add_mul]
          exact g0 _ (by omega))
         ·have hk:k=h.length:=by simp at h2;omega
          subst hk
          rw[show (h.set nm Blk.dead).length=h.length by simp,aA]
          exact a9 _
       ·cases hv
      ·cases hv
  ·simp[fX] at hv
 ·cases hv
theorem Bn{P:Program}{B lo:Nat}{D:Nat→Prop}{m:NMap}{h h':List Blk}{w:World}{ρ ρ':Operand→Value}{o:Oper}{v:Value}{w1:Option Nat}{n n2:Nat}(hr:Rel B lo D m h w)(hlo:lo≤h.length)
 (hρ:∀ x∈o.op.operands,VR D m (ρ x) (ρ' x)) (ht:touch ρ o=some (.ap n n2)) (hv:hop P ρ o h=some (v,h',w1)) (hl:lo≤n) :
 ∃ v' w' m',(execOp ρ' o).run P w = .ok (.value v') w'∧Post B lo D m h w m' h' w'∧VR (Dx D h.length h'.length) m' v v'∧Touch (m n).block w w'∧∀ k,h.length≤k→k<h'.length→(m' k).block=(m n).block∨w.heap.size≤(m' k).block:=by
 obtain⟨rfl,_,_,_,x,y,argTypes,dst,ty,pos,after,guard,rfl,hpx,_⟩:=qF ht hv
 obtain⟨off,len,cap,hx,a2,l2,c2,hy⟩:∃ off len cap,ρ x = .slice (some ⟨n,off,none⟩) len cap∧∃ a2 l2 c2,ρ y = .slice a2 l2 c2:=by
  simp only[touch,if_true] at ht
  split at ht
  ·split at ht
   ·cases ht
   ·rename_i n' o' len cap hx'
    split at ht
    ·cases ht
    ·obtain⟨rfl,_⟩:n'=n∧_:=by simpa using ht
     exact⟨_,_,_,hx',_,_,_,by assumption⟩
   ·cases ht
  ·cases ht
 simp only[hop,bhop,if_true] at hv
 rw[hx] at hv
 rw[hy,jV,← hy] at hv
 have h1:=hρ x (by simp[Op.operands,Call.operands])
 rw[hx] at h1
 obtain⟨v',w',m',r1,r2⟩:=Af (ty:=ty) hr hlo h1 (hρ y (by simp[Op.operands,Call.operands])) hv (fun k hk=>by cases hk;exact hl) rfl
 refine⟨v',w',m',?_,r2⟩
 have ee:execOp ρ' { dst:=dst,op:=.call { callee:=.builtin .append,args:=#[x,y],argTypes:=argTypes },type:=ty,pos:=pos,after:=after,guard:=guard }=(do pure (.value (← Builtin.append_ argTypes ty #[ρ' x,ρ' y]))):=by
  simp only[execOp,resolve,invoke,List.map_toArray,List.map_cons,List.map_nil]
  rfl
 rw[ee]
 simp only[Sem.run_bind,r1,Result.andThen_ok,Sem.run_pure]
def lone(N n:Nat)(x:Blk):List Blk:=(List.replicate N Blk.dead).set n x
theorem bH(N n:Nat)(x:Blk):(lone N n x).length=N:=by simp[lone]
theorem rR{N n:Nat}{x:Blk}(h:n<N):(lone N n x)[n]?=some x:=by
 unfold lone;rw[d8 (by simpa using h)]
theorem dF{N n k:Nat}{x y:Blk}(h:(lone N n x)[k]?=some y):(k=n∧y=x)∨y = .dead:=by
 unfold lone at h
 rw[g9] at h
 split at h
 ·split at h
  ·exact .inl ⟨by omega,(a6 h).symm⟩
  ·cases h
 ·rw[List.getElem?_replicate] at h
  split at h
  ·exact .inr (a6 h).symm
  ·cases h
theorem Rel.lone{D:Nat→Prop}{m:NMap}{w:World}{N n:Nat}{x:Blk}(hgl:Gl w.heap.size D m w)(hd:∀ k,D k→k<N)(hok:BlkOk D m w n x)(hlt:x ≠ .dead→(m n).block<w.heap.size):Rel w.heap.size N D m (lone N n x) w:=by
 refine⟨a9 _,fun k hk=>by rw[bH];exact hd k hk,?_,?_,?_,?_,?_,?_,hgl⟩
 ·intro k y hk hy
  rcases dF hy with⟨rfl,rfl⟩|rfl
  ·exact hok
  ·trivial
 ·intro k y hk hy hyd
  rcases dF hy with⟨rfl,rfl⟩|rfl
  ·exact hlt hyd
  ·exact absurd rfl hyd
 ·intro k y hk hl;have:=hd k hk;omega
 ·intro k y hk hl hy hyd
  rcases dF hy with⟨rfl,rfl⟩|rfl
  ·exact hlt hyd
  ·exact absurd rfl hyd
 ·intro k y hk hl;have:=hd k hk;omega
 ·intro k k' y y' hk hk' hl;have:=hd k hk;omega
theorem Rel.loneW{B lo:Nat}{D:Nat→Prop}{m:NMap}{w:World}{N n:Nat}{x:Blk}(hgl:Gl B D m w)(hB:B≤w.heap.size)(hd:∀ k,D k→k<N)(hok:BlkOk D m w n x)(hlt:x ≠ .dead→(m n).block<w.heap.size)(hlo:lo≤n)(hbase:x ≠ .dead→B≤(m n).block)(hown:Owns m w n x):Rel B lo D m (Rex.lone N n x) w:=by
 refine⟨hB,fun k hk=>by rw[bH];exact hd k hk,?_,?_,?_,?_,?_,?_,hgl⟩
 ·intro k y hk hy
  rcases dF hy with⟨rfl,rfl⟩|rfl
  ·exact hok
  ·trivial
 ·intro k y hk hy hyd
  rcases dF hy with⟨rfl,rfl⟩|rfl
  ·exact hlt hyd
  ·exact absurd rfl hyd
 ·intro k y hk hl hy hyd
  rcases dF hy with⟨rfl,rfl⟩|rfl
  ·exact hbase hyd
  ·exact absurd rfl hyd
 ·intro k y hk hl hy hyd
  rcases dF hy with⟨rfl,rfl⟩|rfl
  ·omega
  ·exact absurd rfl hyd
 ·intro k y hk hl hy
  rcases dF hy with⟨rfl,rfl⟩|rfl
  ·exact hown
  ·trivial
 ·intro k k' y y' hk hk' hl hl' hy hy' hyd hyd' he
  rcases dF hy with⟨rfl,rfl⟩|rfl
  ·rcases dF hy' with⟨rfl,rfl⟩|rfl
   ·rfl
   ·exact absurd rfl hyd'
  ·exact absurd rfl hyd
def iF(N n:Nat)(x:Blk)(n2:Nat)(x2:Blk):List Blk:=(lone N n x).set n2 x2
theorem dV(N n:Nat)(x:Blk)(n2:Nat)(x2:Blk):(iF N n x n2 x2).length=N:=by simp[iF,bH]
theorem zR{N n n2:Nat}{x x2:Blk}(h:n<N)(hne:n≠n2):(iF N n x n2 x2)[n]?=some x:=by
 unfold iF;rw[d6 (Ne.symm hne)];exact rR h
theorem xT{N n n2:Nat}{x x2:Blk}(h:n2<N):(iF N n x n2 x2)[n2]?=some x2:=by
 unfold iF;rw[d8 (by rw[bH];exact h)]
theorem gN{N n n2 k:Nat}{x x2 y:Blk}(h:(iF N n x n2 x2)[k]?=some y):(k=n∧y=x)∨(k=n2∧y=x2)∨y = .dead:=by
 unfold iF at h
 rw[g9] at h
 split at h
 ·split at h
  ·exact .inr (.inl ⟨by omega,(a6 h).symm⟩)
  ·cases h
 ·rcases dF h with h|h
  ·exact .inl h
  ·exact .inr (.inr h)
inductive KdP (C:Ctx) (P:Program) (ops:Array Oper) (m i:Nat) (o:Oper) (s s':Dr) (v:Value) (k:Nat):Prop
 | skip (kk:k=0) (vv:v=undef) (hw:Region.wanted o (yielded ops ⟨s.tm⟩)=false) (hs:s'={ s with tm:=aN s.tm o.dst v }):KdP C P ops m i o s s' v k
 | pure (kk:k=0) (hw:Region.wanted o (yielded ops ⟨s.tm⟩)=true) (hp:pop P (ev s.tm) o=some v) (hs:s'={ s with tm:=aN s.tm o.dst v }):KdP C P ops m i o s s' v k
 | tame (kk : k = 1) (h1 : List Blk) (w1 : Option Nat) (hw : Region.wanted o (yielded ops ⟨s.tm⟩) = true) (hx : xop C P (ev s.tm) o s.h = some (v, h1, w1)) (hc : s.chain = false) (hg : wge w1 s.h.length = true)
     (hs:s'={ tm:=aN s.tm o.dst v,h:=s.h++h1.drop s.h.length,np:=i::s.np,chain:=false,wr:=s.wr }) (hl:s.h.length≤h1.length∨s'.h=s.h):KdP C P ops m i o s s' v k
 | chain (kk : k = 2) (h1 : List Blk) (w1 : Option Nat) (hw : Region.wanted o (yielded ops ⟨s.tm⟩) = true) (hx : xop C P (ev s.tm) o s.h = some (v, h1, w1)) (hn : s.np.all (fun j => m.testBit j) = true) (hl : s.h.length ≤ h1.length)
     (hs:s'={ tm:=aN s.tm o.dst v,h:=h1,np:=i::s.np,chain:=true,wr:=wmin s.wr w1 }):KdP C P ops m i o s s' v k
theorem sW{C:Ctx}{P:Program}{ops:Array Oper}{m i:Nat}{o:Oper}{s s':Dr}(h:bP C P ops m i o s=some s'):∃ v k,KdP C P ops m i o s s' v k:=by
 unfold bP at h
 split at h
 ·rename_i hw
  split at h
  ·rename_i v hp
   exact⟨v,0,.pure rfl hw hp (a6 h).symm⟩
  ·unfold fA at h
   split at h
   ·rename_i v h1 w1 hx
    split at h
    ·rename_i hc
     split at h
     ·rename_i he
      refine⟨v,1,.tame rfl h1 w1 hw hx hc.1 hc.2 ?_ (.inl (by omega))⟩
      rw[← a6 h,List.drop_of_length_le (by omega)]
      simp
     ·refine⟨v,1,.tame rfl h1 w1 hw hx hc.1 hc.2 (a6 h).symm ?_⟩
      rcases d4 h1.length s.h.length with hl|hl
      ·right
       rw[← a6 h]
       simp only
       rw[List.drop_of_length_le (by omega)]
       simp
      ·exact .inl hl
    ·split at h
     ·rename_i hn
      exact⟨v,2,.chain rfl h1 w1 hw hx hn.1 hn.2 (a6 h).symm⟩
     ·cases h
   ·cases h
 ·rename_i hw
  exact⟨undef,0,.skip rfl rfl (by simpa using hw) (a6 h).symm⟩
theorem jR{C:Ctx}{P:Program}{ops:Array Oper}{ms:List Nat}:∀(l:List Oper) (k:Nat) (s s':Dr),aV C P ops ms l k s=some s' →
 ∃ St:Nat→Dr,St 0=s∧(∀ j o,l[j]?=some o→bP C P ops (aC ms (k+j)) (k+j) o (St j)=some (St (j+1)))∧∀ j,l.length≤j→St j=s'
 | [],k,s,s',h=>by
  obtain rfl:s=s':=by simpa [aV] using h
  exact⟨fun _=>s,rfl,fun j o h=>by simp at h,fun _ _=>rfl⟩
 | o::l,k,s,s',h=>by
  simp only[aV] at h
  split at h
  ·rename_i s1 h1
   obtain⟨St,h2,h3,h4⟩:=jR l (k+1) s1 s' h
   refine⟨fun j=>match j with|0=>s|j+1=>St j,rfl,fun j o' hj=>?_,fun j hj=>?_⟩
   ·cases j with
    | zero=>simp at hj;subst hj;simpa [h2] using h1
    | succ j =>
     have:=h3 j o' (by simpa using hj)
     rwa [show k+(j+1)=k+1+j by omega]
   ·cases j with
    | zero=>simp at hj
    | succ j=>exact h4 j (by simpa using hj)
  ·cases h
structure Trace(C:Ctx)(P:Program)(ops:Array Oper)(ms:List Nat)(tm0:List Value)(h0:List Blk) where
 St:Nat→Dr
 V:Nat→Value
 kd:Nat→Nat
 st0:St 0=⟨tm0,h0,[],false,none⟩
 kdp:∀(i:Nat) (o:Oper),ops[i]?=some o→KdP C P ops (aC ms i) i o (St i) (St (i+1)) (V i) (kd i)
theorem oP{C:Ctx}{P:Program}{ops:Array Oper}{ms:List Nat}{tm0:List Value}{h0:List Blk}{s':Dr}(h:aV C P ops ms ops.toList 0 ⟨tm0,h0,[],false,none⟩=some s') :
 ∃ T:Trace C P ops ms tm0 h0,T.St ops.size=s':=by
 obtain⟨St,h1,h2,h3⟩:=jR _ _ _ _ h
 have hk:∀ i,∃ v k,∀ o,ops[i]?=some o→KdP C P ops (aC ms i) i o (St i) (St (i+1)) v k:=by
  intro i
  cases ho:ops[i]? with
  | none=>exact⟨undef,0,fun o h=>by cases h⟩
  | some o =>
   have:=h2 i o (by simpa using ho)
   rw[g6] at this
   obtain⟨v,k,hv⟩:=sW this
   exact⟨v,k,fun o' ho'=>by cases ho';exact hv⟩
 obtain⟨V,hV⟩:=Classical.skolem.1 hk
 obtain⟨kd,hkd⟩:=Classical.skolem.1 hV
 exact⟨⟨St,V,kd,h1,hkd⟩,h3 _ (by simp)⟩
section
variable {C:Ctx} {P:Program} {ops:Array Oper} {ms:List Nat} {tm0:List Value} {h0:List Blk} (T:Trace C P ops ms tm0 h0)
abbrev Trace.ln(i:Nat):Nat:=(T.St i).h.length
theorem Trace.ln_succ{i:Nat}{o:Oper}(ho:ops[i]?=some o):T.ln i≤T.ln (i+1):=by
 unfold Trace.ln
 cases T.kdp i o ho with
 | skip kk vv hw hs=>rw[hs];exact a9 _
 | pure kk hw hp hs=>rw[hs];exact a9 _
 | tame kk h1 w1 hw hx hc hg hs hl=>rw[hs];simp
 | chain kk h1 w1 hw hx hn hl hs=>rw[hs];exact hl
theorem Trace.ln_mono{i j:Nat}(h:i≤j)(hj:j≤ops.size):T.ln i≤T.ln j:=by
 induction j with
 | zero => obtain rfl : i = 0 := by omega
           exact a9 _
 | succ j ih =>
  rcases d4 j i with h'|h'
  ·obtain rfl:i=j+1:=by omega
   exact a9 _
  ·exact e6 (ih h' (by omega)) (T.ln_succ (c9 (by omega)))
theorem Trace.quiet{i:Nat}{o:Oper}(ho:ops[i]?=some o)(hk:T.kd i=0):(T.St (i+1)).h=(T.St i).h:=by
 cases T.kdp i o ho with
 | skip kk vv hw hs=>rw[hs]
 | pure kk hw hp hs=>rw[hs]
 | tame kk=>omega
 | chain kk=>omega
theorem Trace.tm_succ{i:Nat}{o:Oper}(ho:ops[i]?=some o):(T.St (i+1)).tm=aN (T.St i).tm o.dst (T.V i):=by
 cases T.kdp i o ho with
 | skip kk vv hw hs=>rw[hs]
 | pure kk hw hp hs=>rw[hs]
 | tame kk h1 w1 hw hx hc hg hs hl=>rw[hs]
 | chain kk h1 w1 hw hx hn hl hs=>rw[hs]
theorem Trace.wr_succ{i:Nat}{o:Oper}(ho:ops[i]?=some o){lo:Nat}(hw:WrOk lo (T.St (i+1)).wr):WrOk lo (T.St i).wr:=by
 cases T.kdp i o ho with
 | skip kk vv hw' hs=>rw[hs] at hw;exact hw
 | pure kk hw' hp hs=>rw[hs] at hw;exact hw
 | tame kk h1 w1 hw' hx hc hg hs hl=>rw[hs] at hw;exact hw
 | chain kk h1 w1 hw' hx hn hl hs=>rw[hs] at hw;exact hw.min.1
theorem Trace.wr_le{lo:Nat}{i j:Nat}(h:i≤j)(hj:j≤ops.size)(hw:WrOk lo (T.St j).wr):WrOk lo (T.St i).wr:=by
 induction j with
 | zero => obtain rfl : i = 0 := by omega
           exact hw
 | succ j ih =>
  rcases d4 j i with h'|h'
  ·obtain rfl:i=j+1:=by omega
   exact hw
  ·exact ih h' (by omega) (T.wr_succ (c9 (by omega)) hw)
theorem Trace.chain_on{i j:Nat}(hij:j<i)(hi:i≤ops.size)(hk:T.kd j=2):(T.St i).chain=true:=by
 induction i with
 | zero=>omega
 | succ i ih =>
  have ho:ops[i]?=some ops[i]:=c9 (by omega)
  have hkp:=T.kdp i _ ho
  rcases d4 j i with h'|h'
  ·have hc:=ih h' (by omega)
   cases hkp with
   | skip kk vv hw hs=>rw[hs];exact hc
   | pure kk hw hp hs=>rw[hs];exact hc
   | tame kk h1 w1 hw hx hc' hg hs hl=>rw[hc] at hc';cases hc'
   | chain kk h1 w1 hw hx hn hl hs=>rw[hs]
  ·obtain rfl:j=i:=by omega
   cases hkp with
   | skip kk=>omega
   | pure kk=>omega
   | tame kk=>omega
   | chain kk h1 w1 hw hx hn hl hs=>rw[hs]
theorem Trace.tame_first{i j:Nat}(hi:i<ops.size)(hk:T.kd i=1)(hj:T.kd j=2):i<j:=by
 rcases d4 i j with h|h
 ·exact h
 ·have hkp:=T.kdp i ops[i] (c9 hi)
  have hne:j≠i:=fun e=>by rw[e] at hj;omega
  have hc:=T.chain_on (i:=i) (j:=j) (by omega) (by omega) hj
  cases hkp with
  | skip kk=>omega
  | pure kk=>omega
  | chain kk=>omega
  | tame kk h1 w1 hw hx hc' hg hs hl=>rw[hc] at hc';cases hc'
theorem Trace.np_mem{i j:Nat}(hij:j<i)(hi:i≤ops.size)(hk:T.kd j≠0):j∈(T.St i).np:=by
 induction i with
 | zero=>omega
 | succ i ih =>
  have ho:ops[i]?=some ops[i]:=c9 (by omega)
  rcases d4 j i with h'|h'
  ·have hm:=ih h' (by omega)
   cases T.kdp i _ ho with
   | skip kk vv hw hs=>rw[hs];exact hm
   | pure kk hw hp hs=>rw[hs];exact hm
   | tame kk h1 w1 hw hx hc' hg hs hl=>rw[hs];exact g8 _ hm
   | chain kk h1 w1 hw hx hn hl hs=>rw[hs];exact g8 _ hm
  ·obtain rfl:j=i:=by omega
   cases T.kdp j _ ho with
   | skip kk=>omega
   | pure kk=>omega
   | tame kk h1 w1 hw hx hc' hg hs hl=>rw[hs];exact List.mem_cons_self
   | chain kk h1 w1 hw hx hn hl hs=>rw[hs];exact List.mem_cons_self
theorem Trace.chain_waits{i j:Nat}(hij:j<i)(hi:i<ops.size)(hk:T.kd i=2)(hj:T.kd j≠0):(aC ms i).testBit j=true:=by
 cases T.kdp i _ (c9 hi) with
 | skip kk=>omega
 | pure kk=>omega
 | tame kk=>omega
 | chain kk h1 w1 hw hx hn hl hs=>simpa using a8.1 hn j (T.np_mem hij (by omega) hj)
theorem Trace.kd_le{i:Nat}(hi:i<ops.size):T.kd i=0∨T.kd i=1∨T.kd i=2:=by
 cases T.kdp i _ (c9 hi)<;>omega
theorem Trace.front{i j:Nat}(hij:i≤j)(hj:j≤ops.size)(hc:∀ k,i≤k→k<j→T.kd k≠2){n:Nat}(hn:n<T.ln i):(T.St j).h[n]?=(T.St i).h[n]?:=by
 induction j with
 | zero => obtain rfl : i = 0 := by omega
           rfl
 | succ j ih =>
  rcases d4 j i with h'|h'
  ·obtain rfl:i=j+1:=by omega
   rfl
  ·have hm:=ih h' (by omega) (fun k h1 h2=>hc k h1 (by omega))
   have hln:T.ln i≤T.ln j:=T.ln_mono h' (by omega)
   have ho:ops[j]?=some ops[j]:=c9 (by omega)
   rw[← hm]
   have hne:T.kd j≠2:=hc j h' (by omega)
   cases T.kdp j _ ho with
   | skip kk vv hw hs=>rw[hs]
   | pure kk hw hp hs=>rw[hs]
   | tame kk h1 w1 hw hx hc' hg hs hl=>rw[hs];exact b4 (by unfold Trace.ln at *;omega)
   | chain kk=>omega
theorem sY(tm:List Value)(d:Option Tmp)(v:Value):(aN tm d v).length=tm.length:=by cases d<;>simp[aN]
theorem Trace.tm_len{i:Nat}(hi:i≤ops.size):(T.St i).tm.length=tm0.length:=by
 induction i with
 | zero=>rw[T.st0]
 | succ i ih=>rw[T.tm_succ (c9 (show i<ops.size by omega)),sY,ih (by omega)]
theorem Trace.tm_old{i t:Nat}(hi:i≤ops.size)(h:∀ k o,k<i→ops[k]?=some o→o.dst≠some t):(T.St i).tm[t]?=tm0[t]?:=by
 induction i with
 | zero=>rw[T.st0]
 | succ i ih =>
  have ho:ops[i]?=some ops[i]:=c9 (by omega)
  rw[T.tm_succ ho,← ih (by omega) (fun k o hk=>h k o (by omega))]
  have:=h i _ (by omega) ho
  cases hd:(ops[i]'(by omega)).dst with
  | none=>rfl
  | some d =>
   simp only[aN]
   rw[d6]
   intro e
   subst e
   exact this hd
theorem Trace.tm_new(F:RegF ops ms){i j t:Nat}{p:Oper}(hji:j<i)(hi:i≤ops.size)(hp:ops[j]?=some p)(hd:p.dst=some t)(ht:t<tm0.length):(T.St i).tm[t]?=some (T.V j):=by
 induction i with
 | zero=>omega
 | succ i ih =>
  have ho:ops[i]?=some ops[i]:=c9 (by omega)
  rw[T.tm_succ ho]
  have hlen:=T.tm_len (i:=i) (by omega)
  rcases d4 j i with h'|h'
  ·have:=ih h' (by omega)
   cases hdi:(ops[i]'(by omega)).dst with
   | none=>exact this
   | some d =>
    simp only[aN]
    rw[d6]
    ·exact this
    ·intro e
     subst e
     have:=F.uniq i j _ p _ ho hp hdi hd
     omega
  ·obtain rfl:j=i:=by omega
   rw[ho] at hp
   obtain rfl:=a6 hp
   rw[hd]
   simp only[aN]
   rw[d8 (by omega)]
end
end Go.Rex
namespace Go.Rex.Free
open Go.RowKit
inductive Kd
 | q
 | mk
 | all
 | ch
 | rd (n:Nat)
 | wr (n:Nat)
 | ap (n n2:Nat)
def fU:Kd→Tk
 | .q=>.mk
 | .mk=>.mk
 | .all=>.all
 | .ch=>.all
 | .rd n=>.rd n
 | .wr n=>.wr n
 | .ap n n2=>.ap n n2
def wrK:Kd→Option Nat
 | .wr n=>some n
 | .ap n _=>some n
 | _=>none
theorem Bp(k:Kd):wrT (fU k)=wrK k:=by cases k<;>rfl
inductive KP (C:Ctx) (P:Program) (ops:Array Oper) (ms:List Nat) (m i:Nat) (o:Oper) (s s':Fr) (v:Value):Kd→Prop
 | skip (vv:v=undef) (hw:Region.wanted o (yielded ops ⟨s.tm⟩)=false) (hs:s'={ s with tm:=aN s.tm o.dst v }):KP C P ops ms m i o s s' v .q
 | pure (hw:Region.wanted o (yielded ops ⟨s.tm⟩)=true) (hp:pop P (ev s.tm) o=some v) (hs:s'={ s with tm:=aN s.tm o.dst v }):KP C P ops ms m i o s s' v .q
 | mk (nb : List Blk) (hw : Region.wanted o (yielded ops ⟨s.tm⟩) = true) (hx : hop P (ev s.tm) o s.h = some (v, s.h ++ nb, none)) (ht : touch (ev s.tm) o = some .mk) (hb : iR m s.bar = true)
     (hs:s'={ s with tm:=aN s.tm o.dst v,h:=s.h++nb,rs:=⟨i,s.h.length,(s.h++nb).length,.mk⟩::s.rs }):KP C P ops ms m i o s s' v .mk
 | rd (n : Nat) (nb : List Blk) (hw : Region.wanted o (yielded ops ⟨s.tm⟩) = true) (hx : hop P (ev s.tm) o s.h = some (v, s.h ++ nb, none)) (ht : touch (ev s.tm) o = some (.rd n)) (hb : iR m s.bar = true) (hr : rS m s.rs n = true)
     (hs:s'={ s with tm:=aN s.tm o.dst v,h:=s.h++nb,rs:=⟨i,s.h.length,(s.h++nb).length,.rd n⟩::s.rs }):KP C P ops ms m i o s s' v (.rd n)
 | wr (n : Nat) (x : Blk) (hw : Region.wanted o (yielded ops ⟨s.tm⟩) = true) (hx : hop P (ev s.tm) o s.h = some (v, s.h.set n x, some n)) (ht : touch (ev s.tm) o = some (.wr n)) (hb : iR m s.bar = true) (hr : sB ms m s.rs s.b n = true)
     (hs:s'={ s with tm:=aN s.tm o.dst v,h:=s.h.set n x,rs:=⟨i,s.h.length,s.h.length,.wr n⟩::s.rs,wr:=wmin s.wr (some n) }):KP C P ops ms m i o s s' v (.wr n)
 | ap (n n2 : Nat) (x : Blk) (nb : List Blk) (hw : Region.wanted o (yielded ops ⟨s.tm⟩) = true) (hx : hop P (ev s.tm) o s.h = some (v, s.h.set n x ++ nb, some n)) (ht : touch (ev s.tm) o = some (.ap n n2)) (hb : iR m s.bar = true) (hr : sB ms m s.rs s.b n = true) (hr2 : rS m s.rs n2 = true)
     (hs:s'={ s with tm:=aN s.tm o.dst v,h:=s.h.set n x++nb,rs:=⟨i,s.h.length,(s.h.set n x++nb).length,.ap n n2⟩::s.rs,wr:=wmin s.wr (some n) }):KP C P ops ms m i o s s' v (.ap n n2)
 | all (h1 : List Blk) (w1 : Option Nat) (hw : Region.wanted o (yielded ops ⟨s.tm⟩) = true) (hx : xop C P (ev s.tm) o s.h = some (v, h1, w1)) (hb : iR m s.bar = true) (hg : wge w1 s.h.length = true) (hl : s.h.length ≤ h1.length) (hr : yD m i s.rs s.b = true)
     (hs:s'={ s with tm:=aN s.tm o.dst v,h:=s.h++h1.drop s.h.length,rs:=⟨i,s.h.length,h1.length,.all⟩::s.rs }):KP C P ops ms m i o s s' v .all
 | ch (h1 : List Blk) (w1 : Option Nat) (hw : Region.wanted o (yielded ops ⟨s.tm⟩) = true) (hx : xop C P (ev s.tm) o s.h = some (v, h1, w1)) (hb : iR m s.bar = true) (hn : s.rs.all (fun r => m.testBit r.i) = true) (hl : s.h.length ≤ h1.length)
     (hs:s'={ tm:=aN s.tm o.dst v,h:=h1,rs:=[],b:=h1.length,bar:=some i,wr:=wmin s.wr w1 }):KP C P ops ms m i o s s' v .ch
theorem xop_hop{C:Ctx}{P:Program}{ρ:Operand→Value}{o:Oper}{h:List Blk}{r:Value×List Blk×Option Nat}{t:Tk}(ht:touch ρ o=some t)(hx:xop C P ρ o h=some r):hop P ρ o h=some r:=by
 unfold xop at hx
 split at hx
 ·rename_i r' hh;rw[hh,hx]
 ·exfalso
  split at hx
  ·rename_i c hc
   unfold touch at ht
   rw[hc] at ht
   simp only at ht
   unfold xcall at hx
   split at hx
   ·rename_i f hf
    rw[hf] at ht
    cases ht
   ·cases hx
  ·cases hx
theorem By{C:Ctx}{P:Program}{ops:Array Oper}{ms:List Nat}{m i:Nat}{o:Oper}{s s':Fr}(h:bN C P ops ms m i o s=some s'):∃ v k,KP C P ops ms m i o s s' v k:=by
 unfold bN at h
 split at h
 ·rename_i hw
  split at h
  ·rename_i v hp
   exact⟨v,.q,.pure hw hp (a6 h).symm⟩
  ·unfold dQ at h
   split at h
   ·rename_i v h1 w1 hx
    split at h
    ·rename_i hb
     split at h
     ·rename_i ht
      have hh:=xop_hop ht hx
      obtain⟨rfl,nb,rfl,_⟩:=uW ht hh
      exact⟨v,.mk,.mk nb hw hh ht hb (a6 h).symm⟩
     ·rename_i n ht
      have hh:=xop_hop ht hx
      obtain⟨nb,rfl,rfl,_⟩:=uF ht hh
      split at h
      ·rename_i hr
       exact⟨v,.rd n,.rd n nb hw hh ht hb hr (a6 h).symm⟩
      ·cases h
     ·rename_i n ht
      have hh:=xop_hop ht hx
      obtain⟨rfl,rfl,_,⟨b,rfl,_⟩,_⟩:=uR ht hh
      split at h
      ·rename_i hr
       exact⟨undef,.wr n,.wr n b hw hh ht hb hr (a6 h).symm⟩
      ·cases h
     ·rename_i n n2 ht
      have hh:=xop_hop ht hx
      obtain⟨rfl,_,_,⟨b,nb,rfl,_⟩,_⟩:=qF ht hh
      split at h
      ·rename_i hr
       exact⟨v,.ap n n2,.ap n n2 b nb hw hh ht hb hr.1 hr.2 (a6 h).symm⟩
      ·cases h
     ·split at h
      ·rename_i hc
       exact⟨v,.all,.all h1 w1 hw hx hb hc.1 hc.2.1 hc.2.2 (a6 h).symm⟩
      ·split at h
       ·rename_i hc
        exact⟨v,.ch,.ch h1 w1 hw hx hb hc.1 hc.2 (a6 h).symm⟩
       ·cases h
    ·cases h
   ·cases h
 ·rename_i hw
  exact⟨undef,.q,.skip rfl (by simpa using hw) (a6 h).symm⟩
theorem jQ{C:Ctx}{P:Program}{ops:Array Oper}{ms:List Nat}:∀(l:List Oper) (k:Nat) (s s':Fr),aU C P ops ms l k s=some s' →
 ∃ St:Nat→Fr,St 0=s∧(∀ j o,l[j]?=some o→bN C P ops ms (aC ms (k+j)) (k+j) o (St j)=some (St (j+1)))∧∀ j,l.length≤j→St j=s'
 | [],k,s,s',h=>by
  obtain rfl:s=s':=by simpa [aU] using h
  exact⟨fun _=>s,rfl,fun j o h=>by simp at h,fun _ _=>rfl⟩
 | o::l,k,s,s',h=>by
  simp only[aU] at h
  split at h
  ·rename_i s1 h1
   obtain⟨St,h2,h3,h4⟩:=jQ l (k+1) s1 s' h
   refine⟨fun j=>match j with|0=>s|j+1=>St j,rfl,fun j o' hj=>?_,fun j hj=>?_⟩
   ·cases j with
    | zero=>simp at hj;subst hj;simpa [h2] using h1
    | succ j =>
     have:=h3 j o' (by simpa using hj)
     rwa [show k+(j+1)=k+1+j by omega]
   ·cases j with
    | zero=>simp at hj
    | succ j=>exact h4 j (by simpa using hj)
  ·cases h
structure Trace(C:Ctx)(P:Program)(ops:Array Oper)(ms:List Nat)(tm0:List Value)(h0:List Blk) where
 St:Nat→Fr
 V:Nat→Value
 kd:Nat→Kd
 st0:St 0=⟨tm0,h0,[],h0.length,none,none⟩
 kp:∀(i:Nat) (o:Oper),ops[i]?=some o→KP C P ops ms (aC ms i) i o (St i) (St (i+1)) (V i) (kd i)
theorem oP{C:Ctx}{P:Program}{ops:Array Oper}{ms:List Nat}{tm0:List Value}{h0:List Blk}{s':Fr}(h:aU C P ops ms ops.toList 0 ⟨tm0,h0,[],h0.length,none,none⟩=some s') :
 ∃ T:Trace C P ops ms tm0 h0,T.St ops.size=s':=by
 obtain⟨St,h1,h2,h3⟩:=jQ _ _ _ _ h
 have hk:∀ i,∃ v k,∀ o,ops[i]?=some o→KP C P ops ms (aC ms i) i o (St i) (St (i+1)) v k:=by
  intro i
  cases ho:ops[i]? with
  | none=>exact⟨undef,.q,fun o h=>by cases h⟩
  | some o =>
   have:=h2 i o (by simpa using ho)
   rw[g6] at this
   obtain⟨v,k,hv⟩:=By this
   exact⟨v,k,fun o' ho'=>by cases ho';exact hv⟩
 obtain⟨V,hV⟩:=Classical.skolem.1 hk
 obtain⟨kd,hkd⟩:=Classical.skolem.1 hV
 exact⟨⟨St,V,kd,h1,hkd⟩,h3 _ (by simp)⟩
section
variable {C:Ctx} {P:Program} {ops:Array Oper} {ms:List Nat} {tm0:List Value} {h0:List Blk} (T:Trace C P ops ms tm0 h0)
abbrev Trace.ln(i:Nat):Nat:=(T.St i).h.length
def Trace.bs(i:Nat):Nat:=match (T.St i).bar with
 | none=>0
 | some q=>q+1
def Trace.Tch(k n:Nat):Prop:=(T.ln k≤n∧n<T.ln (k+1))∨wrK (T.kd k)=some n
theorem Trace.tm_succ{i:Nat}{o:Oper}(ho:ops[i]?=some o):(T.St (i+1)).tm=aN (T.St i).tm o.dst (T.V i):=by
 have h:=T.kp i o ho
 generalize T.kd i=k at h
 cases h<;>rename_i hs<;>rw[hs]
theorem Trace.wr_succ{i:Nat}{o:Oper}(ho:ops[i]?=some o){lo:Nat}(hw:WrOk lo (T.St (i+1)).wr):WrOk lo (T.St i).wr:=by
 have h:=T.kp i o ho
 generalize T.kd i=k at h
 cases h with
 | skip vv hw' hs=>rw[hs] at hw;exact hw
 | pure hw' hp hs=>rw[hs] at hw;exact hw
 | mk nb hw' hx ht hb hs=>rw[hs] at hw;exact hw
 | rd n nb hw' hx ht hb hr hs=>rw[hs] at hw;exact hw
 | ap n n2 x nb hw' hx ht hb hr hr2 hs=>rw[hs] at hw;exact hw.min.1
 | wr n x hw' hx ht hb hr hs=>rw[hs] at hw;exact hw.min.1
 | all h1 w1 hw' hx hb hg hl hr hs=>rw[hs] at hw;exact hw
 | ch h1 w1 hw' hx hb hn hl hs=>rw[hs] at hw;exact hw.min.1
theorem Trace.wr_le{lo:Nat}{i j:Nat}(h:i≤j)(hj:j≤ops.size)(hw:WrOk lo (T.St j).wr):WrOk lo (T.St i).wr:=by
 induction j with
 | zero => obtain rfl : i = 0 := by omega
           exact hw
 | succ j ih =>
  rcases d4 j i with h'|h'
  ·obtain rfl:i=j+1:=by omega
   exact hw
  ·exact ih h' (by omega) (T.wr_succ (c9 (by omega)) hw)
theorem Trace.keep{i:Nat}{o:Oper}(ho:ops[i]?=some o)(hc:T.kd i ≠ .ch):T.ln i≤T.ln (i+1)∧∀ n,n<T.ln i→wrK (T.kd i)≠some n→(T.St (i+1)).h[n]?=(T.St i).h[n]?:=by
 have h:=T.kp i o ho
 unfold Trace.ln
 generalize T.kd i=k at h hc
 cases h with
 | skip vv hw hs=>rw[hs];exact⟨a9 _,fun _ _ _=>rfl⟩
 | pure hw hp hs=>rw[hs];exact⟨a9 _,fun _ _ _=>rfl⟩
 | mk nb hw hx ht hb hs=>rw[hs];exact⟨by simp,fun n hn _=>b4 hn⟩
 | rd n nb hw hx ht hb hr hs=>rw[hs];exact⟨by simp,fun n hn _=>b4 hn⟩
 | ap n n2 x nb hw hx ht hb hr hr2 hs =>
  rw[hs]
  refine⟨by simp,fun k hk hne=>?_⟩
  rw[b4 (by simpa using hk)]
  exact d6 fun e=>hne (by rw[e];rfl)
 | wr n x hw hx ht hb hr hs =>
  rw[hs]
  refine⟨by simp,fun k hk hne=>d6 fun e=>hne (by rw[e];rfl)⟩
 | all h1 w1 hw hx hb hg hl hr hs=>rw[hs];exact⟨by simp,fun n hn _=>b4 hn⟩
 | ch=>exact absurd rfl hc
theorem Trace.ln_succ{i:Nat}{o:Oper}(ho:ops[i]?=some o):T.ln i≤T.ln (i+1):=by
 by_cases hc:T.kd i = .ch
 ·have h:=T.kp i o ho
  unfold Trace.ln
  rw[hc] at h
  cases h with
  | ch h1 w1 hw hx hb hn hl hs=>rw[hs];exact hl
 ·exact (T.keep ho hc).1
theorem Trace.ln_mono{i j:Nat}(h:i≤j)(hj:j≤ops.size):T.ln i≤T.ln j:=by
 induction j with
 | zero => obtain rfl : i = 0 := by omega
           exact a9 _
 | succ j ih =>
  rcases d4 j i with h'|h'
  ·obtain rfl:i=j+1:=by omega
   exact a9 _
  ·exact e6 (ih h' (by omega)) (T.ln_succ (c9 (by omega)))
theorem Trace.quiet{i:Nat}{o:Oper}(ho:ops[i]?=some o)(hk:T.kd i = .q):(T.St (i+1)).h=(T.St i).h:=by
 have h:=T.kp i o ho
 rw[hk] at h
 cases h with
 | skip vv hw hs=>rw[hs]
 | pure hw hp hs=>rw[hs]
theorem Trace.loud{j:Nat}(hj:j<ops.size){n:Nat}(h:T.Tch j n):T.kd j ≠ .q:=by
 intro hk
 rcases h with h|h
 ·have:=T.quiet (c9 hj) hk
  unfold Trace.ln at h
  rw[this] at h
  omega
 ·rw[hk] at h;cases h
theorem Trace.keeps{i j n:Nat}(hij:i≤j)(hj:j≤ops.size)(hc:∀ k,i≤k→k<j→T.kd k ≠ .ch)(ht:∀ k,i≤k→k<j→¬ T.Tch k n)(hn:n<T.ln i):(T.St j).h[n]?=(T.St i).h[n]?:=by
 induction j with
 | zero => obtain rfl : i = 0 := by omega
           rfl
 | succ j ih =>
  rcases d4 j i with h'|h'
  ·obtain rfl:i=j+1:=by omega
   rfl
  ·have hm:=ih h' (by omega) (fun k h1 h2=>hc k h1 (by omega)) (fun k h1 h2=>ht k h1 (by omega))
   rw[← hm]
   exact (T.keep (c9 (show j<ops.size by omega)) (hc j h' (by omega))).2 n (d7 hn (T.ln_mono h' (by omega))) fun e=>ht j h' (by omega) (.inr e)
theorem Trace.recs{i:Nat}(hi:i≤ops.size):(T.bs i=0∨∃ q,T.bs i=q+1∧q<i∧T.kd q = .ch∧(T.St i).bar=some q)∧(T.St i).b=T.ln (T.bs i) ∧
 ∀ k,T.bs i≤k→k<i→T.kd k ≠ .q→T.kd k ≠ .ch∧(⟨k,T.ln k,T.ln (k+1),fU (T.kd k)⟩:Rc)∈(T.St i).rs:=by
 induction i with
 | zero =>
  have hb:T.bs 0=0:=by unfold Trace.bs;rw[T.st0]
  refine⟨.inl hb,?_,fun k _ h=>by omega⟩
  rw[hb];unfold Trace.ln;rw[T.st0]
 | succ i ih =>
  obtain⟨h1,h2,h3⟩:=ih (by omega)
  have ho:ops[i]?=some ops[i]:=c9 (by omega)
  have h:=T.kp i _ ho
  have go : ∀ l, (T.St (i + 1)).bar = (T.St i).bar → (T.St (i + 1)).b = (T.St i).b → T.kd i ≠ .ch → (T.St (i + 1)).rs = l ++ (T.St i).rs → (T.kd i ≠ .q → (⟨i, T.ln i, T.ln (i + 1), fU (T.kd i)⟩ : Rc) ∈ l) →
      (T.bs (i+1)=0∨∃ q,T.bs (i+1)=q+1∧q<i+1∧T.kd q = .ch∧(T.St (i+1)).bar=some q)∧(T.St (i+1)).b=T.ln (T.bs (i+1)) ∧
      ∀ k,T.bs (i+1)≤k→k<i+1→T.kd k ≠ .q→T.kd k ≠ .ch∧(⟨k,T.ln k,T.ln (k+1),fU (T.kd k)⟩:Rc)∈(T.St (i+1)).rs:=by
   intro l e1 e2 e3 e4 e5
   have eb:T.bs (i+1)=T.bs i:=by unfold Trace.bs;rw[e1]
   rw[eb,e1,e2]
   refine⟨?_,h2,fun k hk hki hq=>?_⟩
   ·rcases h1 with h1|⟨q,q1,q2,q3,q4⟩
    ·exact .inl h1
    ·exact .inr ⟨q,q1,by omega,q3,q4⟩
   ·rcases d4 k i with hlt|hge
    ·obtain⟨x1,x2⟩:=h3 k hk hlt hq
     exact⟨x1,by rw[e4];exact List.mem_append_right _ x2⟩
    ·obtain rfl:k=i:=by omega
     exact⟨e3,by rw[e4];exact List.mem_append_left _ (e5 hq)⟩
  generalize hkd:T.kd i=kk at h
  cases h with
  | skip vv hw hs=>exact go [] (by rw[hs]) (by rw[hs]) (by rw[hkd];simp) (by rw[hs];rfl) (fun hne=>absurd hkd hne)
  | pure hw hp hs=>exact go [] (by rw[hs]) (by rw[hs]) (by rw[hkd];simp) (by rw[hs];rfl) (fun hne=>absurd hkd hne)
  | mk nb hw hx ht hb hs =>
   exact go [⟨i,T.ln i,T.ln (i+1),.mk⟩] (by rw[hs]) (by rw[hs]) (by rw[hkd];simp) (by rw[show T.ln (i+1)=((T.St i).h++nb).length by unfold Trace.ln;rw[hs]];rw[hs];rfl) (fun _=>by rw[hkd];exact List.mem_singleton_self _)
  | rd n nb hw hx ht hb hr hs =>
   exact go [⟨i,T.ln i,T.ln (i+1),.rd n⟩] (by rw[hs]) (by rw[hs]) (by rw[hkd];simp) (by rw[show T.ln (i+1)=((T.St i).h++nb).length by unfold Trace.ln;rw[hs]];rw[hs];rfl) (fun _=>by rw[hkd];exact List.mem_singleton_self _)
  | ap n n2 x nb hw hx ht hb hr hr2 hs =>
   exact go [⟨i,T.ln i,T.ln (i+1),.ap n n2⟩] (by rw[hs]) (by rw[hs]) (by rw[hkd];simp) (by rw[show T.ln (i+1)=((T.St i).h.set n x++nb).length by unfold Trace.ln;rw[hs]];rw[hs];rfl) (fun _=>by rw[hkd];exact List.mem_singleton_self _)
  | wr n x hw hx ht hb hr hs =>
   exact go [⟨i,T.ln i,T.ln (i+1),.wr n⟩] (by rw[hs]) (by rw[hs]) (by rw[hkd];simp) (by rw[show T.ln (i+1)=T.ln i by unfold Trace.ln;rw[hs];simp];rw[hs];rfl) (fun _=>by rw[hkd];exact List.mem_singleton_self _)
  | all h1' w1 hw hx hb hg hl hr hs =>
   exact go [⟨i,T.ln i,T.ln (i+1),.all⟩] (by rw[hs]) (by rw[hs]) (by rw[hkd];simp) (by rw[show T.ln (i+1)=h1'.length by unfold Trace.ln;rw[hs];simp;omega];rw[hs];rfl) (fun _=>by rw[hkd];exact List.mem_singleton_self _)
  | ch h1' w1 hw hx hb hn hl hs =>
   have hbar:(T.St (i+1)).bar=some i:=by rw[hs]
   have hbs:T.bs (i+1)=i+1:=by unfold Trace.bs;rw[hbar]
   refine⟨.inr ⟨i,hbs,by omega,hkd,hbar⟩,?_,fun k hk hki=>by omega⟩
   rw[hbs];unfold Trace.ln;rw[hs]
theorem Trace.bs_le{i:Nat}(hi:i≤ops.size):T.bs i≤i:=by
 rcases (T.recs hi).1 with h|⟨q,h1,h2,_⟩<;>omega
theorem Trace.bs_succ{i:Nat}(hi:i<ops.size):(T.kd i ≠ .ch→T.bs (i+1)=T.bs i)∧(T.kd i = .ch→T.bs (i+1)=i+1):=by
 have ho:ops[i]?=some ops[i]:=c9 hi
 have h:=T.kp i _ ho
 unfold Trace.bs
 generalize T.kd i=kk at h
 cases h with
 | skip vv hw hs=>exact⟨fun _=>by rw[hs],fun h=>by cases h⟩
 | pure hw hp hs=>exact⟨fun _=>by rw[hs],fun h=>by cases h⟩
 | mk nb hw hx ht hb hs=>exact⟨fun _=>by rw[hs],fun h=>by cases h⟩
 | rd n nb hw hx ht hb hr hs=>exact⟨fun _=>by rw[hs],fun h=>by cases h⟩
 | ap n n2 x nb hw hx ht hb hr hr2 hs=>exact⟨fun _=>by rw[hs],fun h=>by cases h⟩
 | wr n x hw hx ht hb hr hs=>exact⟨fun _=>by rw[hs],fun h=>by cases h⟩
 | all h1 w1 hw hx hb hg hl hr hs=>exact⟨fun _=>by rw[hs],fun h=>by cases h⟩
 | ch h1 w1 hw hx hb hn hl hs=>exact⟨fun h=>absurd rfl h,fun _=>by rw[hs]⟩
theorem Trace.bs_ge{q i:Nat}(hq:q<i)(hi:i≤ops.size)(hk:T.kd q = .ch):q+1≤T.bs i:=by
 induction i with
 | zero=>omega
 | succ i ih =>
  obtain⟨h1,h2⟩:=T.bs_succ (i:=i) (by omega)
  by_cases hc:T.kd i = .ch
  ·rw[h2 hc];omega
  ·rw[h1 hc]
   have hne:q≠i:=fun e=>hc (e ▸ hk)
   exact ih (by omega) (by omega)
theorem Trace.bar_waits{i q:Nat}(hi:i<ops.size)(hl:T.kd i ≠ .q)(hq:T.bs i=q+1):(aC ms i).testBit q=true:=by
 have hbar:(T.St i).bar=some q:=by
  rcases (T.recs (i:=i) (by omega)).1 with h|⟨q',h1,h2,h3,h4⟩
  ·omega
  ·have:q'=q:=by omega
   rw[← this];exact h4
 have h:=T.kp i _ (c9 hi)
 generalize T.kd i=kk at h hl
 cases h with
 | skip vv hw hs=>exact absurd rfl hl
 | pure hw hp hs=>exact absurd rfl hl
 | mk nb hw hx ht hb hs=>rw[hbar] at hb;exact hb
 | rd n nb hw hx ht hb hr hs=>rw[hbar] at hb;exact hb
 | ap n n2 x nb hw hx ht hb hr hr2 hs=>rw[hbar] at hb;exact hb
 | wr n x hw hx ht hb hr hs=>rw[hbar] at hb;exact hb
 | all h1 w1 hw hx hb hg hl hr hs=>rw[hbar] at hb;exact hb
 | ch h1 w1 hw hx hb hn hl hs=>rw[hbar] at hb;exact hb
theorem Trace.chain_waits(F:RegF ops ms){i:Nat}(hi:i<ops.size)(hk:T.kd i = .ch):∀ j,j<i→T.kd j ≠ .q→(aC ms i).testBit j=true:=by
 induction i using Nat.strongRecOn with
 | _ i ih =>
 intro j hj hl
 rcases d4 j (T.bs i) with h|h
 ·rcases (T.recs (i:=i) (by omega)).1 with h0|⟨q,h1,h2,h3,h4⟩
  ·omega
  ·have hq:=T.bar_waits hi (by rw[hk];simp) h1
   rcases d4 j q with h'|h'
   ·exact F.trans i q j hq (ih q h2 (by omega) h3 j h' hl)
   ·obtain rfl:j=q:=by omega
    exact hq
 ·have hm:=((T.recs (i:=i) (by omega)).2.2 j h hj hl).2
  have hkp:=T.kp i _ (c9 hi)
  rw[hk] at hkp
  cases hkp with
  | ch h1 w1 hw hx hb hn hl' hs=>exact a8.1 hn _ hm
theorem Trace.after(F:RegF ops ms){q i:Nat}(hq:q<i)(hi:i<ops.size)(hk:T.kd q = .ch)(hl:T.kd i ≠ .q):(aC ms i).testBit q=true:=by
 have h:=T.bs_ge hq (by omega) hk
 rcases (T.recs (i:=i) (by omega)).1 with h0|⟨q',h1,h2,h3,h4⟩
 ·omega
 ·have hq':=T.bar_waits hi hl h1
  rcases d4 q q' with h'|h'
  ·exact F.trans i q' q hq' (T.chain_waits F (by omega) h3 q h' (by rw[hk];simp))
  ·obtain rfl:q=q':=by omega
   exact hq'
theorem Trace.ln0:T.ln 0=h0.length:=by unfold Trace.ln;rw[T.st0]
theorem Trace.owner{n:Nat}{a:Nat}:∀ {i:Nat},a≤i→i≤ops.size→T.ln a≤n→n<T.ln i→∃ j,a≤j∧j<i∧T.ln j≤n∧n<T.ln (j+1)
 | 0, h, _, h1, h2 => by obtain rfl : a = 0 := by omega
                         omega
 | i+1,h,hi,h1,h2=>by
  by_cases e:a=i+1
  ·subst e;omega
  rcases d4 n (T.ln i) with h'|h'
  ·obtain⟨j,h3,h4,h5⟩:=Trace.owner (i:=i) (by omega) (by omega) h1 h'
   exact⟨j,h3,by omega,h5⟩
  ·exact⟨i,by omega,by omega,h',h2⟩
theorem Trace.one_owner{n j k:Nat}(hj:j<ops.size)(hk:k<ops.size)(h1:T.ln j≤n∧n<T.ln (j+1))(h2:T.ln k≤n∧n<T.ln (k+1)):j=k:=by
 rcases Nat.lt_trichotomy j k with h|h|h
 ·have:=T.ln_mono (i:=j+1) (j:=k) h (by omega);omega
 ·exact h
 ·have:=T.ln_mono (i:=k+1) (j:=j) h (by omega);omega
theorem Trace.tm_len{i:Nat}(hi:i≤ops.size):(T.St i).tm.length=tm0.length:=by
 induction i with
 | zero=>rw[T.st0]
 | succ i ih=>rw[T.tm_succ (c9 (show i<ops.size by omega)),sY,ih (by omega)]
theorem Trace.tm_old{i t:Nat}(hi:i≤ops.size)(h:∀ k o,k<i→ops[k]?=some o→o.dst≠some t):(T.St i).tm[t]?=tm0[t]?:=by
 induction i with
 | zero=>rw[T.st0]
 | succ i ih =>
  have ho:ops[i]?=some ops[i]:=c9 (by omega)
  rw[T.tm_succ ho,← ih (by omega) (fun k o hk=>h k o (by omega))]
  have:=h i _ (by omega) ho
  cases hd:(ops[i]'(by omega)).dst with
  | none=>rfl
  | some d =>
   simp only[aN]
   rw[d6]
   intro e
   subst e
   exact this hd
theorem Trace.tm_new(F:RegF ops ms){i j t:Nat}{p:Oper}(hji:j<i)(hi:i≤ops.size)(hp:ops[j]?=some p)(hd:p.dst=some t)(ht:t<tm0.length):(T.St i).tm[t]?=some (T.V j):=by
 induction i with
 | zero=>omega
 | succ i ih =>
  have ho:ops[i]?=some ops[i]:=c9 (by omega)
  rw[T.tm_succ ho]
  have hlen:=T.tm_len (i:=i) (by omega)
  rcases d4 j i with h'|h'
  ·have:=ih h' (by omega)
   cases hdi:(ops[i]'(by omega)).dst with
   | none=>exact this
   | some d =>
    simp only[aN]
    rw[d6]
    ·exact this
    ·intro e
     subst e
     have:=F.uniq i j _ p _ ho hp hdi hd
     omega
  ·obtain rfl:j=i:=by omega
   rw[ho] at hp
   obtain rfl:=a6 hp
   rw[hd]
   simp only[aN]
   rw[d8 (by omega)]
end
end Go.Rex.Free
namespace Go.Rex
open Go.RowKit
def Ls(listed:Array Bool)(i:Nat):Prop:=listed.getD i false=true
section
variable {C:Ctx} {P:Program} {ops:Array Oper} {ms:List Nat} {tm0:List Value} {h0:List Blk} (T:Trace C P ops ms tm0 h0) (B lo:Nat) (D:Nat→Prop) (m0:NMap) (w0:World) (a0:Act)
def Dm(i:Nat):Nat→Prop:=fun n=>D n∨∃ j,(j=i∨(aC ms i).testBit j=true)∧T.ln j≤n∧n<T.ln (j+1)
def Dp(i:Nat):Nat→Prop:=fun n=>D n∨∃ j,(aC ms i).testBit j=true∧T.ln j≤n∧n<T.ln (j+1)
structure HA(listed:Array Bool)(w:World)(m:NMap):Prop where
 noc:∀ i,i<ops.size→Ls listed i→T.kd i≠2
 rel:Rel B lo D m h0 w
 bel:Below w0.heap.size w0 w
 blk:∀ i n b,i<ops.size→Ls listed i→T.ln i≤n→n<T.ln (i+1)→(T.St (i+1)).h[n]?=some b→BlkOk (Dm T D i) m w n b∧(b ≠ .dead→(m n).block<w.heap.size∧w0.heap.size≤(m n).block)∧Owns m w n b
 inj:∀ i n b i' n' b',i<ops.size→Ls listed i→T.ln i≤n→n<T.ln (i+1)→(T.St (i+1)).h[n]?=some b→b ≠ .dead→i'<ops.size→Ls listed i'→T.ln i'≤n'→n'<T.ln (i'+1)→(T.St (i'+1)).h[n']?=some b'→b' ≠ .dead →
  (m n).block=(m n').block→n=n'
def HB(listed:Array Bool)(w:World)(m:NMap):Prop:=
 ∃ q,q<ops.size∧T.kd q=2∧Ls listed q∧(∀ j,j<ops.size→Ls listed j→T.kd j=2→j≤q)∧Rel B lo (Dx D h0.length (T.ln (q+1))) m (T.St (q+1)).h w
structure Tm(listed:Array Bool)(a:Act)(m:NMap):Prop where
 df:a.defers=a0.defers
 len:a.tmps.toList.length=tm0.length
 new:∀(i:Nat) (o:Oper) (t:Tmp) (v':Value),ops[i]?=some o→Ls listed i→o.dst=some t→a.tmps.toList[t]?=some v'→VR (Dm T D i) m (T.V i) v'
 old:∀(t:Tmp) (v v':Value),(∀(i:Nat) (o:Oper),ops[i]?=some o→Ls listed i→o.dst≠some t)→tm0[t]?=some v→a.tmps.toList[t]?=some v'→VR D m v v'
structure Inv(listed:Array Bool)(a:Act)(w:World)(m:NMap):Prop where
 size:listed.size=ops.size
 down:∀ i j,Ls listed i→(aC ms i).testBit j=true→Ls listed j
 agree:∀ n,D n→m n=m0 n
 tmps:Tm T D a0 listed a m
 below:Below B w0 w
 heap:HA T B lo D w0 listed w m∨HB T B lo D listed w m
end
section
variable {C:Ctx} {P:Program} {ops:Array Oper} {ms:List Nat} {tm0:List Value} {h0:List Blk} {T:Trace C P ops ms tm0 h0} {B lo:Nat} {D:Nat→Prop} {m0:NMap} {w0:World} {a0:Act}
variable {listed:Array Bool} {a:Act} {w:World} {m:NMap}
theorem Inv.still(hI:Inv T B lo D m0 w0 a0 listed a w m){w':World}(h:Still w w'):Inv T B lo D m0 w0 a0 listed a w' m:=by
 obtain⟨k,rfl⟩:=h
 have hs:Still w { w with drawn:=k }:=⟨k,rfl⟩
 refine⟨hI.size,hI.down,hI.agree,hI.tmps,hI.below.trans (hs.below B),?_⟩
 rcases hI.heap with hA|⟨q,q1,q2,q3,q4,q5⟩
 ·exact .inl ⟨hA.noc, hA.rel.frame (hs.below _), hA.bel.trans (hs.below _), fun i n b h1 h2 h3 h4 h5 => by
    obtain⟨g1,g2,g3⟩:=hA.blk i n b h1 h2 h3 h4 h5
    exact⟨g1.keep fun _=>rfl,g2,g3.keep fun _=>rfl⟩,hA.inj⟩
 ·exact .inr ⟨q,q1,q2,q3,q4,q5.frame (hs.below _)⟩
theorem Dm.of_pred(F:RegF ops ms){i j n:Nat}(hj:(aC ms i).testBit j=true)(h:Dm T D j n):Dp T D i n:=by
 rcases h with h|⟨k,hk,h1⟩
 ·exact .inl h
 ·rcases hk with rfl|hk
  ·exact .inr ⟨k,hj,h1⟩
  ·exact .inr ⟨k,F.trans i j k hj hk,h1⟩
theorem Dp.dm{i n:Nat}(h:Dp T D i n):Dm T D i n:=by
 rcases h with h|⟨k,hk,h1⟩
 ·exact .inl h
 ·exact .inr ⟨k,.inr hk,h1⟩
theorem aT{i:Nat}{o:Oper}(ho:ops[i]?=some o):i<ops.size:=(Array.getElem?_eq_some_iff.1 ho).1
theorem Tm.slot(F:RegF ops ms)(hT:Tm T D a0 listed a m)(hdown:∀ i j,Ls listed i→(aC ms i).testBit j=true→Ls listed j){i:Nat}{o:Oper}(ho:ops[i]?=some o)(hi:¬ Ls listed i)(hpre:∀ j,(aC ms i).testBit j=true→Ls listed j)
 {t:Tmp} (ht:t∈o.looksAt ops):(∀ v,(T.St i).tm[t]?=some v→∃ v',a.tmps.toList[t]?=some v'∧VR (Dp T D i) m v v')∧((T.St i).tm[t]?=none→a.tmps.toList[t]?=none):=by
 have hil:=aT ho
 have hlen:=T.tm_len (i:=i) (by omega)
 constructor
 ·intro v hv
  have htl:t<tm0.length:=by
   obtain⟨h1,_⟩:=a7.1 hv
   rw[hlen] at h1
   exact h1
  obtain⟨v',hv'⟩:∃ v',a.tmps.toList[t]?=some v':=⟨_,b5 (by rw[hT.len];exact htl)⟩
  refine⟨v',hv',?_⟩
  have old:(∀(k:Nat) (p:Oper),ops[k]?=some p→p.dst=some t→i≤k∧¬ Ls listed k)→VR (Dp T D i) m v v':=by
   intro hk
   have h1:=T.tm_old (i:=i) (t:=t) (by omega) fun k p hki hp hd=>by have:=(hk k p hp hd).1;omega
   rw[h1] at hv
   exact (hT.old t v v' (fun k p hp hl hd=>(hk k p hp hd).2 hl) hv hv').mono (fun _=>.inl) (fun _ _=>rfl)
  by_cases hw:∃(j:Nat) (p:Oper),ops[j]?=some p∧p.dst=some t
  ·obtain⟨j,p,hp,hd⟩:=hw
   have only:∀(k:Nat) (p':Oper),ops[k]?=some p'→p'.dst=some t→k=j:=fun k p' hp' hd'=>F.uniq k j p' p t hp' hp hd' hd
   rcases F.look i o t ho ht j p hp hd with rfl|hb|hb
   ·exact old fun k p' hp' hd'=>by rw[only k p' hp' hd'];exact⟨a9 _,hi⟩
   ·have h1:=T.tm_new F (F.lt i j hb) (by omega) hp hd htl
    rw[h1] at hv
    obtain rfl:=a6 hv
    exact (hT.new j p t v' hp (hpre j hb) hd hv').mono (fun n hn=>hn.of_pred F hb) (fun _ _=>rfl)
   ·exact old fun k p' hp' hd' => by
      rw[only k p' hp' hd']
      exact⟨Nat.le_of_lt (F.lt j i hb),fun hl=>hi (hdown j i hl hb)⟩
  ·exact old fun k p hp hd=>absurd ⟨k,p,hp,hd⟩ hw
 ·intro hn
  have h1:=e8.1 hn
  rw[hlen] at h1
  exact e8.2 (by rw[hT.len];exact h1)
theorem Tm.operands{B':Nat}{w':World}(hgl:Gl B' D m w')(F:RegF ops ms)(hT:Tm T D a0 listed a m)(hdown:∀ i j,Ls listed i→(aC ms i).testBit j=true→Ls listed j){i:Nat}{o:Oper}(ho:ops[i]?=some o)(hi:¬ Ls listed i)(hpre:∀ j,(aC ms i).testBit j=true→Ls listed j) :
 ∀ x∈o.op.operands,VR (Dp T D i) m (ev (T.St i).tm x) (a.eval x):=by
 intro x hx
 have hok:=a8.1 (F.ok i o ho) x (by simpa using hx)
 cases x with
 | tmp t =>
  have ht:t∈o.looksAt ops:=List.mem_append_left _ (List.mem_filterMap.2 ⟨.tmp t,by simpa using hx,rfl⟩)
  obtain⟨h1,h2⟩:=hT.slot F hdown ho hi hpre ht
  have e:a.eval (.tmp t)=a.tmps.toList[t]?.getD undef:=by simp[Act.eval,Array.getD_eq_getD_getElem?]
  rw[e]
  simp only[ev,iE]
  cases hv:(T.St i).tm[t]? with
  | none=>rw[h2 hv];exact VR.undef
  | some v =>
   obtain⟨v',hv',hr⟩:=h1 v hv
   rw[hv'];exact hr
 | const v=>exact VR.of_clean depth v hok
 | global g=>exact (yN hgl (by simpa [fL] using hok)).mono (fun _=>.inl) (fun _ _=>rfl)
 | func f=>exact .func f [] [] [] [] rfl (fun i v v' h=>by simp at h) rfl (fun i v v' h=>by simp at h)
theorem Tm.wanted(F:RegF ops ms)(hT:Tm T D a0 listed a m)(hdown:∀ i j,Ls listed i→(aC ms i).testBit j=true→Ls listed j){i:Nat}{o:Oper}(ho:ops[i]?=some o)(hi:¬ Ls listed i)(hpre:∀ j,(aC ms i).testBit j=true→Ls listed j) :
 Region.wanted o (yielded ops a.tmps)=Region.wanted o (yielded ops ⟨(T.St i).tm⟩):=by
 unfold Region.wanted
 cases hg:o.guard with
 | none=>rfl
 | some p =>
  obtain⟨g,b⟩:=p
  simp only
  have key:yielded ops a.tmps g=yielded ops ⟨(T.St i).tm⟩ g:=by
   unfold yielded
   cases hd:((ops[g]?).bind (·.dst):Option Tmp) with
   | none=>rfl
   | some d =>
    have ht:d∈o.looksAt ops:=by
     refine List.mem_append_right _ ?_
     rw[hg]
     simp only[hd]
     simp
    obtain⟨h1,h2⟩:=hT.slot F hdown ho hi hpre ht
    simp only[Option.bind_some]
    have e1:(⟨(T.St i).tm⟩:Array Value)[d]?=(T.St i).tm[d]?:=by simp
    have e2:a.tmps[d]?=a.tmps.toList[d]?:=by simp
    rw[e1,e2]
    cases hv:(T.St i).tm[d]? with
    | none=>rw[h2 hv]
    | some v =>
     obtain⟨v',hv',hr⟩:=h1 v hv
     rw[hv']
     cases hr<;>rfl
  rw[key]
theorem Tm.put(F:RegF ops ms)(hT:Tm T D a0 listed a m){i:Nat}{o:Oper}(ho:ops[i]?=some o)(hsz:listed.size=ops.size){m':NMap}{v':Value}(hv:VR (Dm T D i) m' (T.V i) v')
 (hold:∀ n,D n→m' n=m n) (hnew:∀ j n,j<ops.size→Ls listed j→Dm T D j n→m' n=m n):Tm T D a0 (listed.setIfInBounds i true) (a.put o.dst v') m':=by
 have hil:=aT ho
 have hL:∀ j,Ls (listed.setIfInBounds i true) j→j=i∨Ls listed j:=by
  intro j hj
  unfold Ls at *
  by_cases e:j=i
  ·exact .inl e
  ·right
   rw[e9,Array.getElem?_setIfInBounds_ne (Ne.symm e),← e9] at hj
   exact hj
 have hLi:Ls (listed.setIfInBounds i true) i:=by
  unfold Ls
  simp[Array.getD_eq_getD_getElem?,hsz,hil]
 have hLo:∀ j,Ls listed j→Ls (listed.setIfInBounds i true) j:=by
  intro j hj
  by_cases e:j=i
  ·subst e;exact hLi
  ·unfold Ls at *
   rw[e9,Array.getElem?_setIfInBounds_ne (Ne.symm e),← e9]
   exact hj
 have other:∀ t,o.dst≠some t→(a.put o.dst v').tmps.toList[t]?=a.tmps.toList[t]?:=by
  intro t ht
  cases hd:o.dst with
  | none=>rfl
  | some d =>
   simp only[Act.put,Array.toList_setIfInBounds]
   rw[d6]
   intro e;subst e;exact ht hd
 refine⟨by rw[fS];exact hT.df,?_,?_,?_⟩
 ·cases o.dst<;>simp[Act.put,hT.len]<;>exact hT.len
 ·intro j p t u hp hj hd hu
  by_cases e:j=i
  ·subst e
   rw[ho] at hp
   obtain rfl:=a6 hp
   rw[hd] at hu
   simp only[Act.put,Array.toList_setIfInBounds,List.getElem?_set] at hu
   simp only[if_true] at hu
   split at hu
   ·cases hu;exact hv
   ·cases hu
  ·have hne:o.dst≠some t:=fun h=>e (F.uniq j i p o t hp ho hd h)
   rw[other t hne] at hu
   have hj':=(hL j hj).resolve_left e
   exact (hT.new j p t u hp hj' hd hu).mono (fun _ h=>h) (fun n hn=>hnew j n (aT hp) hj' hn)
 ·intro t u u' hno hu hu'
  have hne:o.dst≠some t:=hno i o ho hLi
  rw[other t hne] at hu'
  exact (hT.old t u u' (fun j p hp hj=>hno j p hp (hLo j hj)) hu hu').mono (fun _ h=>h) hold
end
end Go.Rex
namespace Go.Rex
open Go.RowKit
theorem Rel.congr{B lo:Nat}{D:Nat→Prop}{m m':NMap}{h:List Blk}{w:World}(hr:Rel B lo D m h w)(hm:∀ n,D n→m' n=m n):Rel B lo D m' h w:=
 ⟨hr.le,hr.dom,fun n b hD hn=>(hr.ok n b hD hn).mono (fun _ h=>h) hm (hm n hD),fun n b hD hn hd=>by rw[hm n hD];exact hr.lt n b hD hn hd,
  fun n b hD hl hn hd=>by rw[hm n hD];exact hr.base n b hD hl hn hd,fun n b hD hl hn hd=>by rw[hm n hD];exact hr.low n b hD hl hn hd,
  fun n b hD hl hn=>(hr.own n b hD hl hn).congr (hm n hD),fun n n' b b' hD hD' hl hl' hn hn' hd hd' he=>hr.inj n n' b b' hD hD' hl hl' hn hn' hd hd' (by rwa [hm n hD,hm n' hD'] at he),hr.gl.mono (fun _ h=>h) hm⟩
section
variable {C:Ctx} {P:Program} {ops:Array Oper} {ms:List Nat} {tm0:List Value} {h0:List Blk} {T:Trace C P ops ms tm0 h0} {B lo:Nat} {D:Nat→Prop} {m0:NMap} {w0:World} {a0:Act}
variable {listed:Array Bool} {a:Act} {w:World} {m:NMap}
theorem Trace.ln0:T.ln 0=h0.length:=by unfold Trace.ln;rw[T.st0]
theorem Trace.owner{n:Nat}:∀ {i:Nat},i≤ops.size→T.ln 0≤n→n<T.ln i→∃ j,j<i∧T.ln j≤n∧n<T.ln (j+1)
 | 0,_,h1,h2=>by omega
 | i+1,hi,h1,h2=>by
  rcases d4 n (T.ln i) with h|h
  ·obtain⟨j,h3,h4⟩:=Trace.owner (i:=i) (by omega) h1 h
   exact⟨j,by omega,h4⟩
  ·exact⟨i,by omega,h,h2⟩
theorem Trace.loud{j:Nat}(hj:j<ops.size){n:Nat}(h1:T.ln j≤n)(h2:n<T.ln (j+1)):T.kd j≠0:=by
 intro hk
 have:=T.quiet (c9 hj) hk
 unfold Trace.ln at h1 h2
 rw[this] at h2
 omega
theorem Trace.same{i j:Nat}(hij:i≤j)(hj:j≤ops.size)(hq:∀ k,i≤k→k<j→T.kd k=0):(T.St j).h=(T.St i).h:=by
 induction j with
 | zero => obtain rfl : i = 0 := by omega
           rfl
 | succ j ih =>
  rcases d4 j i with h'|h'
  ·obtain rfl:i=j+1:=by omega
   rfl
  ·rw[T.quiet (c9 (by omega)) (hq j h' (by omega)),ih h' (by omega) fun k h1 h2=>hq k h1 (by omega)]
theorem HA.full(hr0:Rel B lo D m0 h0 w0)(hlo:lo≤h0.length)(hag:∀ n,D n→m n=m0 n)(hA:HA T B lo D w0 listed w m)(F:RegF ops ms){i:Nat}(hi:i≤ops.size)(hl:∀ k,k<i→T.kd k≠0→Ls listed k):Rel B lo (Dx D h0.length (T.ln i)) m (T.St i).h w:=by
 have hc:∀ k,k<i→T.kd k≠2:=fun k hk h2=>hA.noc k (by omega) (hl k hk (by omega)) h2
 have hln:T.ln 0≤T.ln i:=T.ln_mono (f0 _) hi
 have old:∀ n,D n→(T.St i).h[n]?=h0[n]?:=fun n hn=>by
  rw[T.front (f0 i) hi (fun k _ hk=>hc k hk) (by rw[Trace.ln0];exact hA.rel.dom n hn),T.st0]
 have new:∀ n b,Dx D h0.length (T.ln i) n→(T.St i).h[n]?=some b→D n∧h0[n]?=some b∨∃ j,j<i∧Ls listed j∧T.ln j≤n∧n<T.ln (j+1)∧(T.St (j+1)).h[n]?=some b:=by
  rintro n b (hn|hn) hb
  ·exact .inl ⟨hn,by rw[← old n hn];exact hb⟩
  ·obtain⟨j,h1,h2,h3⟩:=T.owner hi (by rw[Trace.ln0];exact hn.1) hn.2
   refine .inr ⟨j,h1,hl j h1 (T.loud (by omega) h2 h3),h2,h3,?_⟩
   rw[← T.front (i:=j+1) h1 hi (fun k _ hk=>hc k hk) h3]
   exact hb
 have sub:∀ j,j<i→∀ k,Dm T D j k→Dx D h0.length (T.ln i) k:=by
  rintro j hj k (hk|⟨l,h1,h2,h3⟩)
  ·exact .inl hk
  ·have hlj : l ≤ j := by
     rcases h1 with rfl|h1
     ·exact a9 _
     ·exact Nat.le_of_lt (F.lt j l h1)
   refine .inr ⟨?_,d7 h3 (T.ln_mono (by omega) hi)⟩
   rw[← Trace.ln0 (T:=T)]
   exact e6 (T.ln_mono (f0 _) (by omega)) h2
 refine⟨hA.rel.le,?_,?_,?_,?_,?_,?_,?_,hA.rel.gl.mono (fun _=>.inl) (fun _ _=>rfl)⟩
 ·rintro n (hn|hn)
  ·have:=hA.rel.dom n hn
   rw[Trace.ln0] at hln
   unfold Trace.ln at hln
   omega
  ·exact hn.2
 ·intro n b hn hb
  rcases new n b hn hb with⟨h1,h2⟩|⟨j,h1,h2,h3,h4,h5⟩
  ·exact (hA.rel.ok n b h1 h2).mono (fun _=>.inl) (fun _ _=>rfl) rfl
  ·exact (hA.blk j n b (by omega) h2 h3 h4 h5).1.mono (sub j h1) (fun _ _=>rfl) rfl
 ·intro n b hn hb hd
  rcases new n b hn hb with⟨h1,h2⟩|⟨j,h1,h2,h3,h4,h5⟩
  ·exact hA.rel.lt n b h1 h2 hd
  ·exact ((hA.blk j n b (by omega) h2 h3 h4 h5).2.1 hd).1
 ·intro n b hn hlon hb hd
  rcases new n b hn hb with⟨h1,h2⟩|⟨j,h1,h2,h3,h4,h5⟩
  ·exact hA.rel.base n b h1 hlon h2 hd
  ·exact e6 hr0.le ((hA.blk j n b (by omega) h2 h3 h4 h5).2.1 hd).2
 ·intro n b hn hlon hb hd
  rcases new n b hn hb with⟨h1,h2⟩|⟨j,h1,h2,h3,h4,h5⟩
  ·exact hA.rel.low n b h1 hlon h2 hd
  ·have:T.ln 0≤T.ln j:=T.ln_mono (f0 _) (by omega)
   rw[Trace.ln0] at this
   omega
 ·intro n b hn hlon hb
  rcases new n b hn hb with⟨h1,h2⟩|⟨j,h1,h2,h3,h4,h5⟩
  ·exact hA.rel.own n b h1 hlon h2
  ·exact (hA.blk j n b (by omega) h2 h3 h4 h5).2.2
 ·intro n n' b b' hn hn' hlon hlon' hb hb' hd hd' he
  rcases new n b hn hb with⟨h1,h2⟩|⟨j,h1,h2,h3,h4,h5⟩<;>rcases new n' b' hn' hb' with⟨h1',h2'⟩|⟨j',h1',h2',h3',h4',h5'⟩
  ·exact hA.rel.inj n n' b b' h1 h1' hlon hlon' h2 h2' hd hd' he
  ·have e1:=hr0.lt n b h1 h2 hd
   rw[← hag n h1] at e1
   have e2:=((hA.blk j' n' b' (by omega) h2' h3' h4' h5').2.1 hd').2
   omega
  ·have e1:=hr0.lt n' b' h1' h2' hd'
   rw[← hag n' h1'] at e1
   have e2:=((hA.blk j n b (by omega) h2 h3 h4 h5).2.1 hd).2
   omega
  ·exact hA.inj j n b j' n' b' (by omega) h2 h3 h4 h5 hd (by omega) h2' h3' h4' h5' hd' he
theorem Ls.set{i j:Nat}(h:Ls (listed.setIfInBounds i true) j):j=i∨Ls listed j:=by
 unfold Ls at *
 by_cases e:j=i
 ·exact .inl e
 ·right
  rw[e9,Array.getElem?_setIfInBounds_ne (Ne.symm e),← e9] at h
  exact h
theorem Ls.mk{i j:Nat}(hi:i<listed.size)(h:j=i∨Ls listed j):Ls (listed.setIfInBounds i true) j:=by
 unfold Ls at *
 by_cases e:j=i
 ·subst e;simp[Array.getD_eq_getD_getElem?,hi]
 ·rw[e9,Array.getElem?_setIfInBounds_ne (Ne.symm e),← e9]
  exact h.resolve_left e
theorem eW{i:Nat}(hdown:∀ i j,Ls listed i→(aC ms i).testBit j=true→Ls listed j)(hi:i<listed.size)(hpre:∀ j,(aC ms i).testBit j=true→Ls listed j) :
 ∀ k j,Ls (listed.setIfInBounds i true) k→(aC ms k).testBit j=true→Ls (listed.setIfInBounds i true) j:=by
 intro k j hk hj
 rcases Ls.set hk with rfl|hk
 ·exact .mk hi (.inr (hpre j hj))
 ·exact .mk hi (.inr (hdown k j hk hj))
theorem Inv.quiet(F:RegF ops ms)(hI:Inv T B lo D m0 w0 a0 listed a w m){i:Nat}{o:Oper}(ho:ops[i]?=some o)(hpre:∀ j,(aC ms i).testBit j=true→Ls listed j)(hk:T.kd i=0){v':Value}(hv:VR (Dm T D i) m (T.V i) v') :
 Inv T B lo D m0 w0 a0 (listed.setIfInBounds i true) (a.put o.dst v') w m:=by
 have hil:=aT ho
 have hsz:i<listed.size:=by rw[hI.size];exact hil
 have hln:T.ln (i+1)=T.ln i:=by unfold Trace.ln;rw[T.quiet ho hk]
 refine⟨by simp[hI.size],eW hI.down hsz hpre,hI.agree,hI.tmps.put F ho hI.size hv (fun _ _=>rfl) (fun _ _ _ _ _=>rfl),hI.below,?_⟩
 rcases hI.heap with hA|⟨q,h1,h2,h3,h4,h5⟩
 ·refine .inl ⟨fun j hj hL h2=>?_,hA.rel,hA.bel,fun j n b hj hL h1 h2 hb=>?_,fun j n b j' n' b' hj hL h1 h2 hb hd hj' hL' h1' h2' hb' hd' he=>?_⟩
  ·rcases Ls.set hL with rfl|hL
   ·omega
   ·exact hA.noc j hj hL h2
  ·rcases Ls.set hL with rfl|hL
   ·omega
   ·exact hA.blk j n b hj hL h1 h2 hb
  ·rcases Ls.set hL with rfl|hL
   ·omega
   rcases Ls.set hL' with rfl|hL'
   ·omega
   exact hA.inj j n b j' n' b' hj hL h1 h2 hb hd hj' hL' h1' h2' hb' hd' he
 ·refine .inr ⟨q,h1,h2,.mk hsz (.inr h3),fun j hj hL hc=>?_,h5⟩
  rcases Ls.set hL with rfl|hL
  ·omega
  ·exact h4 j hj hL hc
theorem Inv.tame(F:RegF ops ms)(hI:Inv T B lo D m0 w0 a0 listed a w m){i:Nat}{o:Oper}(ho:ops[i]?=some o)(hi:¬ Ls listed i)(hpre:∀ j,(aC ms i).testBit j=true→Ls listed j)(hk:T.kd i=1)(hA:HA T B lo D w0 listed w m)
 {h1:List Blk} {v':Value} {w':World} {m':NMap} (hs:(T.St (i+1)).h=(T.St i).h++h1.drop (T.ln i)) (hp:Post w.heap.size (T.ln i) (Dp T D i) m (T.St i).h w m' h1 w') (hv:VR (Dx (Dp T D i) (T.ln i) h1.length) m' (T.V i) v') :
 ∃ m'',Inv T B lo D m0 w0 a0 (listed.setIfInBounds i true) (a.put o.dst v') w' m'':=by
 have hil:=aT ho
 have hsz:i<listed.size:=by rw[hI.size];exact hil
 have hgr:T.ln i≤h1.length:=hp.grow
 have hln:T.ln (i+1)=h1.length:=by
  unfold Trace.ln at *
  rw[hs]
  simp
  omega
 have hDlt:∀ n,D n→n<T.ln i:=fun n hn=>d7 (by rw[Trace.ln0];exact hA.rel.dom n hn) (T.ln_mono (f0 i) (by omega))
 have hDp:∀ n,Dp T D i n→n<T.ln i:=by
  rintro n (hn|⟨j,h2,h3,h4⟩)
  ·exact hDlt n hn
  ·exact d7 h4 (T.ln_mono (F.lt i j h2) (by omega))
 let m'':NMap:=fun n=>if T.ln i≤n∧n<T.ln (i+1) then m' n else m n
 have e0:∀ n,¬(T.ln i≤n∧n<T.ln (i+1))→m'' n=m n:=fun n hn=>d5 hn
 have e1:∀ n,D n→m'' n=m n:=fun n hn=>e0 n (by have:=hDlt n hn;omega)
 have e2:∀ j n,j<ops.size→Ls listed j→Dm T D j n→m'' n=m n:=by
  rintro j n hj hL (hn|⟨k,h2,h3,h4⟩)
  ·exact e1 n hn
  ·have hLk : Ls listed k := by
     rcases h2 with rfl|h2
     ·exact hL
     ·exact hI.down j k hL h2
   have hkj:k≤j:=by
    rcases h2 with rfl|h2
    ·exact a9 _
    ·exact Nat.le_of_lt (F.lt j k h2)
   have hne:k≠i:=fun e=>hi (e ▸ hLk)
   refine e0 n ?_
   rcases d4 k i with h|h
   ·have:=T.ln_mono (i:=k+1) (j:=i) h (by omega)
    omega
   ·have:=T.ln_mono (i:=i+1) (j:=k) (by omega) (by omega)
    omega
 have e3:∀ n,Dx (Dp T D i) (T.ln i) h1.length n→m'' n=m' n:=by
  rintro n (hn|hn)
  ·rw[e0 n (by have:=hDp n hn;omega),hp.agree n hn]
  ·exact b8 ⟨hn.1,by rw[hln];exact hn.2⟩
 have sub:∀ n,Dx (Dp T D i) (T.ln i) h1.length n→Dm T D i n:=by
  rintro n (hn|hn)
  ·exact hn.dm
  ·exact .inr ⟨i,.inl rfl,hn.1,by rw[hln];exact hn.2⟩
 have hb:=hp.below
 have hown:∀ n,T.ln i≤n→n<T.ln (i+1)→Dx (Dp T D i) (T.St i).h.length h1.length n:=fun n h2 h3=>.inr ⟨h2,by rw[← hln];exact h3⟩
 have hget:∀ n,T.ln i≤n→(T.St (i+1)).h[n]?=h1[n]?:=by
  intro n hn
  rw[hs,b7 hn,g7]
  congr 1
  unfold Trace.ln at *
  omega
 have inown:∀ j n,T.ln j≤n→n<T.ln (j+1)→Dm T D j n:=fun j n h2 h3=>.inr ⟨j,.inl rfl,h2,h3⟩
 refine⟨m'',by simp[hI.size],eW hI.down hsz hpre,fun n hn=>(e1 n hn).trans (hI.agree n hn),?_,hI.below.trans (hb.mono hA.rel.le),.inl ⟨?_,?_,?_,?_,?_⟩⟩
 ·exact hI.tmps.put F ho hI.size (hv.mono sub e3) e1 e2
 ·intro j hj hL h2
  rcases Ls.set hL with rfl|hL
  ·omega
  ·exact hA.noc j hj hL h2
 ·exact (hA.rel.frame hb).congr e1
 ·exact hA.bel.trans (hb.mono hA.bel.size)
 ·intro j n b hj hL h2 h3 hbk
  rcases Ls.set hL with rfl|hL
  ·rw[hget n h2] at hbk
   have hd:=hown n h2 h3
   refine⟨(hp.rel.ok n b hd hbk).mono sub e3 (e3 n hd),fun hne=>?_,(hp.rel.own n b hd h2 hbk).congr (e3 n hd)⟩
   rw[e3 n hd]
   exact⟨hp.rel.lt n b hd hbk hne,e6 hA.bel.size (hp.rel.base n b hd h2 hbk hne)⟩
  ·obtain⟨h4,h5,h6⟩:=hA.blk j n b hj hL h2 h3 hbk
   have en:=e2 j n hj hL (inown j n h2 h3)
   have hkeep:b ≠ .dead→w'.heap[(m n).block]?=w.heap[(m n).block]?:=fun hd=>hb.block _ (h5 hd).1
   refine⟨(h4.keep hkeep).mono (fun _ h=>h) (fun k hk=>e2 j k hj hL hk) en,fun hne=>?_,(h6.keep hkeep).congr en⟩
   rw[en]
   exact⟨d7 (h5 hne).1 hb.size,(h5 hne).2⟩
 ·intro j n b j' n' b' hj hL h2 h3 hbk hd hj' hL' h2' h3' hbk' hd' he
  rcases Ls.set hL with rfl|hLo
  ·rw[hget n h2] at hbk
   have hdn:=hown n h2 h3
   rcases Ls.set hL' with rfl|hLo'
   ·rw[hget n' h2'] at hbk'
    have hdn':=hown n' h2' h3'
    rw[e3 n hdn,e3 n' hdn'] at he
    exact hp.rel.inj n n' b b' hdn hdn' h2 h2' hbk hbk' hd hd' he
   ·have en:=e2 j' n' hj' hLo' (inown j' n' h2' h3')
    rw[e3 n hdn,en] at he
    have x1:=hp.rel.base n b hdn h2 hbk hd
    have x2:=((hA.blk j' n' b' hj' hLo' h2' h3' hbk').2.1 hd').1
    omega
  ·have en:=e2 j n hj hLo (inown j n h2 h3)
   rcases Ls.set hL' with rfl|hLo'
   ·rw[hget n' h2'] at hbk'
    have hdn':=hown n' h2' h3'
    rw[en,e3 n' hdn'] at he
    have x1:=hp.rel.base n' b' hdn' h2' hbk' hd'
    have x2:=((hA.blk j n b hj hLo h2 h3 hbk).2.1 hd).1
    omega
   ·have en':=e2 j' n' hj' hLo' (inown j' n' h2' h3')
    rw[en,en'] at he
    exact hA.inj j n b j' n' b' hj hLo h2 h3 hbk hd hj' hLo' h2' h3' hbk' hd' he
theorem HA.ready(F:RegF ops ms)(hA:HA T B lo D w0 listed w m){i:Nat}(hil:i<ops.size)(hk:T.kd i=1)(hpre:∀ j,(aC ms i).testBit j=true→Ls listed j):Rel w.heap.size (T.ln i) (Dp T D i) m (T.St i).h w:=by
 have hc:∀ k,k<i→T.kd k≠2:=fun k hk' h2=>by have:=T.tame_first hil hk h2;omega
 have old:∀ n,D n→(T.St i).h[n]?=h0[n]?:=fun n hn=>by
  rw[T.front (f0 i) (by omega) (fun k _ hk=>hc k hk) (by rw[Trace.ln0];exact hA.rel.dom n hn),T.st0]
 have hDp:∀ n,Dp T D i n→n<T.ln i:=by
  rintro n (hn|⟨j,h2,h3,h4⟩)
  ·exact d7 (by rw[Trace.ln0];exact hA.rel.dom n hn) (T.ln_mono (f0 i) (by omega))
  ·exact d7 h4 (T.ln_mono (F.lt i j h2) (by omega))
 have ok:∀ n b,Dp T D i n→(T.St i).h[n]?=some b→BlkOk (Dp T D i) m w n b∧(b ≠ .dead→(m n).block<w.heap.size):=by
  rintro n b (hn|⟨j,h2,h3,h4⟩) hb
  ·rw[old n hn] at hb
   exact⟨(hA.rel.ok n b hn hb).mono (fun _=>.inl) (fun _ _=>rfl) rfl,hA.rel.lt n b hn hb⟩
  ·have hji:=F.lt i j h2
   rw[T.front (i:=j+1) hji (by omega) (fun k _ hk=>hc k hk) h4] at hb
   obtain⟨x1,x2,_⟩:=hA.blk j n b (by omega) (hpre j h2) h3 h4 hb
   exact⟨x1.mono (fun k hk=>hk.of_pred F h2) (fun _ _=>rfl) rfl,fun hd=>(x2 hd).1⟩
 refine⟨a9 _,hDp,fun n b hn hb=>(ok n b hn hb).1,fun n b hn hb=>(ok n b hn hb).2,?_,fun n b hn _ hb=>(ok n b hn hb).2,?_,?_,hA.rel.gl.mono (fun _=>.inl) (fun _ _=>rfl) hA.rel.le⟩
 ·intro n b hn hl;have:=hDp n hn;omega
 ·intro n b hn hl;have:=hDp n hn;omega
 ·intro n n' b b' hn hn' hl;have:=hDp n hn;omega
end
end Go.Rex
namespace Go.Rex
open Go.RowKit
section
variable {C:Ctx} {P:Program} {ops:Array Oper} {ms:List Nat} {tm0:List Value} {h0:List Blk} {T:Trace C P ops ms tm0 h0} {B lo:Nat} {D:Nat→Prop} {m0:NMap} {w0:World} {a0:Act}
variable {listed:Array Bool} {a:Act} {w:World} {m:NMap}
theorem Inv.chain_lt(hI:Inv T B lo D m0 w0 a0 listed a w m){i j:Nat}(hi:¬ Ls listed i)(hk:T.kd i=2)(hj:j<ops.size)(hL:Ls listed j)(hkj:T.kd j≠0):j<i:=by
 have hne:j≠i:=fun e=>hi (e ▸ hL)
 rcases T.kd_le hj with h|h|h
 ·exact absurd h hkj
 ·exact T.tame_first hj h hk
 ·rcases d4 j i with h'|h'
  ·exact h'
  ·exact absurd (hI.down j i hL (T.chain_waits (i:=j) (j:=i) (by omega) hj h (by omega))) hi
theorem Inv.ready(F:RegF ops ms)(hr0:Rel B lo D m0 h0 w0)(hlo:lo≤h0.length)(hI:Inv T B lo D m0 w0 a0 listed a w m){i:Nat}(hil:i<ops.size)(hi:¬ Ls listed i)(hpre:∀ j,(aC ms i).testBit j=true→Ls listed j)(hk:T.kd i=2) :
 Rel B lo (Dx D h0.length (T.ln i)) m (T.St i).h w:=by
 have hl:∀ k,k<i→T.kd k≠0→Ls listed k:=fun k hki hkk=>hpre k (T.chain_waits hki hil hk hkk)
 rcases hI.heap with hA|⟨q,h1,h2,h3,h4,h5⟩
 ·exact hA.full hr0 hlo hI.agree F (by omega) hl
 ·have hq:=hI.chain_lt hi hk h1 h3 (by omega)
  have hs:=T.same (i:=q+1) (j:=i) hq (by omega) fun k hk1 hk2=>by
   by_cases h0:T.kd k=0
   ·exact h0
   ·have hLk:=hl k hk2 h0
    rcases T.kd_le (i:=k) (by omega) with h|h|h
    ·exact h
    ·have:=T.tame_first (by omega) h h2;omega
    ·have:=h4 k (by omega) hLk h;omega
  have hln:T.ln i=T.ln (q+1):=by unfold Trace.ln;rw[hs]
  rw[hln,hs]
  exact h5
theorem Inv.chain(F:RegF ops ms)(hI:Inv T B lo D m0 w0 a0 listed a w m){i:Nat}{o:Oper}(ho:ops[i]?=some o)(hi:¬ Ls listed i)(hpre:∀ j,(aC ms i).testBit j=true→Ls listed j)(hk:T.kd i=2)
 {h1:List Blk} {v':Value} {w':World} {m':NMap} (hs:(T.St (i+1)).h=h1) (hp:Post B lo (Dx D h0.length (T.ln i)) m (T.St i).h w m' h1 w') (hv:VR (Dx (Dx D h0.length (T.ln i)) (T.ln i) h1.length) m' (T.V i) v') :
 Inv T B lo D m0 w0 a0 (listed.setIfInBounds i true) (a.put o.dst v') w' m':=by
 have hil:=aT ho
 have hsz:i<listed.size:=by rw[hI.size];exact hil
 have hgr:T.ln i≤h1.length:=hp.grow
 have hln:T.ln (i+1)=h1.length:=by unfold Trace.ln;rw[hs]
 have h0l:h0.length≤T.ln i:=by rw[← Trace.ln0 (T:=T)];exact T.ln_mono (f0 _) (by omega)
 have hnew:∀ j n,j<ops.size→Ls listed j→Dm T D j n→m' n=m n:=by
  rintro j n hj hL (hn|⟨k,h2,h3,h4⟩)
  ·exact hp.agree n (.inl hn)
  ·have hLk : Ls listed k := by
     rcases h2 with rfl|h2
     ·exact hL
     ·exact hI.down j k hL h2
   have hkj:k≤j:=by
    rcases h2 with rfl|h2
    ·exact a9 _
    ·exact Nat.le_of_lt (F.lt j k h2)
   have hki:=hI.chain_lt hi hk (j:=k) (by omega) hLk (T.loud (by omega) h3 h4)
   refine hp.agree n (.inr ⟨?_,d7 h4 (T.ln_mono hki (by omega))⟩)
   rw[← Trace.ln0 (T:=T)]
   exact e6 (T.ln_mono (f0 _) (by omega)) h3
 have hfull:Dx (Dx D h0.length (T.ln i)) (T.ln i) h1.length=Dx D h0.length (T.ln (i+1)):=by rw[hln];exact Dx.trans h0l hgr
 have sub:∀ n,Dx D h0.length (T.ln (i+1)) n→Dm T D i n:=by
  rintro n (hn|hn)
  ·exact .inl hn
  ·obtain⟨j,h2,h3,h4⟩:=T.owner (i:=i+1) (by omega) (by rw[Trace.ln0];exact hn.1) hn.2
   refine .inr ⟨j,?_,h3,h4⟩
   rcases d4 j i with h|h
   ·exact .inr (T.chain_waits h hil hk (T.loud (by omega) h3 h4))
   ·exact .inl (by omega)
 refine⟨by simp[hI.size],eW hI.down hsz hpre,fun n hn=>(hp.agree n (.inl hn)).trans (hI.agree n hn),?_,hI.below.trans hp.below,.inr ⟨i,hil,hk,.mk hsz (.inl rfl),fun j hj hL hc=>?_,?_⟩⟩
 ·exact hI.tmps.put F ho hI.size (by rw[hfull] at hv;exact hv.mono sub (fun _ _=>rfl)) (fun n hn=>hp.agree n (.inl hn)) hnew
 ·rcases Ls.set hL with rfl|hL
  ·exact a9 _
  ·exact Nat.le_of_lt (hI.chain_lt hi hk hj hL (by omega))
 ·have:=hp.rel
  unfold Trace.ln at hfull
  rw[hs] at hfull ⊢
  unfold Trace.ln
  rw[hs]
  rwa [hfull] at this
theorem Inv.done(F:RegF ops ms)(hr0:Rel B lo D m0 h0 w0)(hlo:lo≤h0.length)(hI:Inv T B lo D m0 w0 a0 listed a w m)(hall:∀ i,i<ops.size→Ls listed i) :
 Post B lo D m0 h0 w0 m (T.St ops.size).h w∧VRs (Dx D h0.length (T.ln ops.size)) m (T.St ops.size).tm a.tmps.toList∧a.defers=a0.defers:=by
 have h0l:h0.length≤T.ln ops.size:=by rw[← Trace.ln0 (T:=T)];exact T.ln_mono (f0 _) (a9 _)
 have hrel:Rel B lo (Dx D h0.length (T.ln ops.size)) m (T.St ops.size).h w:=by
  rcases hI.heap with hA|⟨q,h1,h2,h3,h4,h5⟩
  ·exact hA.full hr0 hlo hI.agree F (a9 _) fun k hk _=>hall k hk
  ·have hs := T.same (i := q + 1) (j := ops.size) h1 (a9 _) fun k hk1 hk2 => by
     rcases T.kd_le (i:=k) (by omega) with h|h|h
     ·exact h
     ·have:=T.tame_first (by omega) h h2;omega
     ·have:=h4 k (by omega) (hall k hk2) h;omega
   have hln:T.ln ops.size=T.ln (q+1):=by unfold Trace.ln;rw[hs]
   rw[hln,hs]
   exact h5
 refine⟨⟨hI.agree,hrel,hI.below,h0l⟩,⟨by rw[hI.tmps.len,T.tm_len (a9 _)],fun t v v' hv hv'=>?_⟩,hI.tmps.df⟩
 have hlen:=T.tm_len (i:=ops.size) (a9 _)
 have htl:t<tm0.length:=by
  obtain⟨h1,_⟩:=a7.1 hv
  rw[hlen] at h1
  exact h1
 by_cases hw:∃(j:Nat) (p:Oper),ops[j]?=some p∧p.dst=some t
 ·obtain⟨j,p,hp,hd⟩:=hw
  have hj:=aT hp
  rw[T.tm_new F hj (a9 _) hp hd htl] at hv
  obtain rfl:=a6 hv
  refine (hI.tmps.new j p t v' hp (hall j hj) hd hv').mono ?_ (fun _ _=>rfl)
  rintro n (hn|⟨k,h2,h3,h4⟩)
  ·exact .inl hn
  ·have hkj : k ≤ j := by
     rcases h2 with rfl|h2
     ·exact a9 _
     ·exact Nat.le_of_lt (F.lt j k h2)
   refine .inr ⟨?_,d7 h4 (T.ln_mono (by omega) (a9 _))⟩
   rw[← Trace.ln0 (T:=T)]
   exact e6 (T.ln_mono (f0 _) (by omega)) h3
 ·rw[T.tm_old (a9 _) fun k o _ ho hd=>hw ⟨k,o,ho,hd⟩] at hv
  exact (hI.tmps.old t v v' (fun k o ho _ hd=>hw ⟨k,o,ho,hd⟩) hv hv').mono (fun _=>.inl) (fun _ _=>rfl)
theorem kT{i:Nat}(hsz:listed.size=ops.size)(hi:i∈Region.ready .any ops listed):i<ops.size∧¬ Ls listed i∧∃ o,ops[i]?=some o∧∀ e∈o.after,Region.binds .any e=true→Ls listed e.on:=by
 obtain⟨h1,o,ho,h2⟩:=mem_ready.1 hi
 have hil:=aT ho
 refine⟨hil,fun h=>?_,o,ho,fun e he hb=>h2 e he hb⟩
 unfold Ls at h
 have hl:i<listed.size:=by omega
 simp only[Array.getD_eq_getD_getElem?,Array.getElem?_eq_getElem hl,Option.getD_some] at h h1
 rw[h1] at h
 cases h
theorem Inv.pre(F:RegF ops ms)(hI:Inv T B lo D m0 w0 a0 listed a w m){i:Nat}{o:Oper}(ho:ops[i]?=some o)(h:∀ e∈o.after,Region.binds .any e=true→Ls listed e.on):∀ j,(aC ms i).testBit j=true→Ls listed j:=by
 intro j hj
 obtain⟨e,he,hb,h2⟩:=(F.wait i o ho j).1 hj
 rcases h2 with rfl|h2
 ·exact h e he hb
 ·exact hI.down e.on j (h e he hb) h2
theorem hH(F:RegF ops ms)(hsz:listed.size=ops.size)(h:Region.ready .any ops listed=[]):∀ i,i<ops.size→Ls listed i:=by
 intro i
 induction i using Nat.strongRecOn with
 | _ i ih =>
 intro hi
 by_cases hL:Ls listed i
 ·exact hL
 ·exfalso
  have ho:ops[i]?=some ops[i]:=c9 hi
  have:i∈Region.ready .any ops listed:=by
   refine mem_ready.2 ⟨?_,ops[i],ho,fun e he hb=>ih e.on (F.lt i e.on ((F.wait i _ ho e.on).2 ⟨e,he,hb,.inl rfl⟩)) ?_⟩
   ·unfold Ls at hL
    have hl:i<listed.size:=by omega
    simp only[Array.getD_eq_getD_getElem?,Array.getElem?_eq_getElem hl,Option.getD_some] at hL ⊢
    simpa using hL
   ·have:=F.lt i e.on ((F.wait i _ ho e.on).2 ⟨e,he,hb,.inl rfl⟩)
    omega
  rw[h] at this
  cases this
theorem count_set{i:Nat}(hi:i<listed.size)(hL:¬ Ls listed i):(listed.setIfInBounds i true).toList.count false+1=listed.toList.count false:=by
 have hl:i<listed.toList.length:=by simpa using hi
 have hv:listed.toList[i]=false:=by
  unfold Ls at hL
  simp only[Array.getD_eq_getD_getElem?,Array.getElem?_eq_getElem hi,Option.getD_some] at hL
  simpa using hL
 rw[Array.toList_setIfInBounds,List.count_set hl,hv]
 have:0<listed.toList.count false:=List.count_pos_iff.2 (hv ▸ List.getElem_mem hl)
 rw[b8 (show (false==false)=true from rfl),d5 (show ¬(true==false)=true by decide)]
 omega
theorem Inv.all(hC:CtxOk P C)(F:RegF ops ms)(hr0:Rel B lo D m0 h0 w0)(hlo:lo≤h0.length)(hwr:WrOk lo (T.St ops.size).wr){ro:Option Nat}{n:Nat}{Q:Exit→Act→World→Prop}
 (hQ:∀ a' w' m',Post B lo D m0 h0 w0 m' (T.St ops.size).h w'→VRs (Dx D h0.length (T.ln ops.size)) m' (T.St ops.size).tm a'.tmps.toList→a'.defers=a0.defers→Q .normal a' w') :
 ∀(fuel:Nat) (listed:Array Bool) (a:Act) (w:World) (m:NMap),Inv T B lo D m0 w0 a0 listed a w m→listed.toList.count false≤fuel→wpAnyIn (Fw ro) n P .any ops Q fuel listed a w:=by
 intro fuel
 induction fuel with
 | zero =>
  intro listed a w m hI hc
  have hno:Region.ready .any ops listed=[]:=by
   cases hr:Region.ready .any ops listed with
   | nil=>rfl
   | cons i l =>
    obtain⟨h1,h2,_⟩:=kT hI.size (hr ▸ List.mem_cons_self:i∈Region.ready .any ops listed)
    have:=count_set (by rw[hI.size];exact h1) h2
    omega
  obtain⟨h1,h2,h3⟩:=hI.done F hr0 hlo (hH F hI.size hno)
  exact⟨hno,hQ a w m h1 h2 h3⟩
 | succ fuel ih =>
  intro listed a w m hI hc
  refine⟨fun hno=>?_,fun i hir=>?_⟩
  ·obtain⟨h1,h2,h3⟩:=hI.done F hr0 hlo (hH F hI.size hno)
   exact hQ a w m h1 h2 h3
  ·obtain⟨hil,hi,o,ho,hedge⟩:=kT hI.size hir
   have hpre:=hI.pre F ho hedge
   have hcnt:=count_set (listed:=listed) (by rw[hI.size];exact hil) hi
   have hρ:=hI.tmps.operands (hr0.gl.mono (fun _ h=>h) hI.agree (a9 _) hI.below) F hI.down ho hi hpre
   have hwant:=hI.tmps.wanted F hI.down ho hi hpre
   unfold wpOpIn
   rw[ho]
   simp only
   rw[hwant]
   cases T.kdp i o ho with
   | skip kk vv hw hs =>
    rw[d5 (by rw[hw];simp)]
    refine⟨fun _ _=>trivial,?_⟩
    exact ih _ _ _ m (hI.quiet F ho hpre kk (by rw[vv];exact VR.undef)) (by omega)
   | pure kk hw hp hs =>
    rw[b8 hw]
    obtain⟨v',w',h1,hst,h2⟩:=lX hρ hp w
    refine⟨fun _ _=>trivial,?_⟩
    show o.uponIn (Fw ro) n P a _ Q ((o.semAt ro a.eval).run P w)
    rw[Oper.semAt_eq _ _ _ (iS hp),h1]
    exact ih _ _ _ m ((hI.quiet F ho hpre kk (h2.mono (fun _ h=>h.dm) (fun _ _=>rfl))).still hst) (by omega)
   | tame kk h1 w1 hw hx hch hg hs hl =>
    rw[b8 hw]
    have hA:HA T B lo D w0 listed w m:=by
     rcases hI.heap with hA|⟨q,q1,q2,q3,q4,q5⟩
     ·exact hA
     ·exact absurd (hI.down q i q3 (T.chain_waits (T.tame_first hil kk q2) q1 q2 (by omega))) hi
    refine xop_in' hC (hA.ready F hil kk hpre) (a9 _) hρ hx (rH hg) _ fun v' w' m' hp hv=>?_
    obtain⟨m'',hI'⟩:=hI.tame F ho hi hpre kk hA (h1:=h1) (by rw[hs]) hp hv
    exact ih _ _ _ m'' hI' (by omega)
   | chain kk h1 w1 hw hx hn hl hs =>
    rw[b8 hw]
    have hR:=hI.ready F hr0 hlo hil hi hpre kk
    have hw1:WrOk lo w1:=by
     have:=T.wr_le (i:=i+1) (j:=ops.size) hil (a9 _) hwr
     rw[hs] at this
     exact this.min.2
    have h0l:h0.length≤T.ln i:=by rw[← Trace.ln0 (T:=T)];exact T.ln_mono (f0 _) (by omega)
    refine xop_in' hC hR (e6 hlo h0l) (fun x hx'=>(hρ x hx').mono ?_ (fun _ _=>rfl)) hx hw1 _ fun v' w' m' hp hv=>?_
    ·rintro k (hk|⟨j,h2,h3,h4⟩)
     ·exact .inl hk
     ·have hji:=F.lt i j h2
      refine .inr ⟨?_,d7 h4 (T.ln_mono hji (by omega))⟩
      rw[← Trace.ln0 (T:=T)]
      exact e6 (T.ln_mono (f0 _) (by omega)) h3
    ·exact ih _ _ _ m' (hI.chain F ho hi hpre kk (h1:=h1) (by rw[hs]) hp hv) (by omega)
end
theorem uB{P:Program}{C:Ctx}(hC:CtxOk P C)(hm:P.follows .mixedOrders=true){id:Nat}{ops:Array Oper}{tm tm':List Value}{h h':List Blk}{wr:Option Nat}(hv:dK C P ops tm h=some (tm',h',wr))
 {ro':Option Nat} {n B lo:Nat} {D:Nat→Prop} {m:NMap} {w:World} {a:Act} {Q:Exit→Act→World→Prop} (hr:Rel B lo D m h w) (hlo:lo≤h.length) (hA:VRs D m tm a.tmps.toList) (hw:WrOk lo wr)
 (hQ:∀ a' w' m',Post B lo D m h w m' h' w'→VRs (Dx D h.length h'.length) m' tm' a'.tmps.toList→a'.defers=a.defers→Q .normal a' w'):(Code.region id ops true).wpIn (Fw ro') n P Q a w:=by
 unfold dK at hv
 split at hv
 ·rename_i hok
  have F:=qM hok
  cases hx:aV C P ops (masks ops.toList []) ops.toList 0 { tm,h,np:=[],chain:=false,wr:=none } with
  | none=>rw[hx] at hv;cases hv
  | some s =>
   rw[hx] at hv
   obtain⟨rfl,rfl,rfl⟩:s.tm=tm'∧s.h=h'∧s.wr=wr:=by simpa using hv
   obtain⟨T,hT⟩:=oP hx
   have hrd:=hr.frame (w':=w.drew) ((Below.refl _ _).drew)
   have hno:∀ i,¬ Ls (Array.replicate ops.size false) i:=by
    intro i hi
    unfold Ls at hi
    simp only[Array.getD_eq_getD_getElem?,Array.getElem?_replicate] at hi
    split at hi<;>simp at hi
   refine wpIn_region_any hm ?_
   refine Inv.all (T:=T) (m0:=m) (w0:=w.drew) (a0:=a) hC F hrd hlo (by rw[hT];exact hw) ?_ ops.size _ a w.drew m ⟨by simp,fun i j hi=>absurd hi (hno i),fun _ _=>rfl,⟨rfl,hA.len,fun i o t v' _ hi=>absurd hi (hno i),fun t v v' _ h1 h2=>hA.at' t v v' h1 h2⟩,Below.refl _ _,
    .inl ⟨fun i _ hi=>absurd hi (hno i),hrd,Below.refl _ _,fun i n b _ hi=>absurd hi (hno i),fun i n b i' n' b' _ hi=>absurd hi (hno i)⟩⟩ ?_
   ·intro a' w' m' hp hvs hd
    unfold Trace.ln at hvs
    rw[hT] at hp hvs
    exact hQ a' w' m' ((Post.frame hr (w':=w.drew) ((Below.refl _ _).drew)).trans (by rw[Dx.refl];exact hp)) hvs hd
   ·rw[Array.toList_replicate,List.count_replicate];simp
 ·cases hv
end Go.Rex
