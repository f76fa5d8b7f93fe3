/- An executor of the program's functions on trees of values,proved sound. -/
import Derived.Test.YtplnankdicpenaaRexG10
import Derived.Test.YtplnankdicpenaaRexG7
set_option linter.unusedSimpArgs false
set_option linter.unusedVariables false
set_option linter.defProp false
namespace Go.Rex
open Go.RowKit
section
variable {Fz Fz':Nat→Prop} {h0 h h':List Blk} {L:Nat→LI} {s s':TS} {tm:List Value}
theorem St.other(hs:St h0 Fz L s tm h)(hlen:h.length≤h'.length)(hc:∀(n:Nat) eb cs,h[n]?=some (Blk.cells eb cs)→h'[n]?=some (Blk.cells eb cs))(hF:∀(n:Nat) eb cs,Fz n→h[n]?=some (Blk.cells eb cs)→Fz' n)
 (hN:∀(n:Nat) eb cs,Fz' n→h[n]?=some (Blk.cells eb cs)→Fz n) (hz:∀ n,Fz' n→n<h'.length) (hx:Ext h0 h'):St h0 Fz' L s tm h':=by
 have hF':∀(n:Nat) eb cs,Fz n→h[n]?=some (Blk.cells eb cs)→Fz' n∧h'[n]?=some (Blk.cells eb cs):=fun n eb cs a b=>⟨hF n eb cs a b,hc n eb cs b⟩
 refine⟨hs.tmr.cells hF',fun n b hb=>?_,hs.dom,hs.inj,hs.fz.cells hF' hz,hx⟩
 have h1:=hs.blk n b hb
 cases b with
 | dead=>trivial
 | rows es rows =>
  obtain⟨a1,a2,a3,a4,a5⟩:=h1
  refine⟨a1,a2,a3,a4,?_⟩
  rcases a5 with a5|⟨nm,cs,b1,b2,b3,b4,b5⟩
  ·exact .inl a5
  ·exact .inr ⟨nm,cs,b1,b2,fun hf=>b3 (hN nm _ _ hf b4),hc nm _ _ b4,b5.cells hF'⟩
 | var row =>
  obtain⟨a1,nm,cs,b1,b2,b3,b4,b5⟩:=h1
  exact⟨a1,nm,cs,b1,b2,fun hf=>b3 (hN nm _ _ hf b4),hc nm _ _ b4,b5.cells hF'⟩
theorem Jn{l:Nat}{b:Blk}(hx:Ext h0 h)(hl:h0.length≤l):Ext h0 (h.set l b):=by
 obtain⟨t,rfl⟩:=hx
 exact⟨t.set (l-h0.length) b,by rw[List.set_append_right _ _ hl]⟩
def tset:List Tmp→List TV→List TV→List TV
 | p::ps,v::vs,tmps=>tset ps vs (tmps.set p v)
 | _,_,tmps=>tmps
theorem Qs:∀(ps:List Tmp) {vs:List TV} {xs:List Value} {T:List TV} {vm:List Value},VLs Fz h L vs xs→VLs Fz h L T vm→VLs Fz h L (tset ps vs T) (kK ps xs vm)
 | [],vs,xs,T,vm,hv,ht=>by cases vs<;>cases xs<;>exact ht
 | p::ps,[],xs,T,vm,hv,ht=>by
  have:xs=[]:=by have:=hv.len;simpa using this
  subst this;exact ht
 | p::ps,v::vs,xs,T,vm,hv,ht=>by
  obtain⟨x,xs',rfl⟩:∃ x xs',xs=x::xs':=by
   cases xs with
   | nil=>have:=hv.len;simp at this
   | cons a b=>exact⟨a,b,rfl⟩
  simp only[tset,kK]
  exact Qs ps ⟨by have:=hv.len;simpa using this,fun i p y h1 h2=>hv.at' (i+1) p y (by simpa using h1) (by simpa using h2)⟩ (ht.set p (hv.at' 0 v x rfl rfl))
theorem xT{i:Nat}:∀(ps:List Tmp) (xs vm:List Value),i ∉ ps→(kK ps xs vm)[i]?=vm[i]?
 | [],xs,vm,_=>by simp[kK]
 | p::ps,[],vm,_=>by simp[kK]
 | p::ps,x::xs,vm,h=>by
  simp only[List.mem_cons,not_or] at h
  simp only[kK]
  rw[xT ps xs _ h.2,List.getElem?_set_ne (Ne.symm h.1)]
end
def xcode:Exit→Code
 | .ret=>.ret
 | .exit id=>.exit id
 | _=>.skip
def rend(e:Exit)(l:Nat)(h:List Blk)(w:Option Nat):AOut:=match e with
 | .normal=>jV l none h w
 | .ret=>jV l (some .ret) h w
 | .exit id=>jV l (some (.exit id)) h w
 | _=>none
def hand{E σ ε:Type}(step:E→σ→Option (σ ⊕ ε))(e:E)(x:σ ⊕ ε):Option (Bool×(σ ⊕ ε)):=
 match x with
 | .inl y=>(step e y).map fun r=>match r with
  | .inl y'=>(true,.inl y')
  | .inr z=>(false,.inr z)
 | .inr _=>none
def noslot(T:List TV)(i:Nat):Bool:=match T[i]? with
 | some .Z=>true
 | none=>true
 | _=>false
section
variable {P:Program}
theorem TM.range{E σ ε:Type}{enc:E→List TV}{it:{X:Type}→(E→X→Option (Bool×X))→X→Option X}{step:E→σ→Option (σ ⊕ ε)}{x0:σ}{x':σ ⊕ ε}{gf:FuncId}{first caps T:List TV}{g:Operand}{ps:Array Tmp}{assign body:Code}{Q:Exit→TS→Prop}
 (hit:it (hand step) (.inl x0)=some x') (I:σ→List TB) (J:ε→List TB) (xc:ε→Exit) (hg:tev T g = .func gf first caps) (hgo:lF g=true) (hfd:aP P gf=true) (hsp:ISpec (lim P) gf first caps enc it)
 (hna:dX assign=true) (hnb:dX body=true) (hT:(ps.toList++(cdsts assign++cdsts body)).all (noslot T)=true) (hlen:∀ e,(enc e).length=ps.size) (hxc:∀ z,xc z = .ret∨∃ id,xc z = .exit id)
 (hround:∀ e y r,step e y=some r→TX (lim P) P assign ⟨tset ps.toList (enc e) T,I y⟩ (fun ex s1=>ex = .normal∧TX (lim P) P body s1 (fun ex s2=>match (generalizing:=false) r with
  | .inl y'=>ex = .normal∧Wk s2 ⟨T,I y'⟩
  | .inr z=>ex=xc z∧Wk s2 ⟨T,J z⟩)))
 (hq:match (generalizing:=false) x' with
  | .inl y=>Q .normal ⟨T,I y⟩
  | .inr z=>Q (xc z) ⟨T,J z⟩):TM (lim P) P (.rangeFunc g ps assign body) ⟨T,I x0⟩ Q:=by
 intro h0 Fz0 L0 vm df h hs hm
 have hgv:=dR hs.fz hs.tmr g
 rw[show tev (TS.mk T (I x0)).tm g=_ from hg] at hgv
 obtain⟨vf,vc,hge,vlf,vlc⟩:∃ f' c',ev vm g = .func (.func gf) ⟨f'⟩ ⟨c'⟩∧VLs Fz0 h noL first f'∧VLs Fz0 h noL caps c':=by
  generalize ev vm g=y at *
  cases hgv with
  | func _ _ _ _ a' b' la ha lb hb=>exact⟨a',b',rfl,⟨la,ha⟩,⟨lb,hb⟩⟩
 have hle0:=hs.ext.le
 have hz0:=hs.fz
 let d:=h.length
 let l:=h.length+1
 let LB:LoopState→Option Code→Blk:=fun st pe=>.loop st pe vm ps assign body d
 let h2:List Blk:=h++[.dfr]++[LB .ready none]
 have h2len:h2.length=h.length+2:=by simp[h2]
 have h2old:∀ n,n<h.length→h2[n]?=h[n]?:=fun n hn=>by
  simp only[h2,List.append_assoc];exact List.getElem?_append_left hn
 have h2d:h2[d]?=some .dfr:=by simp[h2,d]
 have h2l:h2[l]?=some (LB .ready none):=by simp[h2,l]
 let Fz1:Nat→Prop:=fun n=>Fz0 n∨n∈d::df
 have mk:∀ m,m∈d::df→h0.length≤m∧h2[m]?=some .dfr:=fun m hm'=>by
  rcases List.mem_cons.1 hm' with rfl|hm'
  ·exact⟨hle0,h2d⟩
  ·obtain⟨a,b⟩:=hm.2 m hm'
   exact⟨a,by rw[h2old m (List.getElem?_eq_some_iff.1 b).1];exact b⟩
 have hF1l:¬ Fz1 l:=by
  rintro (a|a)
  ·have:=hz0 l a;simp only[l] at this;omega
  ·have:=(mk l a).2;rw[h2l] at this;simp[LB] at this
 have hz1:∀ n,Fz1 n→n<h2.length:=fun n hn=>by
  rcases hn with a|a
  ·have:=hz0 n a;omega
  ·exact (List.getElem?_eq_some_iff.1 (mk n a).2).1
 let PB:σ ⊕ ε→List TB:=fun x=>match x with
  | .inl y=>I y
  | .inr z=>J z
 let SB:σ ⊕ ε→Blk:=fun x=>match x with
  | .inl y=>LB .ready none
  | .inr z=>LB .done (some (xcode (xc z)))
 have SBn:∀ x,SB x ≠ .dead∧∀ es cs,SB x ≠ .cells es cs:=fun x=>by cases x<;>simp[SB,LB]
 let R:σ ⊕ ε→(Nat→Prop)→List Blk→Prop:=fun x Fz h'=>(∀ n,Fz1 n→Fz n)∧(∀ n,Fz n→Fz1 n∨h0.length≤n)∧(∀ n,Fz1 n→h'[n]?=h2[n]?)∧¬ Fz l∧(∃ L,St h0 Fz L ⟨T,PB x⟩ vm h')∧h'[l]?=some (SB x)
 have hstay:∀ {x:σ ⊕ ε} {Fz Fz':Nat→Prop} {h h':List Blk},R x Fz h→Ext h h'→Grow h Fz Fz' h h'→(FZ Fz' h')→R x Fz' h':=by
  rintro x Fz Fz' ha hb ⟨r1,r2,r3,r4,⟨L,r5⟩,r6⟩ hx g hz
  have hll:=(List.getElem?_eq_some_iff.1 r6).1
  refine⟨fun n hn=>g.1 n (r1 n hn),fun n hn=>?_,fun n hn=>(g.3 n (r1 n hn)).trans (r3 n hn),fun hf=>?_,⟨L,r5.heap hx g.1 (fun n hn=>?_)⟩,?_⟩
  ·rcases g.2 n hn with a|a
   ·exact r2 n a
   ·exact .inr (Nat.le_trans r5.ext.le a)
  ·rcases g.2 l hf with a|a
   ·exact r4 a
   ·omega
  ·rcases g.2 n hn with a|a
   ·exact .inl a
   ·exact .inr ⟨a,hz n hn⟩
  ·obtain⟨t,rfl⟩:=hx
   rw[List.getElem?_append_left hll];exact r6
 let O:Out (σ ⊕ ε):=⟨h0.length,h.length+2,R,by omega,hstay⟩
 have hY:Yields (lim P) O l enc (hand step):=by
  intro x Fz hA e as b x2 hR hz hbase hav hH
  obtain⟨r1,r2,r3,r4,⟨L,r5⟩,r6⟩:=hR
  have hlA:=(List.getElem?_eq_some_iff.1 r6).1
  cases x with
  | inr z=>simp[hand] at hH
  | inl y =>
   simp only[hand,Option.map_eq_some_iff] at hH
   obtain⟨r,hstep,hr⟩:=hH
   have r6':hA[l]?=some (LB .ready none):=r6
   have hnc:∀ es cs,hA[l]?≠some (.cells es cs):=fun es cs=>by rw[r6'];simp[LB]
   have r5':St h0 (fun n=>Fz n∨n=l) L ⟨T,I y⟩ vm hA:=r5.other (Nat.le_refl _) (fun n eb cs hn=>hn) (fun n eb cs hf _=>.inl hf) (fun n eb cs hf hn=>by
    rcases hf with hf|rfl
    ·exact hf
    ·exact absurd hn (hnc eb cs)) (fun n hn=>by
    rcases hn with hn|rfl
    ·exact hz n hn
    ·exact hlA) r5.ext
   have hav':VLs (fun n=>Fz n∨n=l) hA L (enc e) as:=(hav.mono (fun n hn=>.inl hn) (fun n _=>rfl)).ofNo
   have hst:St h0 (fun n=>Fz n∨n=l) L ⟨tset ps.toList (enc e) T,I y⟩ (kK ps.toList as vm) hA:=⟨Qs ps.toList hav' r5'.tmr,r5'.blk,r5'.dom,r5'.inj,r5'.fz,r5'.ext⟩
   obtain⟨K1,e1,⟨tm1,df1⟩,hB,w1,x1,wg1,hd1,s1,F1,L1,⟨rfl,hbody⟩,g1,hs1⟩:=hround e y r hstep h0 _ L _ hA hst
   obtain rfl:df1=[]:=hd1
   have kB:hB[l]?=some (LB .ready none):=(g1.3 l (.inr rfl)).trans r6'
   have kl1:=(fR (pD (P:=P)) K1 assign x1).1.1
   have hncB:∀ es cs,hB[l]?≠some (.cells es cs):=fun es cs=>by rw[kB];simp[LB]
   have hlo:h0.length≤l:=by simp only[l];omega
   have hs1':St h0 F1 L1 s1 tm1 (hB.set l (LB .busy none)):=hs1.other (by simp) (fun n eb cs hn=>by rw[List.getElem?_set_ne (by rintro rfl;exact hncB _ _ hn)];exact hn) (fun n eb cs hf _=>hf) (fun n eb cs hf _=>hf) (fun n hn=>by simpa using hs1.fz n hn) (Jn hs1.ext hlo)
   have hlB:=(List.getElem?_eq_some_iff.1 kB).1
   obtain⟨K2,e2,⟨tm2,df2⟩,hC,w2,x2',wg2,hd2,s2,F2,L2,hend,g2,hs2⟩:=hbody h0 F1 L1 tm1 _ hs1'
   obtain rfl:df2=[]:=hd2
   have kC:hC[l]?=some (LB .busy none):=(g2.3 l (g1.1 l (.inr rfl))).trans (by rw[List.getElem?_set_self hlB])
   have kl2:=(fR (pD (P:=P)) K2 body x2').1.1
   have kl2':hB.length≤hC.length:=by simpa using kl2
   have hncC:∀ es cs,hC[l]?≠some (.cells es cs):=fun es cs=>by rw[kC];simp[LB]
   have hlC:=(List.getElem?_eq_some_iff.1 kC).1
   have hxc2:(∀ z,r = .inr z→e2=xc z)∧(∀ y',r = .inl y'→e2 = .normal)∧Wk s2 ⟨T,PB r⟩:=by
    cases r with
    | inl y'=>exact⟨fun z h=>(nomatch h),fun _ _=>hend.1,hend.2⟩
    | inr z=>exact⟨fun z' h=>(by cases h;exact hend.1),fun _ h=>(nomatch h),hend.2⟩
   obtain⟨xe1,xe2,hwk⟩:=hxc2
   obtain⟨F3,L3,g3,hs3⟩:=hwk h0 F2 L2 tm2 hC hs2
   have h0l:h0.length≤l:=hlo
   have hslot:VLs F3 hC L3 T vm:=by
    refine⟨r5.tmr.len,fun i p v hp hv=>?_⟩
    by_cases hj:p = .Z
    ·subst hj;exact .Z _ _
    ·have hni : i ∉ ps.toList ++ (cdsts assign ++ cdsts body) := fun hi => by
       have:=List.all_eq_true.1 hT i hi
       unfold noslot at this
       rw[hp] at this
       cases p<;>first|exact hj rfl|cases this
     simp only[List.mem_append,not_or] at hni
     have q1:tm1[i]?=(kK ps.toList as vm)[i]?:=jH K1 assign x1 hna hni.2.1
     have q2:tm2[i]?=tm1[i]?:=jH K2 body x2' hnb hni.2.2
     refine hs3.tmr.at' i p v hp ?_
     show tm2[i]?=some v
     rw[q2,q1,xT _ _ _ hni.1]
     exact hv
   have hs3v:St h0 F3 L3 ⟨T,PB r⟩ vm hC:=⟨hslot,hs3.blk,hs3.dom,hs3.inj,hs3.fz,hs3.ext⟩
   have hs4:∀ b4:Blk,St h0 (fun n=>F3 n∧n≠l) L3 ⟨T,PB r⟩ vm (hC.set l b4):=fun b4=>hs3v.other (by simp) (fun n eb cs hn=>by rw[List.getElem?_set_ne (by rintro rfl;exact hncC _ _ hn)];exact hn)
    (fun n eb cs hf hn=>⟨hf,by rintro rfl;exact hncC _ _ hn⟩) (fun n eb cs hf _=>hf.1) (fun n hn=>by simpa using hs3v.fz n hn.1) (Jn hs3v.ext h0l)
   have hsz:as.length=ps.size:=by have:=hav.len;rw[hlen e] at this;exact this
   have hne:(e2 = .normal∧b=true∧∃ y',r = .inl y'∧x2 = .inl y')∨(∃ z,r = .inr z∧e2=xc z∧b=false∧x2 = .inr z):=by
    cases r with
    | inl y'=>simp only[Prod.mk.injEq] at hr;exact .inl ⟨xe2 y' rfl,hr.1.symm,y',rfl,hr.2.symm⟩
    | inr z=>simp only[Prod.mk.injEq] at hr;exact .inr ⟨z,rfl,xe1 z rfl,hr.1.symm,hr.2.symm⟩
   have hbx:x2=r∧∃ jump:Option Code,b=jump.isNone∧SB x2=LB (if jump.isNone then .ready else .done) jump∧rend e2 l hC (wmin w1 w2)=jV l jump hC (wmin w1 w2):=by
    rcases hne with⟨rfl,rfl,y',rfl,rfl⟩|⟨z,rfl,rfl,rfl,rfl⟩
    ·exact⟨rfl,none,rfl,rfl,rfl⟩
    ·refine⟨rfl,some (xcode (xc z)),rfl,rfl,?_⟩
     rcases hxc z with h|⟨id,h⟩<;>rw[h]<;>rfl
   obtain⟨rfl,jump,hb,hSB,hRE⟩:=hbx
   have hround':(lim P).round l as hA=some (.bool b,hC.set l (SB x2),wmin (some l) (wmin w1 w2)):=by
    refine Hw (K:=max K1 K2) ?_
    have p1:=fQ (C:=lim P) (P:=P) (ro:=some l) (max K1 K2) assign (kK ps.toList as vm) [] hA hna
    rw[jR (Nat.le_max_left K1 K2) x1,Option.map_some] at p1
    have p2:=fQ (C:=lim P) (P:=P) (ro:=some l) (max K1 K2) body tm1 [] (hB.set l (LB .busy none)) hnb
    rw[jR (Nat.le_max_right K1 K2) x2',Option.map_some] at p2
    unfold kX
    rw[r6']
    simp only[LB,hsz,and_self,if_true,true_and]
    rw[p1]
    simp only[kB,LB,if_true]
    simp only[LB] at p2
    rw[p2]
    show rend e2 l hC (wmin w1 w2)=_
    rw[hRE]
    unfold jV
    rw[kC]
    simp only[LB]
    rw[hSB,← hb]
   have hcalls:∀ n,Fz n→n≠l:=fun n hn=>by rintro rfl;exact r4 hn
   have hsame:∀ n,Fz n→(hC.set l (SB x2))[n]?=hA[n]?:=fun n hn=>by
    have hnl:=hcalls n hn
    rw[List.getElem?_set_ne (Ne.symm hnl),g2.3 n (g1.1 n (.inl hn)),List.getElem?_set_ne (Ne.symm hnl),g1.3 n (.inl hn)]
   refine⟨_,_,fun n=>F3 n∧n≠l,hround',?_,?_,by simp only[List.length_set];omega,fun n hn=>⟨g3.1 n (g2.1 n (g1.1 n (.inl hn))),hcalls n hn⟩,hsame,(hs4 (SB x2)).fz,?_⟩
   ·exact iV (by simpa [wge] using hlo) (iV wg1 wg2)
   ·have:wge (some l) (h.length+2)=false:=by simp[wge,l]
    cases hq':wge (wmin (some l) (wmin w1 w2)) O.base with
    | false=>rfl
    | true=>have:=(oD hq').1;simp[wge,l,O] at this
   ·refine⟨fun n hn=>⟨g3.1 n (g2.1 n (g1.1 n (.inl (r1 n hn)))),hcalls n (r1 n hn)⟩,fun n hn=>?_,fun n hn=>(hsame n (r1 n hn)).trans (r3 n hn),fun hf=>hf.2 rfl,⟨L3,hs4 (SB x2)⟩,by rw[List.getElem?_set_self hlC]⟩
    rcases g3.2 n hn.1 with a|a
    ·rcases g2.2 n a with a|a
     ·rcases g1.2 n a with (a|a)|a
      ·exact r2 n a
      ·exact absurd a hn.2
      ·exact .inr a
     ·exact .inr a
    ·exact .inr a
 have hs2:St h0 Fz0 L0 ⟨T,I x0⟩ vm h2:=hs.heap (Ext.trans (Ext.app h [.dfr]) (Ext.app _ _)) (fun n hn=>hn) (fun n hn=>.inl hn)
 have hs3:St h0 Fz1 L0 ⟨T,I x0⟩ vm h2:=hs2.other (Nat.le_refl _) (fun n eb cs hn=>hn) (fun n eb cs hf _=>.inl hf) (fun n eb cs hf hn=>by
  rcases hf with hf|hf
  ·exact hf
  ·have:=(mk n hf).2;rw[hn] at this;cases this) hz1 hs2.ext
 have hR0:R (.inl x0) Fz1 h2:=⟨fun n hn=>hn,fun n hn=>.inl hn,fun n _=>rfl,hF1l,⟨L0,hs3⟩,h2l⟩
 have up:∀ n,Fz0 n→h2[n]?=h[n]?:=fun n hn=>h2old n (hz0 n hn)
 obtain⟨v,h3,w,F4,hcall,wg,hlen3,hz4,hR4⟩:=hsp O l (hand step) (.inl x0) x' Fz1 h2 vf vc hY h2len hs3.fz hR0 (vlf.mono (fun n hn=>.inl hn) up) (vlc.mono (fun n hn=>.inl hn) up) hit
 obtain⟨r1,r2,r3,r4,⟨L,r5⟩,r6⟩:=hR4
 have hl3:=(List.getElem?_eq_some_iff.1 r6).1
 have hnc3:∀ es cs,h3[l]?≠some (.cells es cs):=fun es cs=>by rw[r6];intro h;exact (SBn x').2 es cs (Option.some.inj h)
 have hlo:h0.length≤l:=by simp only[l];omega
 have hfin:St h0 F4 L ⟨T,PB x'⟩ vm (h3.set l .dead):=r5.other (by simp) (fun n eb cs hn=>by rw[List.getElem?_set_ne (by rintro rfl;exact hnc3 _ _ hn)];exact hn) (fun n eb cs hf _=>hf) (fun n eb cs hf _=>hf) (fun n hn=>by simpa using hz4 n hn) (Jn r5.ext hlo)
 have hnl1:∀ n,Fz1 n→n≠l:=fun n hn=>by rintro rfl;exact hF1l hn
 have hMk:Mk h0.length (d::df) (h3.set l .dead):=by
  refine⟨List.nodup_cons.2 ⟨fun hd=>?_,hm.1⟩,fun m hm'=>⟨(mk m hm').1,?_⟩⟩
  ·have:=(List.getElem?_eq_some_iff.1 (hm.2 d hd).2).1
   simp only[d] at this
   omega
  ·have hf:Fz1 m:=.inr hm'
   rw[List.getElem?_set_ne (Ne.symm (hnl1 m hf)),r3 m hf]
   exact (mk m hm').2
 have hG:Grow h0 Fz0 F4 h (h3.set l .dead):=by
  refine⟨fun n hn=>r1 n (.inl hn),fun n hn=>?_,fun n hn=>?_⟩
  ·rcases r2 n hn with (a|a)|a
   ·exact .inl a
   ·exact .inr (mk n a).1
   ·exact .inr a
  ·rw[List.getElem?_set_ne (Ne.symm (hnl1 n (.inl hn))),r3 n (.inl hn),up n hn]
 have hfdx : ∃ fd, P.funcs[gf]? = some fd ∧ (fd.body.isSome = true ∧ (fd.name == "runtime.NumGoroutine") = false) := by
  unfold aP at hfd
  split at hfd
  ·rename_i fd hf
   refine⟨fd,hf,?_⟩
   split at hfd
   ·rename_i c hc
    exact⟨by rw[hc];rfl,by simpa using hfd⟩
   ·cases hfd
  ·cases hfd
 obtain⟨fd,hf,hfb⟩:=hfdx
 have hrun:∀ r,pH ⟨vm,[d]++df⟩ l h3 w=r→exec (lim P) P none 1 (.rangeFunc g ps assign body) ⟨vm,df⟩ h=r:=by
  rintro r rfl
  simp only[exec,mW,hgo,if_true,hge,hf,hfb,and_self,sC]
  have e1:(h++[Blk.dfr]).length=l:=by simp[l]
  rw[e1]
  have e2:((h++[Blk.dfr])++[Blk.loop .ready none vm ps assign body h.length])=h2:=rfl
  have e3:(vf++([Value.func (.yield l) #[] #[]]++vc))=vf++(.func (.yield l) #[] #[]::vc):=rfl
  rw[e2,e3,hcall]
 cases x' with
 | inl y =>
  refine⟨1,.normal,⟨vm,[d]++df⟩,h3.set l .dead,w,hrun _ ?_,wg,hMk,_,F4,L,hq,hG,hfin⟩
  unfold pH
  rw[r6]
  simp[SB,LB]
 | inr z =>
  refine⟨1,xc z,⟨vm,[d]++df⟩,h3.set l .dead,w,hrun _ ?_,wg,hMk,_,F4,L,hq,hG,hfin⟩
  unfold pH
  rw[r6]
  rcases hxc z with h|⟨id,h⟩<;>simp[SB,LB,h,xcode]
variable {s:TS} {Q:Exit→TS→Prop}
instance {x y:Code}:Mv (TM (lim P) P (.seq x y) s Q) (TM (lim P) P x s (Cq (fun s=>TM (lim P) P y s Q) Q)):=⟨TM.seq⟩
instance {id:Nat} {b:Code}:Mv (TM (lim P) P (.block id b) s Q) (TM (lim P) P b s (lU id Q)):=⟨TM.block⟩
instance:Mv (TM (lim P) P .skip s Q) (Q .normal s):=⟨fun h=>TM.of pD rfl (TX.skip h)⟩
instance {id:Nat}:Mv (TM (lim P) P (.exit id) s Q) (Q (.exit id) s):=⟨fun h=>TM.of pD rfl (TX.exit h)⟩
instance:Mv (TM (lim P) P .ret s Q) (Q .ret s):=⟨fun h=>TM.of pD rfl (TX.ret h)⟩
instance {id:Nat} {ops:Array Oper} {d:Bool}:Mv (TM (lim P) P (.region id ops d) s Q) (TX (lim P) P (.region id ops d) s Q):=⟨TM.of pD rfl⟩
end
end Go.Rex
namespace Go.Rex
open Go.RowKit
section
variable {C:Ctx} {P:Program} {tm tm2:List TV} {hp:List TB} {ops:Array Oper} {rest:List Oper} {Q:TS→Prop}
variable {dst:Option Tmp} {ty:TypeId} {pos:String} {aft:Array Edge} {gd:Option (Nat×Bool)} {x y:Operand} {t u:TypeId}
open Classical in
end
end Go.Rex
namespace Go.Rex
open Go.RowKit
section
variable {C:Ctx} {P:Program} {Fz:Nat→Prop} {h h0:List Blk} {L:Nat→LI} {s:TS} {tm:List Value}
variable {dst:Option Tmp} {ty:TypeId} {pos:String} {aft:Array Edge} {gd:Option (Nat×Bool)}
end
def Mn{α:Type}(xs:List α)(k:Int):Option Nat:=if 0≤k∧k≤xs.length∧0<xs.length then some k.toNat else none
section
variable {C:Ctx} {P:Program} {ops:Array Oper} {rest:List Oper} {tm tm2:List TV} {hp hp2:List TB} {Q:TS→Prop} {o:Oper}
variable {dst:Option Tmp} {ty:TypeId} {pos:String} {aft:Array Edge} {gd:Option (Nat×Bool)} {p q:TV} {ms:List Nat} {i:Nat} {np:List Nat} {c:Nat}
theorem ctG{α:Type}{f:α→List TV}{xs:List α}{t e:TypeId}{x y:Operand}{k:IntKind}{es b len m:Nat}{n:Int}(hs:Mn xs n=some m)(hx:tev tm x = .lsl b 0 len)(hb:hp[b]?=some (.rows es (xs.map f)))(hy:tev tm y = .v (.int k n))(hso:cF P t=some e)(ho:okT P e=true)(hes:P.cellsOf e=es) :
 OpG C P { dst:=dst,op:=.slice t x none (some y) none,type:=ty,pos:=pos,after:=aft,guard:=gd } ⟨tm,hp⟩ ⟨tput tm dst (.lsl b 0 m),hp⟩:=by
 unfold Mn at hs
 split at hs
 ·rename_i hc
  obtain rfl:=Option.some.inj hs
  refine OpG.slice (s:=⟨tm,hp⟩) ?_
  rw[show tev (TS.mk tm hp).tm x=_ from hx]
  have b2:tbnd ((some y).map (tev (TS.mk tm hp).tm)) len=some n.toNat:=by
   rw[Option.map_some,show tev (TS.mk tm hp).tm y=_ from hy]
   simp only[tbnd]
   rw[if_pos hc.1]
  simp only[tsub,hso,ho,if_true,hb,Option.map_none,b2]
  simp only[tbnd]
  rw[if_pos ⟨hes.symm,by intro h;rw[List.map_eq_nil_iff] at h;subst h;simp at hc,by omega,by simp;omega,by simp⟩]
  simp
 ·cases hs
theorem TO.ct{α:Type}(f:α→List TV){xs:List α}{t e:TypeId}{x y:Operand}{k:IntKind}{es b len m:Nat}{n:Int}(hs:Mn xs n=some m)(hw:twant ops tm { dst:=dst,op:=.slice t x none (some y) none,type:=ty,pos:=pos,after:=aft,guard:=gd }=some true)(hx:tev tm x = .lsl b 0 len)(hb:hp[b]?=some (.rows es (xs.map f)))(hy:tev tm y = .v (.int k n))(hso:cF P t=some e)(ho:okT P e=true)(hes:P.cellsOf e=es)
 (ht:tput tm dst (.lsl b 0 m)=tm2) (hq:TO C P ops rest ⟨tm2,hp⟩ Q):TO C P ops ({ dst:=dst,op:=.slice t x none (some y) none,type:=ty,pos:=pos,after:=aft,guard:=gd }::rest) ⟨tm,hp⟩ Q:=by
 subst ht;exact TO.g hw (ctG hs hx hb hy hso ho hes) hq
theorem wE{α β:Type}{f:α→β}{xs:List α}{m:Nat}:(List.drop 0 (xs.map f)).take m=(xs.take m).map f:=by rw[List.drop_zero,List.map_take]
theorem uM{α β:Type}{f:α→β}{xs:List α}{m:Nat}:(xs.map f).take m=(xs.take m).map f:=by rw[List.map_take]
end
section
variable {C:Ctx} {P:Program} {tm tm2:List TV} {hp hp2:List TB} {Q:Exit→TS→Prop} {c:Code}
end
end Go.Rex
namespace Go.Rex
open Go.RowKit
def Kz(P:Program)(g:FuncId)(res:List Blk→Value×List Blk)(k:Nat):Nat→Ctx
 | 0=>⟨fun _ _ _=>none,fun _ _ _=>none⟩
 | d+1=>⟨fun f args h=>if f=g then (match args with|[]=>some ((res h).1,(res h).2,none)|_=>none) else gU (Kz P g res k d) P k f args h,kX (Kz P g res k d) P k⟩
def aAu(P:Program)(g:FuncId)(res:List Blk→Value×List Blk):Prop:=
 ∀(h:List Blk) (B lo:Nat) (D:Nat→Prop) (m:NMap) (w:World),Rel B lo D m h w→lo≤h.length→Calls P g ⟨[]⟩ w (Good B lo D m h w (res h).1 (res h).2)
theorem Ca{P:Program}(hm:P.follows .mixedOrders=true){g:FuncId}{res:List Blk→Value×List Blk}(hres:aAu P g res)(k:Nat):∀ d,CtxOk P (Kz P g res k d)
 | 0=>⟨fun h=>by simp[Kz] at h,fun h=>by simp[Kz] at h⟩
 | d+1 =>
  have hD:qZ P (Kz P g res k d):=fun {_ _ _ _ _ _ _} hv {_ _ _ _ _ _ _ _ _} hr hlo hA hw hQ=>Ab (Ca hm hres k d) hm hv hr hlo hA hw hQ
  ⟨fun {f args h v h' wr} hv {B lo D m w args'} hr hlo hw hargs=>by
   simp only[Kz] at hv
   split at hv
   ·rename_i hf
    subst hf
    split at hv
    ·obtain⟨rfl,rfl,rfl⟩:(res h).1=v∧(res h).2=h'∧none=wr:=by simpa using hv
     obtain rfl:args'=[]:=by have:=hargs.len;simpa using this
     exact hres _ _ _ _ _ _ hr hlo
    ·cases hv
   ·exact qS (Ca hm hres k d) hD hv hr hlo hw hargs,fun h=>uN (Ca hm hres k d) hD h⟩
def aBq(P:Program)(g:FuncId)(res:List Blk→Value×List Blk)(k d:Nat)(f:FuncId)(args:List Value)(h:List Blk):AOut:=(Kz P g res k d).call f args h
theorem Yz{P:Program}(hm:P.follows .mixedOrders=true){g:FuncId}{res:List Blk→Value×List Blk}(hres:aAu P g res){k d:Nat}{f:FuncId}(hv:Ek (aBq P g res k d f [] GH)=true):AwT P f:=by
 intro w hgw hgs
 unfold Ek at hv
 split at hv
 ·rename_i h' hx
  refine ((Ca hm hres k d).call hx (Rel.start w hgw hgs) (Nat.le_refl _) (fun n h=>by cases h) VRs.nil).mono ?_
  rintro e w' ⟨v',m',rfl,hp,hvr⟩
  cases hvr
  exact⟨rfl,hp.below⟩
 ·cases hv
def Olds(h h':List Blk)(w:Option Nat):Prop:=h.length≤h'.length∧∀ m:Nat,m<h.length→wge w (m+1)=true→h'[m]?=h[m]?
section
variable {P:Program} {C:Ctx}
structure COlds(C:Ctx):Prop where
 call:∀ {f args h v h' w},C.call f args h=some (v,h',w)→Olds h h' w
 round:∀ {l args h v h' w},C.round l args h=some (v,h',w)→Olds h h' w
end
end Go.Rex
namespace Go.Rex
open Go.RowKit
section
variable {C:Ctx} {P:Program} {h0 h h':List Blk} {Fz Fz':Nat→Prop} {L L':Nat→LI} {s s':TS} {tm:List Value}
def stays(args:List TV)(c:Code)(tm:List TV)(n:Nat):Bool:=(List.range args.length).any fun i=>match args[i]?,tm[i]? with
 | some (.lsl m 0 _),some (.lsl m' 0 _)=>m==n&&m'==n&&!(cdsts c).contains i
 | _,_=>false
end
end Go.Rex
namespace Go.Rex
open Go.RowKit
section
variable {C:Ctx} {P:Program} {h0 h h':List Blk} {Fz Fz':Nat→Prop} {L L':Nat→LI} {s s':TS} {tm:List Value} {dst:Option Tmp} {ty:TypeId} {pos:String} {aft:Array Edge} {gd:Option (Nat×Bool)}
variable {ops:Array Oper} {o:Oper} {rest:List Oper} {Q:TS→Prop} {ms:List Nat} {i:Nat} {np:List Nat} {c:Nat} {tv tv2:List TV} {hp hp2:List TB}
end
end Go.Rex
namespace Go.Rex
open Go.RowKit
section
variable {C:Ctx} {P:Program} {s s':TS} {dst:Option Tmp} {ty:TypeId} {pos:String} {aft:Array Edge} {gd:Option (Nat×Bool)}
noncomputable def aBX{α:Type}(a b:List α):List α:=if b.length=a.length then b else a
inductive Pair:List TB→List TB→List TB→Prop
 | nil:Pair [] [] []
 | cons {es:Nat} {α:Type} {f:α→List TV} {a b:List α} {B B' B2:List TB} (h:Pair B B' B2):Pair (.rows es (a.map f)::B) (.rows es (b.map f)::B') (.rows es ((aBX a b).map f)::B2)
variable {ops:Array Oper} {o:Oper} {rest:List Oper} {Q:TS→Prop} {ms:List Nat} {i:Nat} {np:List Nat} {c:Nat} {tv tv2:List TV} {hp hp2:List TB}
end
end Go.Rex
namespace Go.Rex
section
variable {P:Program} {tm:List TV} {hp:List TB} {dst:Option Tmp} {ty:TypeId} {pos:String} {aft:Array Edge} {gd:Option (Nat×Bool)} {x y z:Operand} {tys:List TypeId}
end
end Go.Rex
open Go Go.Rex Go.RowKit
namespace Go.Rex
theorem wA{A G H:Prop}(T:A)(h:A→H→G:=by (intro T g;(repeat (first|with_reducible refine mv ?_|with_reducible refine m12 rfl ?_|with_reducible refine TO.nil ?_|((with_reducible first|apply TO.mv|apply TO.asg|apply TO.bin|apply TO.ld|apply TO.fa|apply TO.ia|apply TO.pk|apply TO.sv|apply TO.al|apply TO.bld|apply TO.ext|apply TO.mf );(repeat (focus (show _=_;first|exact k1 rfl|exact k2 rfl|(simp only[zz,T,Nat.reduceAdd,Nat.reduceMul,Nat.reduceLeDiff,Nat.reduceEqDiff,tload,bD,bC,List.getElem?_map,bF,aB,Nat.zero_add,tlen,tbuild,tfill,tfield]<;>exact rfl)|exact rfl)));(with_reducible apply TO.here))|((with_reducible apply TO.skip1);(repeat (focus (show _=_;first|exact k1 rfl|exact k2 rfl|(simp only[zz,T,Nat.reduceAdd,Nat.reduceMul,Nat.reduceLeDiff,Nat.reduceEqDiff,twant,List.getElem?_toArray,Option.bind_some]<;>exact rfl)|exact rfl)));(with_reducible apply TO.here))|with_reducible refine TD.nil ?_|((with_reducible first|apply TD.mv|apply TD.asg|apply TD.bin|apply TD.ld|apply TD.fa|apply TD.ia|apply TD.pk|apply TD.sv|apply TD.al|apply TD.bld|apply TD.ext|apply TD.mf );(repeat (focus (show _=_;first|exact k1 rfl|exact k2 rfl|(simp only[zz,T,Nat.reduceAdd,Nat.reduceMul,Nat.reduceLeDiff,Nat.reduceEqDiff,tload,bD,bC,List.getElem?_map,bF,aB,Nat.zero_add,tlen,tbuild,tfill,tfield]<;>exact rfl)|exact rfl)));(with_reducible refine TD.here ?_))|((with_reducible apply TD.skip1);(repeat (focus (show _=_;first|exact k1 rfl|exact k2 rfl|(simp only[zz,T,Nat.reduceAdd,Nat.reduceMul,Nat.reduceLeDiff,Nat.reduceEqDiff,twant,List.getElem?_toArray,Option.bind_some]<;>exact rfl)|exact rfl)));(with_reducible refine TD.here ?_))|((with_reducible apply TX.cond_true);(focus rfl);(focus (first|rfl|(simp only[z1,Bool.not_true,Bool.not_false,T];done))))|((with_reducible apply TX.cond_false);(focus rfl);(focus (first|rfl|(simp only[z1,Bool.not_true,Bool.not_false,T];done))))|((with_reducible apply TX.region);(focus (simp only[List.toList_toArray]<;>exact rfl));(focus rfl);(try dsimp only))|((with_reducible apply TX.drawn);(focus decide +kernel);(focus (simp only[List.toList_toArray]<;>exact rfl));(focus exact rfl);(try dsimp only))|fail));exact g))(g:H):G:=h T g
theorem wa_{A G H:Prop}(T:A)(h:A→H→G:=by (intro T g;(repeat (first|with_reducible refine mv ?_|with_reducible refine m12 rfl ?_|with_reducible refine TO.nil ?_|((with_reducible first|apply TO.mv|apply TO.asg|apply TO.bin|apply TO.fa|apply TO.ia|apply TO.pk|apply TO.sv|apply TO.al|apply TO.bld|apply TO.ext|apply TO.mf );(repeat (focus (show _=_;first|exact k1 rfl|exact k2 rfl|(simp only[zz,T,Nat.reduceAdd,Nat.reduceMul,Nat.reduceLeDiff,Nat.reduceEqDiff,tload,bD,bC,List.getElem?_map,bF,aB,Nat.zero_add,tlen,tbuild,tfill,tfield]<;>exact rfl)|exact rfl)));(with_reducible apply TO.here))|((with_reducible apply TO.skip1);(repeat (focus (show _=_;first|exact k1 rfl|exact k2 rfl|(simp only[zz,T,Nat.reduceAdd,Nat.reduceMul,Nat.reduceLeDiff,Nat.reduceEqDiff,twant,List.getElem?_toArray,Option.bind_some]<;>exact rfl)|exact rfl)));(with_reducible apply TO.here))|with_reducible refine TD.nil ?_|((with_reducible first|apply TD.mv|apply TD.asg|apply TD.bin|apply TD.fa|apply TD.ia|apply TD.pk|apply TD.sv|apply TD.al|apply TD.bld|apply TD.ext|apply TD.mf );(repeat (focus (show _=_;first|exact k1 rfl|exact k2 rfl|(simp only[zz,T,Nat.reduceAdd,Nat.reduceMul,Nat.reduceLeDiff,Nat.reduceEqDiff,tload,bD,bC,List.getElem?_map,bF,aB,Nat.zero_add,tlen,tbuild,tfill,tfield]<;>exact rfl)|exact rfl)));(with_reducible refine TD.here ?_))|((with_reducible apply TD.skip1);(repeat (focus (show _=_;first|exact k1 rfl|exact k2 rfl|(simp only[zz,T,Nat.reduceAdd,Nat.reduceMul,Nat.reduceLeDiff,Nat.reduceEqDiff,twant,List.getElem?_toArray,Option.bind_some]<;>exact rfl)|exact rfl)));(with_reducible refine TD.here ?_))|((with_reducible apply TX.cond_true);(focus rfl);(focus (first|rfl|(simp only[z1,Bool.not_true,Bool.not_false,T];done))))|((with_reducible apply TX.cond_false);(focus rfl);(focus (first|rfl|(simp only[z1,Bool.not_true,Bool.not_false,T];done))))|((with_reducible apply TX.region);(focus (simp only[List.toList_toArray]<;>exact rfl));(focus rfl);(try dsimp only))|((with_reducible apply TX.drawn);(focus decide +kernel);(focus (simp only[List.toList_toArray]<;>exact rfl));(focus exact rfl);(try dsimp only))|fail));exact g))(g:H):G:=h T g
theorem wB{A G H:Prop}(T:A)(h:A→H→G:=by (intro T g;(repeat (first|with_reducible refine mv ?_|with_reducible refine m12 rfl ?_|with_reducible refine TO.nil ?_|((with_reducible first|apply TO.mv|apply TO.asg|apply TO.bin|apply TO.ld|apply TO.fa|apply TO.ia|apply TO.pk|apply TO.sv|apply TO.al|apply TO.bf|apply TO.bld|apply TO.ext|apply TO.mf );(repeat (focus (show _=_;first|exact k1 rfl|exact k2 rfl|(simp only[zz,T,Nat.reduceAdd,Nat.reduceMul,Nat.reduceLeDiff,Nat.reduceEqDiff,tload,bD,bC,List.getElem?_map,bF,aB,Nat.zero_add,tlen,tbuild,tfill,tfield]<;>exact rfl)|exact rfl)));(with_reducible apply TO.here))|((with_reducible apply TO.skip1);(repeat (focus (show _=_;first|exact k1 rfl|exact k2 rfl|(simp only[zz,T,Nat.reduceAdd,Nat.reduceMul,Nat.reduceLeDiff,Nat.reduceEqDiff,twant,List.getElem?_toArray,Option.bind_some]<;>exact rfl)|exact rfl)));(with_reducible apply TO.here))|with_reducible refine TD.nil ?_|((with_reducible first|apply TD.mv|apply TD.asg|apply TD.bin|apply TD.ld|apply TD.fa|apply TD.ia|apply TD.pk|apply TD.sv|apply TD.al|apply TD.bld|apply TD.ext|apply TD.mf );(repeat (focus (show _=_;first|exact k1 rfl|exact k2 rfl|(simp only[zz,T,Nat.reduceAdd,Nat.reduceMul,Nat.reduceLeDiff,Nat.reduceEqDiff,tload,bD,bC,List.getElem?_map,bF,aB,Nat.zero_add,tlen,tbuild,tfill,tfield]<;>exact rfl)|exact rfl)));(with_reducible refine TD.here ?_))|((with_reducible apply TD.skip1);(repeat (focus (show _=_;first|exact k1 rfl|exact k2 rfl|(simp only[zz,T,Nat.reduceAdd,Nat.reduceMul,Nat.reduceLeDiff,Nat.reduceEqDiff,twant,List.getElem?_toArray,Option.bind_some]<;>exact rfl)|exact rfl)));(with_reducible refine TD.here ?_))|((with_reducible apply TX.cond_true);(focus rfl);(focus (first|rfl|(simp only[z1,Bool.not_true,Bool.not_false,T];done))))|((with_reducible apply TX.cond_false);(focus rfl);(focus (first|rfl|(simp only[z1,Bool.not_true,Bool.not_false,T];done))))|((with_reducible apply TX.region);(focus (simp only[List.toList_toArray]<;>exact rfl));(focus rfl);(try dsimp only))|((with_reducible apply TX.drawn);(focus decide +kernel);(focus (simp only[List.toList_toArray]<;>exact rfl));(focus exact rfl);(try dsimp only))|fail));exact g))(g:H):G:=h T g
theorem wb_{A G H:Prop}(T:A)(h:A→H→G:=by (intro T g;(repeat (first|with_reducible refine mv ?_|with_reducible refine m12 rfl ?_|with_reducible refine TO.nil ?_|((with_reducible first|apply TO.mv|apply TO.asg|apply TO.bin|apply TO.fa|apply TO.ia|apply TO.pk|apply TO.sv|apply TO.al|apply TO.bf|apply TO.bld|apply TO.ext|apply TO.mf );(repeat (focus (show _=_;first|exact k1 rfl|exact k2 rfl|(simp only[zz,T,Nat.reduceAdd,Nat.reduceMul,Nat.reduceLeDiff,Nat.reduceEqDiff,tload,bD,bC,List.getElem?_map,bF,aB,Nat.zero_add,tlen,tbuild,tfill,tfield]<;>exact rfl)|exact rfl)));(with_reducible apply TO.here))|((with_reducible apply TO.skip1);(repeat (focus (show _=_;first|exact k1 rfl|exact k2 rfl|(simp only[zz,T,Nat.reduceAdd,Nat.reduceMul,Nat.reduceLeDiff,Nat.reduceEqDiff,twant,List.getElem?_toArray,Option.bind_some]<;>exact rfl)|exact rfl)));(with_reducible apply TO.here))|with_reducible refine TD.nil ?_|((with_reducible first|apply TD.mv|apply TD.asg|apply TD.bin|apply TD.fa|apply TD.ia|apply TD.pk|apply TD.sv|apply TD.al|apply TD.bld|apply TD.ext|apply TD.mf );(repeat (focus (show _=_;first|exact k1 rfl|exact k2 rfl|(simp only[zz,T,Nat.reduceAdd,Nat.reduceMul,Nat.reduceLeDiff,Nat.reduceEqDiff,tload,bD,bC,List.getElem?_map,bF,aB,Nat.zero_add,tlen,tbuild,tfill,tfield]<;>exact rfl)|exact rfl)));(with_reducible refine TD.here ?_))|((with_reducible apply TD.skip1);(repeat (focus (show _=_;first|exact k1 rfl|exact k2 rfl|(simp only[zz,T,Nat.reduceAdd,Nat.reduceMul,Nat.reduceLeDiff,Nat.reduceEqDiff,twant,List.getElem?_toArray,Option.bind_some]<;>exact rfl)|exact rfl)));(with_reducible refine TD.here ?_))|((with_reducible apply TX.cond_true);(focus rfl);(focus (first|rfl|(simp only[z1,Bool.not_true,Bool.not_false,T];done))))|((with_reducible apply TX.cond_false);(focus rfl);(focus (first|rfl|(simp only[z1,Bool.not_true,Bool.not_false,T];done))))|((with_reducible apply TX.region);(focus (simp only[List.toList_toArray]<;>exact rfl));(focus rfl);(try dsimp only))|((with_reducible apply TX.drawn);(focus decide +kernel);(focus (simp only[List.toList_toArray]<;>exact rfl));(focus exact rfl);(try dsimp only))|fail));exact g))(g:H):G:=h T g
theorem wC{A G H:Prop}(T:A)(h:A→H→G:=by (intro T g;(repeat (first|with_reducible refine mv ?_|with_reducible refine m12 rfl ?_|with_reducible refine TO.nil ?_|((with_reducible first|apply TO.mv|apply TO.asg|apply TO.bin|apply TO.ld|apply TO.fa|apply TO.ia|apply TO.pk|apply TO.sv|apply TO.al|apply TO.len|apply TO.bld|apply TO.ext|apply TO.mf );(repeat (focus (show _=_;first|exact k1 rfl|exact k2 rfl|(simp only[zz,T,Nat.reduceAdd,Nat.reduceMul,Nat.reduceLeDiff,Nat.reduceEqDiff,tload,bD,bC,List.getElem?_map,bF,aB,Nat.zero_add,tlen,tbuild,tfill,tfield]<;>exact rfl)|exact rfl)));(with_reducible apply TO.here))|((with_reducible apply TO.skip1);(repeat (focus (show _=_;first|exact k1 rfl|exact k2 rfl|(simp only[zz,T,Nat.reduceAdd,Nat.reduceMul,Nat.reduceLeDiff,Nat.reduceEqDiff,twant,List.getElem?_toArray,Option.bind_some]<;>exact rfl)|exact rfl)));(with_reducible apply TO.here))|with_reducible refine TD.nil ?_|((with_reducible first|apply TD.mv|apply TD.asg|apply TD.bin|apply TD.ld|apply TD.fa|apply TD.ia|apply TD.pk|apply TD.sv|apply TD.al|apply TD.len|apply TD.bld|apply TD.ext|apply TD.mf );(repeat (focus (show _=_;first|exact k1 rfl|exact k2 rfl|(simp only[zz,T,Nat.reduceAdd,Nat.reduceMul,Nat.reduceLeDiff,Nat.reduceEqDiff,tload,bD,bC,List.getElem?_map,bF,aB,Nat.zero_add,tlen,tbuild,tfill,tfield]<;>exact rfl)|exact rfl)));(with_reducible refine TD.here ?_))|((with_reducible apply TD.skip1);(repeat (focus (show _=_;first|exact k1 rfl|exact k2 rfl|(simp only[zz,T,Nat.reduceAdd,Nat.reduceMul,Nat.reduceLeDiff,Nat.reduceEqDiff,twant,List.getElem?_toArray,Option.bind_some]<;>exact rfl)|exact rfl)));(with_reducible refine TD.here ?_))|((with_reducible apply TX.cond_true);(focus rfl);(focus (first|rfl|(simp only[z1,Bool.not_true,Bool.not_false,T];done))))|((with_reducible apply TX.cond_false);(focus rfl);(focus (first|rfl|(simp only[z1,Bool.not_true,Bool.not_false,T];done))))|((with_reducible apply TX.region);(focus (simp only[List.toList_toArray]<;>exact rfl));(focus rfl);(try dsimp only))|((with_reducible apply TX.drawn);(focus decide +kernel);(focus (simp only[List.toList_toArray]<;>exact rfl));(focus exact rfl);(try dsimp only))|fail));exact g))(g:H):G:=h T g
theorem wc_{A G H:Prop}(T:A)(h:A→H→G:=by (intro T g;(repeat (first|with_reducible refine mv ?_|with_reducible refine m12 rfl ?_|with_reducible refine TO.nil ?_|((with_reducible first|apply TO.mv|apply TO.asg|apply TO.bin|apply TO.fa|apply TO.ia|apply TO.pk|apply TO.sv|apply TO.al|apply TO.len|apply TO.bld|apply TO.ext|apply TO.mf );(repeat (focus (show _=_;first|exact k1 rfl|exact k2 rfl|(simp only[zz,T,Nat.reduceAdd,Nat.reduceMul,Nat.reduceLeDiff,Nat.reduceEqDiff,tload,bD,bC,List.getElem?_map,bF,aB,Nat.zero_add,tlen,tbuild,tfill,tfield]<;>exact rfl)|exact rfl)));(with_reducible apply TO.here))|((with_reducible apply TO.skip1);(repeat (focus (show _=_;first|exact k1 rfl|exact k2 rfl|(simp only[zz,T,Nat.reduceAdd,Nat.reduceMul,Nat.reduceLeDiff,Nat.reduceEqDiff,twant,List.getElem?_toArray,Option.bind_some]<;>exact rfl)|exact rfl)));(with_reducible apply TO.here))|with_reducible refine TD.nil ?_|((with_reducible first|apply TD.mv|apply TD.asg|apply TD.bin|apply TD.fa|apply TD.ia|apply TD.pk|apply TD.sv|apply TD.al|apply TD.len|apply TD.bld|apply TD.ext|apply TD.mf );(repeat (focus (show _=_;first|exact k1 rfl|exact k2 rfl|(simp only[zz,T,Nat.reduceAdd,Nat.reduceMul,Nat.reduceLeDiff,Nat.reduceEqDiff,tload,bD,bC,List.getElem?_map,bF,aB,Nat.zero_add,tlen,tbuild,tfill,tfield]<;>exact rfl)|exact rfl)));(with_reducible refine TD.here ?_))|((with_reducible apply TD.skip1);(repeat (focus (show _=_;first|exact k1 rfl|exact k2 rfl|(simp only[zz,T,Nat.reduceAdd,Nat.reduceMul,Nat.reduceLeDiff,Nat.reduceEqDiff,twant,List.getElem?_toArray,Option.bind_some]<;>exact rfl)|exact rfl)));(with_reducible refine TD.here ?_))|((with_reducible apply TX.cond_true);(focus rfl);(focus (first|rfl|(simp only[z1,Bool.not_true,Bool.not_false,T];done))))|((with_reducible apply TX.cond_false);(focus rfl);(focus (first|rfl|(simp only[z1,Bool.not_true,Bool.not_false,T];done))))|((with_reducible apply TX.region);(focus (simp only[List.toList_toArray]<;>exact rfl));(focus rfl);(try dsimp only))|((with_reducible apply TX.drawn);(focus decide +kernel);(focus (simp only[List.toList_toArray]<;>exact rfl));(focus exact rfl);(try dsimp only))|fail));exact g))(g:H):G:=h T g
theorem wD{A G H:Prop}(T:A)(h:A→H→G:=by (intro T g;(repeat (first|with_reducible refine mv ?_|with_reducible refine m12 rfl ?_|with_reducible refine TO.nil ?_|((with_reducible first|apply TO.mv|apply TO.asg|apply TO.bin|apply TO.ld|apply TO.fa|apply TO.ia|apply TO.pk|apply TO.sv|apply TO.al|apply TO.bf|apply TO.len|apply TO.bld|apply TO.ext|apply TO.mf );(repeat (focus (show _=_;first|exact k1 rfl|exact k2 rfl|(simp only[zz,T,Nat.reduceAdd,Nat.reduceMul,Nat.reduceLeDiff,Nat.reduceEqDiff,tload,bD,bC,List.getElem?_map,bF,aB,Nat.zero_add,tlen,tbuild,tfill,tfield]<;>exact rfl)|exact rfl)));(with_reducible apply TO.here))|((with_reducible apply TO.skip1);(repeat (focus (show _=_;first|exact k1 rfl|exact k2 rfl|(simp only[zz,T,Nat.reduceAdd,Nat.reduceMul,Nat.reduceLeDiff,Nat.reduceEqDiff,twant,List.getElem?_toArray,Option.bind_some]<;>exact rfl)|exact rfl)));(with_reducible apply TO.here))|with_reducible refine TD.nil ?_|((with_reducible first|apply TD.mv|apply TD.asg|apply TD.bin|apply TD.ld|apply TD.fa|apply TD.ia|apply TD.pk|apply TD.sv|apply TD.al|apply TD.len|apply TD.bld|apply TD.ext|apply TD.mf );(repeat (focus (show _=_;first|exact k1 rfl|exact k2 rfl|(simp only[zz,T,Nat.reduceAdd,Nat.reduceMul,Nat.reduceLeDiff,Nat.reduceEqDiff,tload,bD,bC,List.getElem?_map,bF,aB,Nat.zero_add,tlen,tbuild,tfill,tfield]<;>exact rfl)|exact rfl)));(with_reducible refine TD.here ?_))|((with_reducible apply TD.skip1);(repeat (focus (show _=_;first|exact k1 rfl|exact k2 rfl|(simp only[zz,T,Nat.reduceAdd,Nat.reduceMul,Nat.reduceLeDiff,Nat.reduceEqDiff,twant,List.getElem?_toArray,Option.bind_some]<;>exact rfl)|exact rfl)));(with_reducible refine TD.here ?_))|((with_reducible apply TX.cond_true);(focus rfl);(focus (first|rfl|(simp only[z1,Bool.not_true,Bool.not_false,T];done))))|((with_reducible apply TX.cond_false);(focus rfl);(focus (first|rfl|(simp only[z1,Bool.not_true,Bool.not_false,T];done))))|((with_reducible apply TX.region);(focus (simp only[List.toList_toArray]<;>exact rfl));(focus rfl);(try dsimp only))|((with_reducible apply TX.drawn);(focus decide +kernel);(focus (simp only[List.toList_toArray]<;>exact rfl));(focus exact rfl);(try dsimp only))|fail));exact g))(g:H):G:=h T g
theorem we_{A G H:Prop}(T:A)(h:A→H→G:=by (intro T g;(repeat (first|with_reducible refine mv ?_|with_reducible refine m12 rfl ?_|with_reducible refine TO.nil ?_|((with_reducible first|apply TO.mv|apply TO.asg|apply TO.bin|apply TO.fa|apply TO.ia|apply TO.pk|apply TO.sv|apply TO.al|apply TO.bld|apply TO.ext|apply TO.bs|apply TO.mf );(repeat (focus (show _=_;first|exact k1 rfl|exact k2 rfl|(simp only[zz,T,Nat.reduceAdd,Nat.reduceMul,Nat.reduceLeDiff,Nat.reduceEqDiff,tload,bD,bC,List.getElem?_map,bF,aB,Nat.zero_add,tlen,tbuild,tfill,tfield,tslice,tparts]<;>exact rfl)|exact rfl)));(with_reducible apply TO.here))|((with_reducible apply TO.skip1);(repeat (focus (show _=_;first|exact k1 rfl|exact k2 rfl|(simp only[zz,T,Nat.reduceAdd,Nat.reduceMul,Nat.reduceLeDiff,Nat.reduceEqDiff,twant,List.getElem?_toArray,Option.bind_some]<;>exact rfl)|exact rfl)));(with_reducible apply TO.here))|with_reducible refine TD.nil ?_|((with_reducible first|apply TD.mv|apply TD.asg|apply TD.bin|apply TD.fa|apply TD.ia|apply TD.pk|apply TD.sv|apply TD.al|apply TD.bld|apply TD.ext|apply TD.bs|apply TD.mf );(repeat (focus (show _=_;first|exact k1 rfl|exact k2 rfl|(simp only[zz,T,Nat.reduceAdd,Nat.reduceMul,Nat.reduceLeDiff,Nat.reduceEqDiff,tload,bD,bC,List.getElem?_map,bF,aB,Nat.zero_add,tlen,tbuild,tfill,tfield,tslice,tparts]<;>exact rfl)|exact rfl)));(with_reducible refine TD.here ?_))|((with_reducible apply TD.skip1);(repeat (focus (show _=_;first|exact k1 rfl|exact k2 rfl|(simp only[zz,T,Nat.reduceAdd,Nat.reduceMul,Nat.reduceLeDiff,Nat.reduceEqDiff,twant,List.getElem?_toArray,Option.bind_some]<;>exact rfl)|exact rfl)));(with_reducible refine TD.here ?_))|((with_reducible apply TX.cond_true);(focus rfl);(focus (first|rfl|(simp only[z1,Bool.not_true,Bool.not_false,T];done))))|((with_reducible apply TX.cond_false);(focus rfl);(focus (first|rfl|(simp only[z1,Bool.not_true,Bool.not_false,T];done))))|((with_reducible apply TX.region);(focus (simp only[List.toList_toArray]<;>exact rfl));(focus rfl);(try dsimp only))|((with_reducible apply TX.drawn);(focus decide +kernel);(focus (simp only[List.toList_toArray]<;>exact rfl));(focus exact rfl);(try dsimp only))|fail));exact g))(g:H):G:=h T g
theorem wF{A G H:Prop}(T:A)(h:A→H→G:=by (intro T g;(repeat (first|with_reducible refine mv ?_|with_reducible refine m12 rfl ?_|with_reducible refine TO.nil ?_|((with_reducible first|apply TO.mv|apply TO.asg|apply TO.bin|apply TO.ld|apply TO.fa|apply TO.ia|apply TO.pk|apply TO.sv|apply TO.al|apply TO.bf|apply TO.bld|apply TO.ext|apply TO.bs|apply TO.mf );(repeat (focus (show _=_;first|exact k1 rfl|exact k2 rfl|(simp only[zz,T,Nat.reduceAdd,Nat.reduceMul,Nat.reduceLeDiff,Nat.reduceEqDiff,tload,bD,bC,List.getElem?_map,bF,aB,Nat.zero_add,tlen,tbuild,tfill,tfield,tslice,tparts]<;>exact rfl)|exact rfl)));(with_reducible apply TO.here))|((with_reducible apply TO.skip1);(repeat (focus (show _=_;first|exact k1 rfl|exact k2 rfl|(simp only[zz,T,Nat.reduceAdd,Nat.reduceMul,Nat.reduceLeDiff,Nat.reduceEqDiff,twant,List.getElem?_toArray,Option.bind_some]<;>exact rfl)|exact rfl)));(with_reducible apply TO.here))|with_reducible refine TD.nil ?_|((with_reducible first|apply TD.mv|apply TD.asg|apply TD.bin|apply TD.ld|apply TD.fa|apply TD.ia|apply TD.pk|apply TD.sv|apply TD.al|apply TD.bld|apply TD.ext|apply TD.bs|apply TD.mf );(repeat (focus (show _=_;first|exact k1 rfl|exact k2 rfl|(simp only[zz,T,Nat.reduceAdd,Nat.reduceMul,Nat.reduceLeDiff,Nat.reduceEqDiff,tload,bD,bC,List.getElem?_map,bF,aB,Nat.zero_add,tlen,tbuild,tfill,tfield,tslice,tparts]<;>exact rfl)|exact rfl)));(with_reducible refine TD.here ?_))|((with_reducible apply TD.skip1);(repeat (focus (show _=_;first|exact k1 rfl|exact k2 rfl|(simp only[zz,T,Nat.reduceAdd,Nat.reduceMul,Nat.reduceLeDiff,Nat.reduceEqDiff,twant,List.getElem?_toArray,Option.bind_some]<;>exact rfl)|exact rfl)));(with_reducible refine TD.here ?_))|((with_reducible apply TX.cond_true);(focus rfl);(focus (first|rfl|(simp only[z1,Bool.not_true,Bool.not_false,T];done))))|((with_reducible apply TX.cond_false);(focus rfl);(focus (first|rfl|(simp only[z1,Bool.not_true,Bool.not_false,T];done))))|((with_reducible apply TX.region);(focus (simp only[List.toList_toArray]<;>exact rfl));(focus rfl);(try dsimp only))|((with_reducible apply TX.drawn);(focus decide +kernel);(focus (simp only[List.toList_toArray]<;>exact rfl));(focus exact rfl);(try dsimp only))|fail));exact g))(g:H):G:=h T g
theorem sd{A:Prop}{α:Type}{a b:α}(T:A)(h:A→a=b:=by (intro T;first|exact k1 rfl|exact k2 rfl|(simp only[zz,T,Nat.reduceAdd,Nat.reduceMul,Nat.reduceLeDiff,Nat.reduceEqDiff,shift,kill,oN,frz,Jq,view,tml,tmlc,List.length_set,tlen,tslice,tparts]<;>exact rfl)|exact rfl)):a=b:=h T
theorem wn{A:Prop}{α:Type}{a b:α}(T:A)(h:A→a=b:=by (intro T;first|rfl|(simp only[twant,z1,z7,T]<;>rfl))):a=b:=h T
theorem ry{A:Prop}{α:Type}{a b:α}(T:A)(h:A→a=b:=by (intro T;simp only[zy,T,oR,tres,tload,bD,bC];exact rfl)):a=b:=h T
theorem wk_{A:Prop}(T:A){tm tm':List TV}{hp hp':List TB}(fl:List (Option Nat))(hok:Bc fl=true)(hB:RB fl hp hp' fl)(hT:A→RNs fl tm tm':=by (intro T;(repeat (first|exact RNs.nil|refine RNs.cons .Z ?_|refine RNs.cons (.keep rfl rfl) ?_|refine RNs.cons (.lsl rfl rfl) ?_|refine RNs.cons (.lsl rfl (by simp only[List.length_set])) ?_|refine RNs.cons (.lptr rfl) ?_|refine RNs.cons (.nil rfl) ?_|refine RNs.cons .nl ?_|refine RNs.cons (.keep (by simp only[T]) rfl) ?_|refine RNs.cons (.tuple' ?_) ?_|refine RNs.cons (.agg' ?_) ?_)))):Wk ⟨tm,hp⟩ ⟨tm',hp'⟩:=Wk.ren fl hok hB (hT T)
theorem ifs{α:Type}{b:Bool}{x y r:Option α}(h:(if b=true then x else y)=r):(b=true∧x=r)∨(b=false∧y=r):=by cases b<;>simp_all
theorem bs{α β:Type}{x:Option α}{f:α→Option β}{r:β}(h:x.bind f=some r):∃ a,x=some a∧f a=some r:=Option.bind_eq_some_iff.1 h
theorem gx{α:Type}{xs:List α}{i:Int}{a:α}(f:α→List TV)(h:bE xs i=some a):tidx (xs.map f) i=some (f a)∧(0≤i∧i<xs.length)∧xs[i.toNat]?=some a:=And.intro (jU (f:=f) h) (And.intro (jQ h) (kL h))
theorem lv{A:Prop}(T:A){b:Bool}{G:Prop}(hr:some b=some true)(h:A→b=true→G:=by (intro T hb;first|(cases hb;done)|((first|refine⟨.inl rfl,?_⟩|refine⟨.inr rfl,?_⟩);first|(simp only[oR,tres,z1,hb,Option.map_some]<;>exact rfl)|(simp only[T] at hb;simp only[oR,tres,z1,hb,Option.map_some]<;>exact rfl)))):G:=h T (Option.some.inj hr)
theorem vw{A:Prop}{α:Type}{a b:α}(T:A)(h:A→a=b:=by (intro T;simp only[view,z1,z3,List.toList_toArray,tml,tmlc,List.length_set,Nat.reduceEqDiff,if_false]<;>rfl)):a=b:=h T
end Go.Rex
