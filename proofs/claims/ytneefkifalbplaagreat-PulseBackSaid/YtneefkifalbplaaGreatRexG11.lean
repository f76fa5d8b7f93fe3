/- An executor of the program's functions on trees of values,proved sound. -/
import Derived.Test.YtneefkifalbplaaGreatRexG10
import Derived.Test.YtneefkifalbplaaGreatRexG7
set_option linter.unusedSimpArgs false
set_option linter.unusedVariables false
set_option linter.defProp false
namespace Go.Rex
open Go.RowKit
section
variable {Fz Fz':Nat→Prop} {h0 h h':List Blk} {L:Nat→LI} {s s':TS} {tm:List Value}
theorem VL.cells{p:TV}{x:Value}(hp:VL Fz h L p x)(hF:∀ n eb cs,Fz n→h[n]?=some (.cells eb cs)→Fz' n∧h'[n]?=some (.cells eb cs)):VL Fz' h' L p x:=by
 induction hp with
 | U L x=>exact .U L x
 | v L x hx=>exact .v L x hx
 | agg L l l' hl ha ih=>exact .agg L l l' hl ih
 | tuple L l l' hl ha ih=>exact .tuple L l l' hl ih
 | func L f a b a' b' la ha lb hb iha ihb=>exact .func L f a b a' b' la iha lb ihb
 | nillist L es=>exact .nillist L es
 | vague L es=>exact .vague L es
 | list L es rows n o c cs eb hn hb he hw hc hle ha ih=>exact .list L es rows n o c cs eb (hF n _ _ hn hb).1 (hF n _ _ hn hb).2 he hw hc hle ih
 | fptr L vb row off n base es cs hn hb hv hle ha ih=>exact .fptr L vb row off n base es cs (hF n _ _ hn hb).1 (hF n _ _ hn hb).2 hv hle ih
 | lptr L n r o nm ok hn=>exact .lptr L n r o nm ok hn
 | lslnil L n ok hn=>exact .lslnil L n ok hn
 | lsl L n o len nm ok hn hle=>exact .lsl L n o len nm ok hn hle
theorem VLs.cells{l:List TV}{l':List Value}(hs:VLs Fz h L l l')(hF:∀ n eb cs,Fz n→h[n]?=some (.cells eb cs)→Fz' n∧h'[n]?=some (.cells eb cs)):VLs Fz' h' L l l':=
 ⟨hs.len,fun i p x hp hx=>(hs.at' i p x hp hx).cells hF⟩
theorem Yo{g:Nat}(h:g<NG):∃ es c,GH[g]?=some (.cells es c):=by
 have h2:g<ghCells.length:=by simpa [NG,GH] using h
 exact⟨_,_,by unfold GH;rw[e8,b8 h2];rfl⟩
theorem FZ.cells(hf:FZ Fz h)(hF:∀ n eb cs,Fz n→h[n]?=some (.cells eb cs)→Fz' n∧h'[n]?=some (.cells eb cs))(hl:∀ n,Fz' n→n<h'.length):FZ Fz' h':=
 ⟨hl,fun g hg=>by
  obtain⟨es,c,e⟩:=Yo hg
  obtain⟨h1,h2⟩:=hF g es c (hf.gl g hg).1 ((hf.gl g hg).2.trans e)
  exact⟨h1,h2.trans e.symm⟩⟩
theorem St.unmark{m:Nat}(hs:St h0 Fz L s tm h)(hm:∀ es cs,h[m]?≠some (.cells es cs))(hlo:h0.length≤m):St h0 (fun n=>Fz n∧n≠m) L s tm (h.set m .dead):=by
 have hF:∀ n eb cs,Fz n→h[n]?=some (.cells eb cs)→(Fz n∧n≠m)∧(h.set m .dead)[n]?=some (.cells eb cs):=fun n eb cs hf hn=>by
  have hne:n≠m:=by rintro rfl;exact hm eb cs hn
  exact⟨⟨hf,hne⟩,by rw[d8 (Ne.symm hne)];exact hn⟩
 have up:∀ nm es cs,h[nm]?=some (Blk.cells es cs)→(h.set m .dead)[nm]?=some (Blk.cells es cs):=fun nm es cs hn=>by
  have hne:nm≠m:=by rintro rfl;exact hm es cs hn
  rw[d8 (Ne.symm hne)];exact hn
 refine⟨hs.tmr.cells hF,fun n b hb=>?_,hs.dom,hs.inj,hs.fz.cells hF fun n hn=>by simpa using hs.fz n hn.1,?_⟩
 ·have h1:=hs.blk n b hb
  cases b with
  | dead=>trivial
  | rows es rows =>
   obtain⟨a1,a2,a3,a4,a5⟩:=h1
   refine⟨a1,a2,a3,a4,?_⟩
   rcases a5 with a5|⟨nm,cs,b1,b2,b3,b4,b5⟩
   ·exact .inl a5
   ·exact .inr ⟨nm,cs,b1,b2,fun hf=>b3 hf.1,up nm _ _ b4,b5.cells hF⟩
  | var row =>
   obtain⟨a1,nm,cs,b1,b2,b3,b4,b5⟩:=h1
   exact⟨a1,nm,cs,b1,b2,fun hf=>b3 hf.1,up nm _ _ b4,b5.cells hF⟩
 ·obtain⟨t,rfl⟩:=hs.ext
  exact⟨t.set (m-h0.length) .dead,by rw[List.set_append_right _ _ hlo]⟩
def Mk(lo:Nat)(df:List Nat)(h:List Blk):Prop:=df.Nodup∧∀ d,d∈df→lo≤d∧h[d]?=some Blk.dfr
theorem Mk.nil{lo:Nat}{h:List Blk}:Mk lo [] h:=⟨List.nodup_nil,fun d hd=>by simp at hd⟩
theorem Mk.keeps{lo:Nat}{df:List Nat}(hm:Mk lo df h)(hk:Keeps h h'):Mk lo df h':=⟨hm.1,fun d hd=>⟨(hm.2 d hd).1,hk.2 d (hm.2 d hd).2⟩⟩
theorem St.take:∀(df:List Nat) {Fz:Nat→Prop} {h:List Blk},St h0 Fz L s tm h→Mk h0.length df h →
 ∃ h2 w,bH df h=some (h2,w)∧wge w h0.length=true∧St h0 (fun n=>Fz n∧n ∉ df) L s tm h2
 | [],Fz,h,hs,_=>by
  refine⟨h,none,rfl,rfl,?_⟩
  have e:(fun n=>Fz n∧n ∉ ([]:List Nat))=Fz:=by funext n;simp
  rw[e]
  exact hs
 | d::df,Fz,h,hs,hm=>by
  obtain⟨h1,h2⟩:=hm
  obtain⟨k1,k2⟩:=List.nodup_cons.1 h1
  obtain⟨m1,m2⟩:=h2 d List.mem_cons_self
  have hs1:=hs.unmark (m:=d) (fun es cs=>by rw[m2];simp) m1
  obtain⟨h3,w,t1,t2,t3⟩:=St.take df hs1 ⟨k2,fun e he=>⟨(h2 e (j1 _ he)).1,by
   rw[d8]
   ·exact (h2 e (j1 _ he)).2
   ·rintro rfl;exact k1 he⟩⟩
  refine⟨h3,wmin (some d) w,?_,?_,?_⟩
  ·simp only[bH,m2,t1,Option.map_some]
  ·exact iR (by simpa [wge] using m1) t2
  ·have e : (fun n => (Fz n ∧ n ≠ d) ∧ n ∉ df) = (fun n => Fz n ∧ n ∉ d :: df) := by
     funext n
     simp[and_assoc]
   rw[← e]
   exact t3
end
section
variable {C:Ctx} {P:Program} {s s':TS} {Q Q':Exit→TS→Prop}
def TM(C:Ctx)(P:Program)(c:Code)(s:TS)(Q:Exit→TS→Prop):Prop:=
 ∀ h0 Fz L tm df h,St h0 Fz L s tm h→Mk h0.length df h→XP C P none h0.length c ⟨tm,df⟩ h (fun e a' h'=>Mk h0.length a'.df h'∧∃ s' Fz' L',Q e s'∧Grow h0 Fz Fz' h h'∧St h0 Fz' L' s' a'.tm h')
theorem TM.of(hC:CKeeps C){c:Code}(hn:eQ c=true)(hx:TX C P c s Q):TM C P c s Q:=by
 intro h0 Fz L tm df h hs hm
 obtain⟨K,e,a',h',wr,h1,h2,hd,r⟩:=hx h0 Fz L tm h hs
 have hp:=gE (C:=C) (P:=P) (ro:=none) K c tm df h hn
 rw[h1,m9] at hp
 exact⟨K,e,⟨a'.tm,df⟩,h',wr,hp,h2,hm.keeps (gG hC K c h1).1,r⟩
theorem TM.weak{c:Code}(hw:Wk s s')(hx:TM C P c s' Q):TM C P c s Q:=by
 intro h0 Fz L tm df h hs hm
 obtain⟨F1,L1,g1,s1⟩:=hw h0 Fz L tm h hs
 refine (hx h0 F1 L1 tm df h s1 hm).mono ?_
 rintro e a' h' ⟨hd,s',F',L',q,g,hs'⟩
 exact⟨hd,s',F',L',q,g1.trans g,hs'⟩
theorem TM.seq{x y:Code}(hx:TM C P x s (Em (fun s=>TM C P y s Q) Q)):TM C P (.seq x y) s Q:=by
 intro h0 Fz L tm df h hs hm
 refine XP.seq ((hx h0 Fz L tm df h hs hm).mono ?_)
 rintro e ⟨tm',df'⟩ h' ⟨hd,s',F',L',q,g,hs'⟩
 cases e with
 | normal =>
  refine aAW ?_
  refine (q h0 F' L' tm' df' h' hs' hd).mono ?_
  rintro e a' h' ⟨hd,s',F',L',q,g',hs'⟩
  exact⟨hd,s',F',L',q,g.trans g',hs'⟩
 | _=>exact⟨hd,s',F',L',q,g,hs'⟩
theorem TM.block{id:Nat}{b:Code}(hx:TM C P b s (nF id Q)):TM C P (.block id b) s Q:=by
 intro h0 Fz L tm df h hs hm
 refine XP.block ((hx h0 Fz L tm df h hs hm).mono ?_)
 rintro e ⟨tm',df'⟩ h' ⟨hd,s',F',L',q,g,hs'⟩
 cases e with
 | exit id' =>
  simp only[nF] at q
  simp only[Fo]
  split at q
  ·rename_i hi;rw[a9 hi];exact⟨hd,s',F',L',q,g,hs'⟩
  ·rename_i hi;rw[b6 hi];exact⟨hd,s',F',L',q,g,hs'⟩
 | _=>exact⟨hd,s',F',L',q,g,hs'⟩
theorem TM.cond_true{c:Operand}{a b:Code}(ho:mP c=true)(hc:tev s.tm c = .v (.bool true))(hx:TM C P a s Q):TM C P (.cond c a b) s Q:=by
 intro h0 Fz L tm df h hs hm
 have:=dJ hs.fz hs.tmr c
 rw[hc] at this
 have hb:=this.bool_inv
 obtain⟨K,e,a',h',w1,hx1,r⟩:=hx h0 Fz L tm df h hs hm
 exact⟨K+1,e,a',h',w1,by simp only[exec,ho,if_true,hb,hx1],r⟩
theorem TM.cond_false{c:Operand}{a b:Code}(ho:mP c=true)(hc:tev s.tm c = .v (.bool false))(hx:TM C P b s Q):TM C P (.cond c a b) s Q:=by
 intro h0 Fz L tm df h hs hm
 have:=dJ hs.fz hs.tmr c
 rw[hc] at this
 have hb:=this.bool_inv
 obtain⟨K,e,a',h',w1,hx1,r⟩:=hx h0 Fz L tm df h hs hm
 exact⟨K+1,e,a',h',w1,by simp only[exec,ho,if_true,hb,hx1],r⟩
theorem Spec.fnM{f:FuncId}{fd:Func}{c:Code}{args:List TV}{r:TS}(hf:P.funcs[f]?=some fd)(hb:fd.body=some c){tm0:List TV}(htm:args++List.replicate (fd.ntmps-args.length) TV.U=tm0)
 (hx:TM (lim P) P c ⟨tm0,[]⟩ (fun e s=>(e = .normal∨e = .ret)∧∃ ps,qY P s.hp s.tm fd.results.toList=some ps∧Wk ⟨[Yn ps],s.hp⟩ r)) (hcov:cov r=true):Spec (lim P) f args r:=by
 intro Fz h vs hfz hargs
 subst htm
 have hs:St h Fz noL ⟨args++List.replicate (fd.ntmps-args.length) TV.U,[]⟩ (vs++List.replicate (fd.ntmps-vs.length) undef) h:=by
  refine⟨?_,fun n b hb=>by simp at hb,fun n hn=>by simp[noL] at hn,fun n n' b b' nm hb=>by simp at hb,hfz,Ext.refl h⟩
  refine VLs.append hargs ?_
  rw[hargs.len]
  exact VLs.replicate (.U noL undef) _
 obtain⟨K,e,a1,h1,w1,hexec,hw,hdf,s1,F1,L1,⟨he,ps,hps,hwk⟩,g1,hs1⟩:=hx h Fz noL _ [] h hs Mk.nil
 obtain⟨h2,wt,ht,hwt,hst⟩:=hs1.take a1.df hdf
 obtain⟨vs1,hres,hvs1⟩:=pP (P:=P) hst _ ps hps
 have hs2:St h (fun n=>F1 n∧n ∉ a1.df) L1 ⟨[Yn ps],s1.hp⟩ [jQ vs1] h2:=⟨VLs.cons (Us hvs1) VLs.nil,hst.blk,hst.dom,hst.inj,hst.fz,hst.ext⟩
 have g1':Grow h Fz (fun n=>F1 n∧n ∉ a1.df) h h2:=⟨fun n hn=>⟨g1.1 n hn,fun hd=>by have:=(hdf.2 n hd).1;have:=hfz n hn;omega⟩,fun n hn=>g1.2 n hn.1,fun n hn=>((oX a1.df ht (fun d hd=>(hdf.2 d hd).1)).2 n (hfz n hn)).trans (g1.3 n hn)⟩
 obtain⟨F2,L2,g2,hs3⟩:=hwk h _ L1 _ h2 hs2
 have hm:wge (wmin w1 wt) h.length=true:=iR hw hwt
 by_cases hcl:bR (jQ vs1)=true
 ·obtain⟨L4,hs4⟩:=hs3.clean hcl hcov hfz
  refine⟨jQ vs1,h,Fz,L4,nU (K:=K) ?_,Grow.refl _ _,hs4⟩
  unfold iT
  simp only[hf,hb,hexec]
  have hend:jR P fd h.length h a1 h1 w1=some (jQ vs1,h,none):=by
   simp only[jR,ht,hres,hcl,if_true,hm]
  rcases he with rfl|rfl<;>exact hend
 ·refine⟨jQ vs1,h2,F2,L2,nU (K:=K) ?_,g1'.trans g2,hs3⟩
  unfold iT
  simp only[hf,hb,hexec]
  have hend:jR P fd h.length h a1 h1 w1=some (jQ vs1,h2,none):=by
   simp[jR,ht,hres,hcl,hm]
  rcases he with rfl|rfl<;>exact hend
end
end Go.Rex
namespace Go.Rex
open Go.RowKit
structure Out(X:Type) where
 lo:Nat
 base:Nat
 R:X→(Nat→Prop)→List Blk→Prop
 hlo:lo≤base
 stay:∀ {x:X} {Fz Fz':Nat→Prop} {h h':List Blk},R x Fz h→Ext h h'→Grow h Fz Fz' h h'→(FZ Fz' h')→R x Fz' h'
theorem Fg{wr:Option Nat}{k j:Nat}(h:wge wr k=true)(hj:j≤k):wge wr j=true:=by
 cases wr with
 | none=>rfl
 | some n=>simp[wge] at h ⊢;omega
theorem qG{a b:Option Nat}{k:Nat}(h:wge (wmin a b) k=true):wge a k=true∧wge b k=true:=by
 cases a<;>cases b<;>simp_all [wge,wmin]<;>omega
section
variable {E X:Type} {C:Ctx} {P:Program} {O:Out X}
def Yields(C:Ctx)(O:Out X)(l:Nat)(enc:E→List TV)(H:E→X→Option (Bool×X)):Prop:=
 ∀ x Fz h e as b x',O.R x Fz h→(FZ Fz h)→O.base≤h.length→VLs Fz h noL (enc e) as→H e x=some (b,x') →
  ∃ h' w Fz',C.round l as h=some (.bool b,h',w)∧wge w O.lo=true∧wge w O.base=false∧h.length≤h'.length∧(∀ n,Fz n→Fz' n)∧(∀ n,Fz n→h'[n]?=h[n]?)∧(FZ Fz' h')∧O.R x' Fz' h'
def TI(C:Ctx)(P:Program)(O:Out X)(c:Code)(tm:List TV)(x:X)(Q:Exit→List TV→X→Prop):Prop:=
 ∀ Fz vm h,(FZ Fz h)→O.base≤h.length→VLs Fz h noL tm vm→O.R x Fz h →
  ∃ K e a' h' wr,exec C P none K c ⟨vm,[]⟩ h=some (e,a',h',wr)∧wge wr O.lo=true∧a'.df=[]∧∃ tm' x' Fz',(wge wr O.base=true→x'=x)∧Q e tm' x'∧h.length≤h'.length∧(FZ Fz' h')∧VLs Fz' h' noL tm' a'.tm∧O.R x' Fz' h'
variable {tm tm':List TV} {s s':TS} {x:X} {Q Q':Exit→List TV→X→Prop} {c:Code}
theorem Ez{Fz:Nat→Prop}{vm:List Value}{h:List Blk}(hz:FZ Fz h)(hv:VLs Fz h noL tm vm):St h Fz noL ⟨tm,[]⟩ vm h:=
 ⟨hv,fun n b hb=>by simp at hb,fun n hn=>by simp[noL] at hn,fun n n' b b' nm hb=>by simp at hb,hz,Ext.refl h⟩
theorem Ev{h0 h:List Blk}{Fz:Nat→Prop}{L:Nat→LI}{vm:List Value}(hs:St h0 Fz L ⟨tm,[]⟩ vm h):VLs Fz h noL tm vm:=
 hs.tmr.own (fun n hn=>by have:=hs.dom n hn;simp at this)
theorem TI.of{Q:Exit→List TV→X→Prop}(hx:TX C P c ⟨tm,[]⟩ (fun e s=>∃ tm',Wk s ⟨tm',[]⟩∧Q e tm' x)):TI C P O c tm x Q:=by
 intro Fz vm h hz hb hv hR
 obtain⟨K,e,a',h',wr,h1,h2,hd,s1,F1,L1,⟨tm',hw,q⟩,g1,hs1⟩:=hx h Fz noL vm h (Ez hz hv)
 obtain⟨F2,L2,g2,hs2⟩:=hw h F1 L1 a'.tm h' hs1
 exact⟨K,e,a',h',wr,h1,Fg h2 (e7 O.hlo hb),hd,tm',x,F2,fun _=>rfl,q,hs2.ext.le,hs2.fz,Ev hs2,O.stay hR hs2.ext (g1.trans g2) hs2.fz⟩
theorem TI.weak(hw:Wk ⟨tm,[]⟩ ⟨tm',[]⟩)(hx:TI C P O c tm' x Q):TI C P O c tm x Q:=by
 intro Fz vm h hz hb hv hR
 obtain⟨F2,L2,g2,hs2⟩:=hw h Fz noL vm h (Ez hz hv)
 exact hx F2 vm h hs2.fz hb (Ev hs2) (O.stay hR (Ext.refl h) g2 hs2.fz)
def Vy(next:List TV→X→Prop)(Q:Exit→List TV→X→Prop):Exit→List TV→X→Prop
 | .normal,s,x=>next s x
 | e,s,x=>Q e s x
theorem TI.seq{a b:Code}(hx:TI C P O a tm x (Vy (fun s x=>TI C P O b s x Q) Q)):TI C P O (.seq a b) tm x Q:=by
 intro Fz vm h hz hb hv hR
 obtain⟨K,e,⟨vm',df'⟩,h',w1,hx1,hw,hd,s',x',F',hx',q,l1,f1,hs',r'⟩:=hx Fz vm h hz hb hv hR
 obtain rfl:df'=[]:=hd
 cases e with
 | normal =>
  obtain⟨K2,e2,a2,h2,w2,hy,hw2,hd2,s2,x2,F2,hx2,q2,l2,r2⟩:=q F' vm' h' f1 (e7 hb l1) hs' r'
  refine⟨max K K2+1,e2,a2,h2,wmin w1 w2,?_,iR hw hw2,hd2,s2,x2,F2,fun hg=>?_,q2,e7 l1 l2,r2⟩
  ·simp only[exec]
   rw[kF (Nat.le_max_left K K2) hx1]
   simp only
   rw[kF (Nat.le_max_right K K2) hy]
   rfl
  ·rw[hx2 (qG hg).2,hx' (qG hg).1]
 | _=>exact⟨K+1,_,_,h',w1,by simp only[exec,hx1],hw,rfl,s',x',F',hx',q,l1,f1,hs',r'⟩
def uJ(id:Nat)(Q:Exit→List TV→X→Prop):Exit→List TV→X→Prop
 | .exit id',s,x=>if id'=id then Q .normal s x else Q (.exit id') s x
 | e,s,x=>Q e s x
theorem TI.block{id:Nat}{b:Code}(hx:TI C P O b tm x (uJ id Q)):TI C P O (.block id b) tm x Q:=by
 intro Fz vm h hz hb hv hR
 obtain⟨K,e,a',h',w1,hx1,hw,hd,s',x',F',hx',q,r⟩:=hx Fz vm h hz hb hv hR
 cases e with
 | exit id' =>
  by_cases hid:id'=id
  ·refine⟨K+1,.normal,a',h',w1,by simp only[exec,hx1,if_pos hid],hw,hd,s',x',F',hx',?_,r⟩
   simpa only[uJ,if_pos hid] using q
  ·refine⟨K+1,.exit id',a',h',w1,by simp only[exec,hx1,if_neg hid],hw,hd,s',x',F',hx',?_,r⟩
   simpa only[uJ,if_neg hid] using q
 | _=>exact⟨K+1,_,a',h',w1,by simp only[exec,hx1],hw,hd,s',x',F',hx',q,r⟩
theorem aCc{next:List TV→X→Prop}(hq:next tm x):Vy next Q .normal tm x:=hq
theorem aCd{next:List TV→X→Prop}{id:Nat}(hq:Q (.exit id) tm x):Vy next Q (.exit id) tm x:=hq
theorem Zp{id:Nat}(hq:Q .normal tm x):uJ id Q .normal tm x:=hq
theorem Zb{id:Nat}(hq:Q .normal tm x):uJ id Q (.exit id) tm x:=by simpa only[uJ,if_true] using hq
theorem TI.skip(hq:Q .normal tm x):TI C P O .skip tm x Q:=TI.of (TX.skip ⟨tm,Wk.refl _,hq⟩)
theorem TI.exit{id:Nat}(hq:Q (.exit id) tm x):TI C P O (.exit id) tm x Q:=TI.of (TX.exit ⟨tm,Wk.refl _,hq⟩)
theorem TI.cond_true{c:Operand}{a b:Code}(ho:mP c=true)(hc:tev tm c = .v (.bool true))(hx:TI C P O a tm x Q):TI C P O (.cond c a b) tm x Q:=by
 intro Fz vm h hz hb hv hR
 have:=dJ hz hv c
 rw[hc] at this
 have hb':=this.bool_inv
 obtain⟨K,e,a',h',w1,hx1,r⟩:=hx Fz vm h hz hb hv hR
 exact⟨K+1,e,a',h',w1,by simp only[exec,ho,if_true,hb',hx1],r⟩
theorem TI.cond_false{c:Operand}{a b:Code}(ho:mP c=true)(hc:tev tm c = .v (.bool false))(hx:TI C P O b tm x Q):TI C P O (.cond c a b) tm x Q:=by
 intro Fz vm h hz hb hv hR
 have:=dJ hz hv c
 rw[hc] at this
 have hb':=this.bool_inv
 obtain⟨K,e,a',h',w1,hx1,r⟩:=hx Fz vm h hz hb hv hR
 exact⟨K+1,e,a',h',w1,by simp only[exec,ho,if_true,hb',hx1],r⟩
theorem TI.loopE{σ ε:Type}{b:Code}{step:σ→Option (σ ⊕ ε)}{y:σ}{e:ε}(hr:run step y=some e)(I:σ→List TV×X)(J:ε→Exit×List TV×X)
 (hI:∀ y y',step y=some y'→match y' with
  | .inl y'=>TI C P O b (I y).1 (I y).2 (fun ex st z=>ex = .normal∧Wk ⟨st,[]⟩ ⟨(I y').1,[]⟩∧z=(I y').2)
  | .inr e=>TI C P O b (I y).1 (I y).2 (fun ex st z=>ex=(J e).1∧Wk ⟨st,[]⟩ ⟨(J e).2.1,[]⟩∧z=(J e).2.2))
 (hne:∀ e,(J e).1 ≠ .normal) (hq:Q (J e).1 (J e).2.1 (J e).2.2):TI C P O (.loop b) (I y).1 (I y).2 Q:=by
 have hr':=run_iff.1 hr
 clear hr
 induction hr' with
 | @stop y e h =>
  intro Fz vm hh hz hb hv hR
  obtain⟨K,ex,a',h',wr,h1,h2,hd,s',x',F',hx',⟨he,hw,rfl⟩,l1,f1,hs',hR'⟩:=hI _ _ h Fz vm hh hz hb hv hR
  obtain⟨F2,L2,g2,hs2⟩:=hw h' F' noL a'.tm h' (Ez f1 hs')
  have hn:=hne e
  rw[← he] at hn hq
  refine⟨K+1,ex,a',h',wr,?_,h2,hd,(J e).2.1,_,F2,hx',hq,l1,hs2.fz,Ev hs2,O.stay hR' (Ext.refl _) g2 hs2.fz⟩
  simp only[exec,h1]
  try (cases ex with
  | normal=>exact absurd rfl hn
  | _=>rfl)
 | @next y y1 e h hr ih =>
  intro Fz vm hh hz hb hv hR
  obtain⟨K,ex,⟨vm',df'⟩,h',wr,h1,h2,hd,s',x',F',hx',⟨rfl,hw,rfl⟩,l1,f1,hs',hR'⟩:=hI _ _ h Fz vm hh hz hb hv hR
  obtain rfl:df'=[]:=hd
  obtain⟨F2,L2,g2,hs2⟩:=hw h' F' noL vm' h' (Ez f1 hs')
  obtain⟨K2,ex,a2,h2',wr2,q1,q2,qd,s3,x3,F3,hx3,q,l3,r⟩:=ih hq F2 vm' h' hs2.fz (e7 hb l1) (Ev hs2) (O.stay hR' (Ext.refl _) g2 hs2.fz)
  refine⟨max K K2+1,ex,a2,h2',wmin wr wr2,?_,iR h2 q2,qd,s3,x3,F3,fun hg=>?_,q,e7 l1 l3,r⟩
  ·simp only[exec]
   rw[kF (Nat.le_max_left K K2) h1]
   simp only
   rw[kF (Nat.le_max_right K K2) q1]
   rfl
  ·rw[hx3 (qG hg).2,hx' (qG hg).1]
theorem TI.loopW{σ ε:Type}{b:Code}{step:σ→Option (σ ⊕ ε)}{y:σ}{e:ε}(hr:run step y=some e)(I:σ→List TV×X)(J:ε→Exit×List TV×X)(hw:Wk ⟨tm,[]⟩ ⟨(I y).1,[]⟩)(hx:(I y).2=x)
 (hI:∀ y y',step y=some y'→TI C P O b (I y).1 (I y).2 (fun ex st z=>match y' with
  | .inl y'=>ex = .normal∧Wk ⟨st,[]⟩ ⟨(I y').1,[]⟩∧z=(I y').2
  | .inr e=>ex=(J e).1∧Wk ⟨st,[]⟩ ⟨(J e).2.1,[]⟩∧z=(J e).2.2))
 (hne:∀ e,(J e).1 ≠ .normal) (hq:Q (J e).1 (J e).2.1 (J e).2.2):TI C P O (.loop b) tm x Q:=by
 subst hx
 refine TI.weak hw (TI.loopE hr I J (fun y y' h=>?_) hne hq)
 have:=hI y y' h
 cases y' with
 | inl y'=>exact this
 | inr e=>exact this
theorem mR{ops:Array Oper}:∀(l1 l2:List Oper) (tm:List Value) (h:List Blk) {tm1 tm2:List Value} {h1 h2:List Blk} {w1 w2:Option Nat},cR C P ops l1 tm h=some (tm1,h1,w1)→cR C P ops l2 tm1 h1=some (tm2,h2,w2)→∃ w,cR C P ops (l1++l2) tm h=some (tm2,h2,w)∧∀ k,wge w k=true↔wge w1 k=true∧wge w2 k=true
 | [],l2,tm,h,tm1,tm2,h1,h2,w1,w2,a,b=>by
  simp only[cR,Option.some.injEq,Prod.mk.injEq] at a
  obtain⟨rfl,rfl,rfl⟩:=a
  exact⟨w2,b,fun k=>⟨fun hk=>⟨rfl,hk⟩,fun hk=>hk.2⟩⟩
 | o::l1,l2,tm,h,tm1,tm2,h1,h2,w1,w2,a,b=>by
  simp only[cR,List.cons_append] at a ⊢
  split at a
  ·rename_i hw
   rw[a9 hw]
   split at a
   ·rename_i v hv
    exact mR l1 l2 _ _ a b
   ·rename_i hv
    split at a
    ·rename_i v h3 w3 hx
     rw[d9] at a
     obtain⟨⟨t4,h4,w4⟩,a4,e4⟩:=a
     simp only[Prod.mk.injEq] at e4
     obtain⟨rfl,rfl,rfl⟩:=e4
     obtain⟨w,c1,c2⟩:=mR l1 l2 _ _ a4 b
     refine⟨wmin w3 w,by rw[c1];rfl,fun k=>⟨fun hk=>?_,fun hk=>?_⟩⟩
     ·obtain⟨k1,k2⟩:=qG hk
      obtain⟨k3,k4⟩:=(c2 k).1 k2
      exact⟨iR k1 k3,k4⟩
     ·obtain⟨k1,k2⟩:=qG hk.1
      exact iR k1 ((c2 k).2 ⟨k2,hk.2⟩)
    ·cases a
  ·rename_i hw
   rw[b6 hw]
   exact mR l1 l2 _ _ a b
structure Back(o:Oper)(f:Operand)(args:List Operand)(dst:Option Tmp):Prop where
 eq:∃(tys:Array TypeId) (ty:TypeId) (pos:String) (aft:Array Edge) (gd:Option (Nat×Bool)),o={ dst:=dst,op:=.call { callee:=.value f,args:=⟨args⟩,argTypes:=tys },type:=ty,pos:=pos,after:=aft,guard:=gd }
theorem TI.yield{id:Nat}{ops:Array Oper}{lo l1 l2:List Oper}{o:Oper}{f:Operand}{args:List Operand}{dst:Option Tmp}{l:Nat}{enc:E→List TV}{H:E→X→Option (Bool×X)}(k:Nat)(hY:Yields C O l enc H)
 (hl:ops.toList=lo) (e1:lo.take k=l1) (e2:lo.drop k=o::l2) (ho:Back o f args dst) (hreg:No lo=true)
 (h1:TO C P ops l1 ⟨tm,[]⟩ (fun s1=>∃ tm1,Wk s1 ⟨tm1,[]⟩∧((∃ e b x',twant ops tm1 o=some true∧tev tm1 f = .v (.func (.yield l) #[] #[])∧args.map (tev tm1)=enc e∧H e x=some (b,x') ∧
  TO C P ops l2 ⟨tput tm1 dst (.v (.bool b)),[]⟩ (fun s2=>∃ tm2,Wk s2 ⟨tm2,[]⟩∧Q .normal tm2 x')) ∨
  (twant ops tm1 o=some false∧TO C P ops l2 ⟨tput tm1 dst (.tuple []),[]⟩ (fun s2=>∃ tm2,Wk s2 ⟨tm2,[]⟩∧Q .normal tm2 x))))):TI C P O (.region id ops false) tm x Q:=by
 subst hl
 have hl:ops.toList=l1++o::l2:=by rw[← e1,← e2,List.take_append_drop]
 rw[hl] at hreg
 obtain⟨tys,ty,pos,aft,gd,rfl⟩:=ho.eq
 intro Fz vm h hz hb hv hR
 obtain⟨vm1,hh1,w1,r1,wg1,s1,F0,L0,⟨tm1,hw1,hc⟩,g0,hs0⟩:=h1 h Fz noL vm h (Ez hz hv)
 obtain⟨F1,L1,g1,hs1⟩:=hw1 h F0 L0 vm1 hh1 hs0
 have le1:=hs1.ext.le
 have hR1:O.R x F1 hh1:=O.stay hR hs1.ext (g0.trans g1) hs1.fz
 have hv1:=Ev hs1
 have hp:Rex.pop P (ev vm1) { dst:=dst,op:=.call { callee:=.value f,args:=⟨args⟩,argTypes:=tys },type:=ty,pos:=pos,after:=aft,guard:=gd }=none:=rfl
 rcases hc with⟨e,b,x',a1,a2,a3,hH,a5⟩|⟨a1,a5⟩
 ·have hav : VLs F1 hh1 noL (enc e) (args.map (ev vm1)) := by
    rw[← a3]
    exact zH (s:=⟨tm1,[]⟩) hs1.fz hv1 args
  obtain⟨hh2,w2,F2,c1,c2,cb,c3,c4,c5,c6,c7⟩:=hY x F1 hh1 e _ b x' hR1 hs1.fz (e7 hb le1) hav hH
  have hv2:VLs F2 hh2 noL tm1 vm1:=hv1.mono c4 c5
  obtain⟨vm3,hh3,w3,r3,wg3,s3,F3,L3,⟨tm2,hw2,q3⟩,g3,hs3⟩:=a5 hh2 F2 noL _ hh2 ((Ez c6 hv2).put dst (.v _ (.bool b) rfl))
  obtain⟨F4,L4,g4,hs4⟩:=hw2 _ F3 L3 vm3 hh3 hs3
  have hR3:O.R x' F4 hh3:=O.stay c7 hs4.ext (g3.trans g4) hs4.fz
  have hfv:=dJ hs1.fz hs1.tmr f
  rw[show tev (TS.mk tm1 []).tm f=_ from a2] at hfv
  have hfe:ev vm1 f = .func (.yield l) #[] #[]:=by
   generalize ev vm1 f=y at *
   cases hfv
   rfl
  have hcall:xop C P (ev vm1) { dst:=dst,op:=.call { callee:=.value f,args:=⟨args⟩,argTypes:=tys },type:=ty,pos:=pos,after:=aft,guard:=gd } hh1=some (.bool b,hh2,w2):=by
   show xcall C P (ev vm1) { callee:=.value f,args:=⟨args⟩,argTypes:=tys } hh1=_
   unfold xcall
   simp only[hfe]
   exact c1
  have hone:cR C P ops ({ dst:=dst,op:=.call { callee:=.value f,args:=⟨args⟩,argTypes:=tys },type:=ty,pos:=pos,after:=aft,guard:=gd }::l2) vm1 hh1=some (vm3,hh3,wmin w2 w3):=by
   simp only[cR]
   rw[a9 (fW hs1.tmr a1)]
   rw[hp]
   simp only[hcall,r3,Option.map_some]
  obtain⟨w,d1,d2⟩:=mR l1 _ vm h r1 hone
  rw[← hl] at d1 hreg
  have b2:O.base≤hh2.length:=e7 hb (e7 le1 c3)
  refine⟨1,.normal,⟨vm3,[]⟩,hh3,w,by simp only[exec,hreg,if_true,d1,vZ,Option.map_some],(d2 _).2 ⟨Fg wg1 (e7 O.hlo hb),iR c2 (Fg wg3 (e7 O.hlo b2))⟩,rfl,tm2,x',F4,fun hg=>?_,q3,e7 le1 (e7 c3 hs4.ext.le),hs4.fz,Ev hs4,hR3⟩
  have:=(qG ((d2 _).1 hg).2).1
  rw[cb] at this
  cases this
 ·obtain⟨vm3,hh3,w3,r3,wg3,s3,F3,L3,⟨tm2,hw2,q3⟩,g3,hs3⟩:=a5 hh1 F1 noL _ hh1 ((Ez hs1.fz hv1).put dst (.tuple' .nil))
  obtain⟨F4,L4,g4,hs4⟩:=hw2 _ F3 L3 vm3 hh3 hs3
  have hR3:O.R x F4 hh3:=O.stay hR1 hs4.ext (g3.trans g4) hs4.fz
  have hone:cR C P ops ({ dst:=dst,op:=.call { callee:=.value f,args:=⟨args⟩,argTypes:=tys },type:=ty,pos:=pos,after:=aft,guard:=gd }::l2) vm1 hh1=some (vm3,hh3,w3):=by
   simp only[cR]
   rw[b6 (by rw[fW hs1.tmr a1];exact Bool.false_ne_true)]
   exact r3
  obtain⟨w,d1,d2⟩:=mR l1 _ vm h r1 hone
  rw[← hl] at d1 hreg
  exact⟨1,.normal,⟨vm3,[]⟩,hh3,w,by simp only[exec,hreg,if_true,d1,vZ,Option.map_some],(d2 _).2 ⟨Fg wg1 (e7 O.hlo hb),Fg wg3 (e7 O.hlo (e7 hb le1))⟩,rfl,tm2,x,F4,fun _=>rfl,q3,e7 le1 hs4.ext.le,hs4.fz,Ev hs4,hR3⟩
section
variable {nexty:List TV→X→Prop}
instance {a b:Code}:Mv (TI C P O (.seq a b) tm x Q) (TI C P O a tm x (Vy (fun s x=>TI C P O b s x Q) Q)):=⟨TI.seq⟩
instance {id:Nat} {b:Code}:Mv (TI C P O (.block id b) tm x Q) (TI C P O b tm x (uJ id Q)):=⟨TI.block⟩
instance:Mv (TI C P O .skip tm x Q) (Q .normal tm x):=⟨TI.skip⟩
instance {id:Nat}:Mv (TI C P O (.exit id) tm x Q) (Q (.exit id) tm x):=⟨TI.exit⟩
instance:Mv (Vy nexty Q .normal tm x) (nexty tm x):=⟨aCc⟩
instance {id:Nat}:Mv (Vy nexty Q (.exit id) tm x) (Q (.exit id) tm x):=⟨aCd⟩
instance {id:Nat}:Mv (uJ id Q .normal tm x) (Q .normal tm x):=⟨Zp⟩
instance {id:Nat}:Mv (uJ id Q (.exit id) tm x) (Q .normal tm x):=⟨Zb⟩
end
def ISpec(C:Ctx)(g:FuncId)(first caps:List TV)(enc:E→List TV)(it:{X:Type}→(E→X→Option (Bool×X))→X→Option X):Prop:=
 ∀ {X:Type} (O:Out X) (l:Nat) (H:E→X→Option (Bool×X)) (x x':X) (Fz:Nat→Prop) (h:List Blk) (vf vc:List Value),Yields C O l enc H→h.length=O.base→(FZ Fz h)→O.R x Fz h→VLs Fz h noL first vf→VLs Fz h noL caps vc→it H x=some x' →
  ∃ v h' w Fz',C.call g (vf++(.func (.yield l) #[] #[]::vc)) h=some (v,h',w)∧wge w O.lo=true∧h.length≤h'.length∧(FZ Fz' h')∧O.R x' Fz' h'
theorem ISpec.fn{g:FuncId}{fd:Func}{c:Code}{first caps:List TV}{enc:E→List TV}{it:{X:Type}→(E→X→Option (Bool×X))→X→Option X}(hf:P.funcs[g]?=some fd)(hb:fd.body=some c)(hres:fd.results.toList=[]){tms:Nat→List TV}
 (htm:∀ l,(first++(.v (.func (.yield l) #[] #[])::caps))++List.replicate (fd.ntmps-(first++(.v (.func (.yield l) #[] #[])::caps)).length) TV.U=tms l)
 (hx:∀ {X:Type} (O:Out X) (l:Nat) (H:E→X→Option (Bool×X)) (x x':X),Yields (lim P) O l enc H→it H x=some x'→TI (lim P) P O c (tms l) x (fun e _ x2=>(e = .normal∨e = .ret)∧x2=x')):ISpec (lim P) g first caps enc it:=by
 intro X O l H x x' Fz h vf vc hY hl hF hR hvf hvc hit
 have hargs:VLs Fz h noL (first++(.v (.func (.yield l) #[] #[])::caps)) (vf++(.func (.yield l) #[] #[]::vc)):=VLs.append hvf (.cons (.v _ _ rfl) hvc)
 have hs:VLs Fz h noL (tms l) ((vf++(.func (.yield l) #[] #[]::vc))++List.replicate (fd.ntmps-(vf++(.func (.yield l) #[] #[]::vc)).length) undef):=by
  rw[← htm]
  refine VLs.append hargs ?_
  rw[hargs.len]
  exact VLs.replicate (.U noL undef) _
 obtain⟨K,e,a1,h1,w1,hexec,hw,hdf,s1,x2,F1,hx2,⟨he,rfl⟩,l1,f1,hs1,hR1⟩:=hx O l H x x' hY hit Fz _ h hF (by omega) hs hR
 have hm:wmin w1 none=w1:=by cases w1<;>rfl
 by_cases hg:wge w1 h.length=true
 ·refine⟨.tuple #[],h,none,Fz,nU (K:=K) ?_,rfl,b7 _,hF,?_⟩
  ·unfold iT
   simp only[hf,hb,hexec]
   have hend:jR P fd h.length h a1 h1 w1=some (.tuple #[],h,none):=by
    simp only[jR,hdf,bH,hres,oB,hm,hg,if_true]
    rfl
   rcases he with rfl|rfl<;>exact hend
  ·rw[hx2 (by rw[← hl];exact hg)]
   exact hR
 ·have hg':wge w1 h.length=false:=by simpa using hg
  refine⟨.tuple #[],h1,w1,F1,nU (K:=K) ?_,hw,l1,f1,hR1⟩
  unfold iT
  simp only[hf,hb,hexec]
  have hend:jR P fd h.length h a1 h1 w1=some (.tuple #[],h1,w1):=by
   simp only[jR,hdf,bH,hres,oB,hm,hg',Bool.false_eq_true,if_false]
   rfl
  rcases he with rfl|rfl<;>exact hend
end
end Go.Rex
namespace Go.Rex
open Go.RowKit
def odsts:List Oper→List Nat
 | []=>[]
 | o::l=>match o.dst with
  | some d=>d::odsts l
  | none=>odsts l
def cdsts:Code→List Nat
 | .seq x y=>cdsts x++cdsts y
 | .cond _ x y=>cdsts x++cdsts y
 | .block _ b=>cdsts b
 | .loop b=>cdsts b
 | .region _ ops _=>odsts ops.toList
 | _=>[]
section
variable {P:Program} {C:Ctx}
theorem mB{tm:List Value}{dst:Option Tmp}{v:Value}{i:Nat}(hi:dst≠some i):(bJ tm dst v)[i]?=tm[i]?:=by
 cases dst with
 | none=>rfl
 | some d=>simp only[bJ];rw[d8 (by rintro rfl;exact hi rfl)]
theorem yU{o:Oper}{l:List Oper}{i:Nat}(h:i ∉ odsts (o::l)):o.dst≠some i∧i ∉ odsts l:=by
 unfold odsts at h
 cases hd:o.dst with
 | none=>rw[hd] at h;exact⟨by simp,h⟩
 | some d=>rw[hd] at h;simp at h;exact⟨by simp;exact fun e=>h.1 e.symm,h.2⟩
theorem rA{ops:Array Oper}{i:Nat}:∀(l:List Oper) {tm tm':List Value} {h h':List Blk} {w:Option Nat},cR C P ops l tm h=some (tm',h',w)→i ∉ odsts l→tm'[i]?=tm[i]?
 | [],tm,tm',h,h',w,hr,_=>by simp only[cR,Option.some.injEq,Prod.mk.injEq] at hr;rw[← hr.1]
 | o::l,tm,tm',h,h',w,hr,hi=>by
  obtain⟨h1,h2⟩:=yU hi
  simp only[cR] at hr
  split at hr
  ·split at hr
   ·rw[rA l hr h2,mB h1]
   ·split at hr
    ·rw[d9] at hr
     obtain⟨⟨t2,h3,w3⟩,a,e⟩:=hr
     simp only[Prod.mk.injEq] at e
     obtain⟨rfl,-⟩:=e
     rw[rA l a h2,mB h1]
    ·cases hr
  ·rw[rA l hr h2,mB h1]
theorem Ew{ops:Array Oper}{m i:Nat}{o:Oper}{s s':Dr}{j:Nat}(hw:gH C P ops m i o s=some s')(hj:o.dst≠some j):s'.tm[j]?=s.tm[j]?:=by
 unfold gH at hw
 split at hw
 ·split at hw
  ·obtain rfl:=a6 hw;exact mB hj
  ·unfold pZ at hw
   repeat' split at hw
   all_goals first
    | cases hw;done
    | (obtain rfl:=a6 hw;exact mB hj)
 ·obtain rfl:=a6 hw;exact mB hj
theorem yA{ops:Array Oper}{ms:List Nat}{j:Nat}:∀(l:List Oper) {i:Nat} {s s':Dr},dW C P ops ms l i s=some s'→j ∉ odsts l→s'.tm[j]?=s.tm[j]?
 | [],i,s,s',h,_=>by simp only[dW] at h;obtain rfl:=a6 h;rfl
 | o::l,i,s,s',h,hj=>by
  obtain⟨h1,h2⟩:=yU hj
  simp only[dW] at h
  split at h
  ·rename_i s1 hs;rw[yA l h h2,Ew hs h1]
  ·cases h
theorem Dv{ops:Array Oper}{ms:List Nat}{m i:Nat}{o:Oper}{s s':Fr}{j:Nat}(hw:fB C P ops ms m i o s=some s')(hj:o.dst≠some j):s'.tm[j]?=s.tm[j]?:=by
 unfold fB at hw
 split at hw
 ·split at hw
  ·obtain rfl:=a6 hw;exact mB hj
  ·unfold gJ at hw
   repeat' split at hw
   all_goals first
    | cases hw;done
    | (obtain rfl:=a6 hw;exact mB hj)
 ·obtain rfl:=a6 hw;exact mB hj
theorem xU{ops:Array Oper}{ms:List Nat}{j:Nat}:∀(l:List Oper) {i:Nat} {s s':Fr},cY C P ops ms l i s=some s'→j ∉ odsts l→s'.tm[j]?=s.tm[j]?
 | [],i,s,s',h,_=>by simp only[cY] at h;obtain rfl:=a6 h;rfl
 | o::l,i,s,s',h,hj=>by
  obtain⟨h1,h2⟩:=yU hj
  simp only[cY] at h
  split at h
  ·rename_i s1 hs;rw[xU l h h2,Dv hs h1]
  ·cases h
theorem kJ{ro:Option Nat}{i:Nat}:∀(k:Nat) (c:Code) {a a':AS} {h h':List Blk} {e:Exit} {w:Option Nat},exec C P ro k c a h=some (e,a',h',w)→eQ c=true→i ∉ cdsts c→a'.tm[i]?=a.tm[i]?
 | 0,c,a,a',h,h',e,w,hx,_,_=>by simp[exec] at hx
 | k+1,c,a,a',h,h',e,w,hx,hn,hi=>by
  cases c with
  | seq x y =>
   simp only[eQ,Bool.and_eq_true] at hn
   simp only[cdsts,List.mem_append,not_or] at hi
   simp only[exec] at hx
   rcases hq:exec C P ro k x a h with _|⟨e1,a1,h1,w1⟩
   ·rw[hq] at hx;cases hx
   ·rw[hq] at hx
    have i1:=kJ k x hq hn.1 hi.1
    cases e1 with
    | normal =>
     simp only at hx
     rw[d9] at hx
     obtain⟨⟨e2,a2,h2,w2⟩,hy,ee⟩:=hx
     simp only[Prod.mk.injEq] at ee
     obtain⟨-,rfl,-⟩:=ee
     rw[kJ k y hy hn.2 hi.2,i1]
    | _=>simp only[Option.some.injEq,Prod.mk.injEq] at hx;obtain⟨-,rfl,-⟩:=hx;exact i1
  | cond g x y =>
   simp only[eQ,Bool.and_eq_true] at hn
   simp only[cdsts,List.mem_append,not_or] at hi
   simp only[exec] at hx
   split at hx
   ·split at hx
    ·split at hx
     ·exact kJ k x hx hn.1 hi.1
     ·exact kJ k y hx hn.2 hi.2
    ·cases hx
   ·cases hx
  | block id b =>
   simp only[eQ] at hn
   simp only[cdsts] at hi
   simp only[exec] at hx
   rcases hq:exec C P ro k b a h with _|⟨e1,a1,h1,w1⟩
   ·rw[hq] at hx;cases hx
   ·rw[hq] at hx
    have i1:=kJ k b hq hn hi
    cases e1 with
    | exit id' =>
     simp only at hx
     split at hx<;>(simp only[Option.some.injEq,Prod.mk.injEq] at hx;obtain⟨-,rfl,-⟩:=hx;exact i1)
    | _=>simp only[Option.some.injEq,Prod.mk.injEq] at hx;obtain⟨-,rfl,-⟩:=hx;exact i1
  | loop b =>
   have hn':eQ b=true:=by simpa only[eQ] using hn
   have hi':i ∉ cdsts b:=by simpa only[cdsts] using hi
   simp only[exec] at hx
   rcases hq:exec C P ro k b a h with _|⟨e1,a1,h1,w1⟩
   ·rw[hq] at hx;cases hx
   ·rw[hq] at hx
    have i1:=kJ k b hq hn' hi'
    cases e1 with
    | normal =>
     simp only at hx
     rw[d9] at hx
     obtain⟨⟨e2,a2,h2,w2⟩,hy,ee⟩:=hx
     simp only[Prod.mk.injEq] at ee
     obtain⟨-,rfl,-⟩:=ee
     rw[kJ k (.loop b) hy hn hi,i1]
    | _=>simp only[Option.some.injEq,Prod.mk.injEq] at hx;obtain⟨-,rfl,-⟩:=hx;exact i1
  | region id ops d =>
   simp only[cdsts] at hi
   simp only[exec,vZ] at hx
   repeat' split at hx
   all_goals first
    | cases hx;done
    | skip
   all_goals (rw[d9] at hx;obtain⟨⟨t2,h2,w2⟩,ha,ee⟩:=hx;simp only[Prod.mk.injEq] at ee;obtain⟨-,rfl,-⟩:=ee)
   ·unfold iW at ha
    split at ha
    ·unfold oD at ha
     split at ha
     ·rw[d9] at ha
      obtain⟨s,hs,ee⟩:=ha
      simp only[Prod.mk.injEq] at ee
      obtain⟨rfl,-⟩:=ee
      exact xU _ hs hi
     ·cases ha
    ·unfold lQ at ha
     split at ha
     ·rw[d9] at ha
      obtain⟨s,hs,ee⟩:=ha
      simp only[Prod.mk.injEq] at ee
      obtain⟨rfl,-⟩:=ee
      exact yA _ hs hi
     ·cases ha
   ·exact rA _ ha hi
  | rangeFunc g ps as b=>simp[eQ] at hn
  | _=>first
   | (simp only[exec,Option.some.injEq,Prod.mk.injEq] at hx;obtain⟨-,rfl,-⟩:=hx;rfl)
   | simp[exec] at hx
end
end Go.Rex
namespace Go.Rex
open Go.RowKit
section
variable {Fz Fz':Nat→Prop} {h0 h h':List Blk} {L:Nat→LI} {s s':TS} {tm:List Value}
theorem St.other(hs:St h0 Fz L s tm h)(hlen:h.length≤h'.length)(hc:∀(n:Nat) eb cs,h[n]?=some (Blk.cells eb cs)→h'[n]?=some (Blk.cells eb cs))(hF:∀(n:Nat) eb cs,Fz n→h[n]?=some (Blk.cells eb cs)→Fz' n)
 (hN:∀(n:Nat) eb cs,Fz' n→h[n]?=some (Blk.cells eb cs)→Fz n) (hz:∀ n,Fz' n→n<h'.length) (hx:Ext h0 h'):St h0 Fz' L s tm h':=by
 have hF':∀(n:Nat) eb cs,Fz n→h[n]?=some (Blk.cells eb cs)→Fz' n∧h'[n]?=some (Blk.cells eb cs):=fun n eb cs a b=>⟨hF n eb cs a b,hc n eb cs b⟩
 refine⟨hs.tmr.cells hF',fun n b hb=>?_,hs.dom,hs.inj,hs.fz.cells hF' hz,hx⟩
 have h1:=hs.blk n b hb
 cases b with
 | dead=>trivial
 | rows es rows =>
  obtain⟨a1,a2,a3,a4,a5⟩:=h1
  refine⟨a1,a2,a3,a4,?_⟩
  rcases a5 with a5|⟨nm,cs,b1,b2,b3,b4,b5⟩
  ·exact .inl a5
  ·exact .inr ⟨nm,cs,b1,b2,fun hf=>b3 (hN nm _ _ hf b4),hc nm _ _ b4,b5.cells hF'⟩
 | var row =>
  obtain⟨a1,nm,cs,b1,b2,b3,b4,b5⟩:=h1
  exact⟨a1,nm,cs,b1,b2,fun hf=>b3 (hN nm _ _ hf b4),hc nm _ _ b4,b5.cells hF'⟩
theorem Kj{l:Nat}{b:Blk}(hx:Ext h0 h)(hl:h0.length≤l):Ext h0 (h.set l b):=by
 obtain⟨t,rfl⟩:=hx
 exact⟨t.set (l-h0.length) b,by rw[List.set_append_right _ _ hl]⟩
def tset:List Tmp→List TV→List TV→List TV
 | p::ps,v::vs,tmps=>tset ps vs (tmps.set p v)
 | _,_,tmps=>tmps
theorem Tz:∀(ps:List Tmp) {vs:List TV} {xs:List Value} {T:List TV} {vm:List Value},VLs Fz h L vs xs→VLs Fz h L T vm→VLs Fz h L (tset ps vs T) (lG ps xs vm)
 | [],vs,xs,T,vm,hv,ht=>by cases vs<;>cases xs<;>exact ht
 | p::ps,[],xs,T,vm,hv,ht=>by
  have:xs=[]:=by have:=hv.len;simpa using this
  subst this;exact ht
 | p::ps,v::vs,xs,T,vm,hv,ht=>by
  obtain⟨x,xs',rfl⟩:∃ x xs',xs=x::xs':=by
   cases xs with
   | nil=>have:=hv.len;simp at this
   | cons a b=>exact⟨a,b,rfl⟩
  simp only[tset,lG]
  exact Tz ps ⟨by have:=hv.len;simpa using this,fun i p y h1 h2=>hv.at' (i+1) p y (by simpa using h1) (by simpa using h2)⟩ (ht.set p (hv.at' 0 v x rfl rfl))
theorem Ap{i:Nat}:∀(ps:List Tmp) (xs vm:List Value),i ∉ ps→(lG ps xs vm)[i]?=vm[i]?
 | [],xs,vm,_=>by simp[lG]
 | p::ps,[],vm,_=>by simp[lG]
 | p::ps,x::xs,vm,h=>by
  simp only[List.mem_cons,not_or] at h
  simp only[lG]
  rw[Ap ps xs _ h.2,d8 (Ne.symm h.1)]
end
def xcode:Exit→Code
 | .ret=>.ret
 | .exit id=>.exit id
 | _=>.skip
def rend(e:Exit)(l:Nat)(h:List Blk)(w:Option Nat):AOut:=match e with
 | .normal=>kR l none h w
 | .ret=>kR l (some .ret) h w
 | .exit id=>kR l (some (.exit id)) h w
 | _=>none
def hand{E σ ε:Type}(step:E→σ→Option (σ ⊕ ε))(e:E)(x:σ ⊕ ε):Option (Bool×(σ ⊕ ε)):=
 match x with
 | .inl y=>(step e y).map fun r=>match r with
  | .inl y'=>(true,.inl y')
  | .inr z=>(false,.inr z)
 | .inr _=>none
def noslot(T:List TV)(i:Nat):Bool:=match T[i]? with
 | some .U=>true
 | none=>true
 | _=>false
section
variable {P:Program}
theorem TM.range{E σ ε:Type}{enc:E→List TV}{it:{X:Type}→(E→X→Option (Bool×X))→X→Option X}{step:E→σ→Option (σ ⊕ ε)}{x0:σ}{x':σ ⊕ ε}{gf:FuncId}{first caps T:List TV}{g:Operand}{ps:Array Tmp}{assign body:Code}{Q:Exit→TS→Prop}
 (hit:it (hand step) (.inl x0)=some x') (I:σ→List TB) (J:ε→List TB) (xc:ε→Exit) (hg:tev T g = .func gf first caps) (hgo:mP g=true) (hfd:aN P gf=true) (hsp:ISpec (lim P) gf first caps enc it)
 (hna:eQ assign=true) (hnb:eQ body=true) (hT:(ps.toList++(cdsts assign++cdsts body)).all (noslot T)=true) (hlen:∀ e,(enc e).length=ps.size) (hxc:∀ z,xc z = .ret∨∃ id,xc z = .exit id)
 (hround:∀ e y r,step e y=some r→TX (lim P) P assign ⟨tset ps.toList (enc e) T,I y⟩ (fun ex s1=>ex = .normal∧TX (lim P) P body s1 (fun ex s2=>match (generalizing:=false) r with
  | .inl y'=>ex = .normal∧Wk s2 ⟨T,I y'⟩
  | .inr z=>ex=xc z∧Wk s2 ⟨T,J z⟩)))
 (hq:match (generalizing:=false) x' with
  | .inl y=>Q .normal ⟨T,I y⟩
  | .inr z=>Q (xc z) ⟨T,J z⟩):TM (lim P) P (.rangeFunc g ps assign body) ⟨T,I x0⟩ Q:=by
 intro h0 Fz0 L0 vm df h hs hm
 have hgv:=dJ hs.fz hs.tmr g
 rw[show tev (TS.mk T (I x0)).tm g=_ from hg] at hgv
 obtain⟨vf,vc,hge,vlf,vlc⟩:∃ f' c',ev vm g = .func (.func gf) ⟨f'⟩ ⟨c'⟩∧VLs Fz0 h noL first f'∧VLs Fz0 h noL caps c':=by
  generalize ev vm g=y at *
  cases hgv with
  | func _ _ _ _ a' b' la ha lb hb=>exact⟨a',b',rfl,⟨la,ha⟩,⟨lb,hb⟩⟩
 have hle0:=hs.ext.le
 have hz0:=hs.fz
 let d:=h.length
 let l:=h.length+1
 let LB:LoopState→Option Code→Blk:=fun st pe=>.loop st pe vm ps assign body d
 let h2:List Blk:=h++[.dfr]++[LB .ready none]
 have h2len:h2.length=h.length+2:=by simp[h2]
 have h2old:∀ n,n<h.length→h2[n]?=h[n]?:=fun n hn=>by
  simp only[h2,List.append_assoc];exact d4 hn
 have h2d:h2[d]?=some .dfr:=by simp[h2,d]
 have h2l:h2[l]?=some (LB .ready none):=by simp[h2,l]
 let Fz1:Nat→Prop:=fun n=>Fz0 n∨n∈d::df
 have mk:∀ m,m∈d::df→h0.length≤m∧h2[m]?=some .dfr:=fun m hm'=>by
  rcases j9.1 hm' with rfl|hm'
  ·exact⟨hle0,h2d⟩
  ·obtain⟨a,b⟩:=hm.2 m hm'
   exact⟨a,by rw[h2old m (a8.1 b).1];exact b⟩
 have hF1l:¬ Fz1 l:=by
  rintro (a|a)
  ·have:=hz0 l a;simp only[l] at this;omega
  ·have:=(mk l a).2;rw[h2l] at this;simp[LB] at this
 have hz1:∀ n,Fz1 n→n<h2.length:=fun n hn=>by
  rcases hn with a|a
  ·have:=hz0 n a;omega
  ·exact (a8.1 (mk n a).2).1
 let PB:σ ⊕ ε→List TB:=fun x=>match x with
  | .inl y=>I y
  | .inr z=>J z
 let SB:σ ⊕ ε→Blk:=fun x=>match x with
  | .inl y=>LB .ready none
  | .inr z=>LB .done (some (xcode (xc z)))
 have SBn:∀ x,SB x ≠ .dead∧∀ es cs,SB x ≠ .cells es cs:=fun x=>by cases x<;>simp[SB,LB]
 let R:σ ⊕ ε→(Nat→Prop)→List Blk→Prop:=fun x Fz h'=>(∀ n,Fz1 n→Fz n)∧(∀ n,Fz n→Fz1 n∨h0.length≤n)∧(∀ n,Fz1 n→h'[n]?=h2[n]?)∧¬ Fz l∧(∃ L,St h0 Fz L ⟨T,PB x⟩ vm h')∧h'[l]?=some (SB x)
 have hstay:∀ {x:σ ⊕ ε} {Fz Fz':Nat→Prop} {h h':List Blk},R x Fz h→Ext h h'→Grow h Fz Fz' h h'→(FZ Fz' h')→R x Fz' h':=by
  rintro x Fz Fz' ha hb ⟨r1,r2,r3,r4,⟨L,r5⟩,r6⟩ hx g hz
  have hll:=(a8.1 r6).1
  refine⟨fun n hn=>g.1 n (r1 n hn),fun n hn=>?_,fun n hn=>(g.3 n (r1 n hn)).trans (r3 n hn),fun hf=>?_,⟨L,r5.heap hx g.1 (fun n hn=>?_)⟩,?_⟩
  ·rcases g.2 n hn with a|a
   ·exact r2 n a
   ·exact .inr (e7 r5.ext.le a)
  ·rcases g.2 l hf with a|a
   ·exact r4 a
   ·omega
  ·rcases g.2 n hn with a|a
   ·exact .inl a
   ·exact .inr ⟨a,hz n hn⟩
  ·obtain⟨t,rfl⟩:=hx
   rw[d4 hll];exact r6
 let O:Out (σ ⊕ ε):=⟨h0.length,h.length+2,R,by omega,hstay⟩
 have hY:Yields (lim P) O l enc (hand step):=by
  intro x Fz hA e as b x2 hR hz hbase hav hH
  obtain⟨r1,r2,r3,r4,⟨L,r5⟩,r6⟩:=hR
  have hlA:=(a8.1 r6).1
  cases x with
  | inr z=>simp[hand] at hH
  | inl y =>
   simp only[hand,Option.map_eq_some_iff] at hH
   obtain⟨r,hstep,hr⟩:=hH
   have r6':hA[l]?=some (LB .ready none):=r6
   have hnc:∀ es cs,hA[l]?≠some (.cells es cs):=fun es cs=>by rw[r6'];simp[LB]
   have r5':St h0 (fun n=>Fz n∨n=l) L ⟨T,I y⟩ vm hA:=r5.other (b7 _) (fun n eb cs hn=>hn) (fun n eb cs hf _=>.inl hf) (fun n eb cs hf hn=>by
    rcases hf with hf|rfl
    ·exact hf
    ·exact absurd hn (hnc eb cs)) (fun n hn=>by
    rcases hn with hn|rfl
    ·exact hz n hn
    ·exact hlA) r5.ext
   have hav':VLs (fun n=>Fz n∨n=l) hA L (enc e) as:=(hav.mono (fun n hn=>.inl hn) (fun n _=>rfl)).ofNo
   have hst:St h0 (fun n=>Fz n∨n=l) L ⟨tset ps.toList (enc e) T,I y⟩ (lG ps.toList as vm) hA:=⟨Tz ps.toList hav' r5'.tmr,r5'.blk,r5'.dom,r5'.inj,r5'.fz,r5'.ext⟩
   obtain⟨K1,e1,⟨tm1,df1⟩,hB,w1,x1,wg1,hd1,s1,F1,L1,⟨rfl,hbody⟩,g1,hs1⟩:=hround e y r hstep h0 _ L _ hA hst
   obtain rfl:df1=[]:=hd1
   have kB:hB[l]?=some (LB .ready none):=(g1.3 l (.inr rfl)).trans r6'
   have kl1:=(gG (rC (P:=P)) K1 assign x1).1.1
   have hncB:∀ es cs,hB[l]?≠some (.cells es cs):=fun es cs=>by rw[kB];simp[LB]
   have hlo:h0.length≤l:=by simp only[l];omega
   have hs1':St h0 F1 L1 s1 tm1 (hB.set l (LB .busy none)):=hs1.other (by simp) (fun n eb cs hn=>by rw[d8 (by rintro rfl;exact hncB _ _ hn)];exact hn) (fun n eb cs hf _=>hf) (fun n eb cs hf _=>hf) (fun n hn=>by simpa using hs1.fz n hn) (Kj hs1.ext hlo)
   have hlB:=(a8.1 kB).1
   obtain⟨K2,e2,⟨tm2,df2⟩,hC,w2,x2',wg2,hd2,s2,F2,L2,hend,g2,hs2⟩:=hbody h0 F1 L1 tm1 _ hs1'
   obtain rfl:df2=[]:=hd2
   have kC:hC[l]?=some (LB .busy none):=(g2.3 l (g1.1 l (.inr rfl))).trans (by rw[e9 hlB])
   have kl2:=(gG (rC (P:=P)) K2 body x2').1.1
   have kl2':hB.length≤hC.length:=by simpa using kl2
   have hncC:∀ es cs,hC[l]?≠some (.cells es cs):=fun es cs=>by rw[kC];simp[LB]
   have hlC:=(a8.1 kC).1
   have hxc2:(∀ z,r = .inr z→e2=xc z)∧(∀ y',r = .inl y'→e2 = .normal)∧Wk s2 ⟨T,PB r⟩:=by
    cases r with
    | inl y'=>exact⟨fun z h=>(nomatch h),fun _ _=>hend.1,hend.2⟩
    | inr z=>exact⟨fun z' h=>(by cases h;exact hend.1),fun _ h=>(nomatch h),hend.2⟩
   obtain⟨xe1,xe2,hwk⟩:=hxc2
   obtain⟨F3,L3,g3,hs3⟩:=hwk h0 F2 L2 tm2 hC hs2
   have h0l:h0.length≤l:=hlo
   have hslot:VLs F3 hC L3 T vm:=by
    refine⟨r5.tmr.len,fun i p v hp hv=>?_⟩
    by_cases hj:p = .U
    ·subst hj;exact .U _ _
    ·have hni : i ∉ ps.toList ++ (cdsts assign ++ cdsts body) := fun hi => by
       have:=c9.1 hT i hi
       unfold noslot at this
       rw[hp] at this
       cases p<;>first|exact hj rfl|cases this
     simp only[List.mem_append,not_or] at hni
     have q1:tm1[i]?=(lG ps.toList as vm)[i]?:=kJ K1 assign x1 hna hni.2.1
     have q2:tm2[i]?=tm1[i]?:=kJ K2 body x2' hnb hni.2.2
     refine hs3.tmr.at' i p v hp ?_
     show tm2[i]?=some v
     rw[q2,q1,Ap _ _ _ hni.1]
     exact hv
   have hs3v:St h0 F3 L3 ⟨T,PB r⟩ vm hC:=⟨hslot,hs3.blk,hs3.dom,hs3.inj,hs3.fz,hs3.ext⟩
   have hs4:∀ b4:Blk,St h0 (fun n=>F3 n∧n≠l) L3 ⟨T,PB r⟩ vm (hC.set l b4):=fun b4=>hs3v.other (by simp) (fun n eb cs hn=>by rw[d8 (by rintro rfl;exact hncC _ _ hn)];exact hn)
    (fun n eb cs hf hn=>⟨hf,by rintro rfl;exact hncC _ _ hn⟩) (fun n eb cs hf _=>hf.1) (fun n hn=>by simpa using hs3v.fz n hn.1) (Kj hs3v.ext h0l)
   have hsz:as.length=ps.size:=by have:=hav.len;rw[hlen e] at this;exact this
   have hne:(e2 = .normal∧b=true∧∃ y',r = .inl y'∧x2 = .inl y')∨(∃ z,r = .inr z∧e2=xc z∧b=false∧x2 = .inr z):=by
    cases r with
    | inl y'=>simp only[Prod.mk.injEq] at hr;exact .inl ⟨xe2 y' rfl,hr.1.symm,y',rfl,hr.2.symm⟩
    | inr z=>simp only[Prod.mk.injEq] at hr;exact .inr ⟨z,rfl,xe1 z rfl,hr.1.symm,hr.2.symm⟩
   have hbx:x2=r∧∃ jump:Option Code,b=jump.isNone∧SB x2=LB (if jump.isNone then .ready else .done) jump∧rend e2 l hC (wmin w1 w2)=kR l jump hC (wmin w1 w2):=by
    rcases hne with⟨rfl,rfl,y',rfl,rfl⟩|⟨z,rfl,rfl,rfl,rfl⟩
    ·exact⟨rfl,none,rfl,rfl,rfl⟩
    ·refine⟨rfl,some (xcode (xc z)),rfl,rfl,?_⟩
     rcases hxc z with h|⟨id,h⟩<;>rw[h]<;>rfl
   obtain⟨rfl,jump,hb,hSB,hRE⟩:=hbx
   have hround':(lim P).round l as hA=some (.bool b,hC.set l (SB x2),wmin (some l) (wmin w1 w2)):=by
    refine Mg (K:=max K1 K2) ?_
    have p1:=gE (C:=lim P) (P:=P) (ro:=some l) (max K1 K2) assign (lG ps.toList as vm) [] hA hna
    rw[kF (Nat.le_max_left K1 K2) x1,m9] at p1
    have p2:=gE (C:=lim P) (P:=P) (ro:=some l) (max K1 K2) body tm1 [] (hB.set l (LB .busy none)) hnb
    rw[kF (Nat.le_max_right K1 K2) x2',m9] at p2
    unfold lV
    rw[r6']
    simp only[LB,hsz,and_self,if_true,true_and]
    rw[p1]
    simp only[kB,LB,if_true]
    simp only[LB] at p2
    rw[p2]
    show rend e2 l hC (wmin w1 w2)=_
    rw[hRE]
    unfold kR
    rw[kC]
    simp only[LB]
    rw[hSB,← hb]
   have hcalls:∀ n,Fz n→n≠l:=fun n hn=>by rintro rfl;exact r4 hn
   have hsame:∀ n,Fz n→(hC.set l (SB x2))[n]?=hA[n]?:=fun n hn=>by
    have hnl:=hcalls n hn
    rw[d8 (Ne.symm hnl),g2.3 n (g1.1 n (.inl hn)),d8 (Ne.symm hnl),g1.3 n (.inl hn)]
   refine⟨_,_,fun n=>F3 n∧n≠l,hround',?_,?_,by simp only[List.length_set];omega,fun n hn=>⟨g3.1 n (g2.1 n (g1.1 n (.inl hn))),hcalls n hn⟩,hsame,(hs4 (SB x2)).fz,?_⟩
   ·exact iR (by simpa [wge] using hlo) (iR wg1 wg2)
   ·have:wge (some l) (h.length+2)=false:=by simp[wge,l]
    cases hq':wge (wmin (some l) (wmin w1 w2)) O.base with
    | false=>rfl
    | true=>have:=(qG hq').1;simp[wge,l,O] at this
   ·refine⟨fun n hn=>⟨g3.1 n (g2.1 n (g1.1 n (.inl (r1 n hn)))),hcalls n (r1 n hn)⟩,fun n hn=>?_,fun n hn=>(hsame n (r1 n hn)).trans (r3 n hn),fun hf=>hf.2 rfl,⟨L3,hs4 (SB x2)⟩,by rw[e9 hlC]⟩
    rcases g3.2 n hn.1 with a|a
    ·rcases g2.2 n a with a|a
     ·rcases g1.2 n a with (a|a)|a
      ·exact r2 n a
      ·exact absurd a hn.2
      ·exact .inr a
     ·exact .inr a
    ·exact .inr a
 have hs2:St h0 Fz0 L0 ⟨T,I x0⟩ vm h2:=hs.heap (Ext.trans (Ext.app h [.dfr]) (Ext.app _ _)) (fun n hn=>hn) (fun n hn=>.inl hn)
 have hs3:St h0 Fz1 L0 ⟨T,I x0⟩ vm h2:=hs2.other (b7 _) (fun n eb cs hn=>hn) (fun n eb cs hf _=>.inl hf) (fun n eb cs hf hn=>by
  rcases hf with hf|hf
  ·exact hf
  ·have:=(mk n hf).2;rw[hn] at this;cases this) hz1 hs2.ext
 have hR0:R (.inl x0) Fz1 h2:=⟨fun n hn=>hn,fun n hn=>.inl hn,fun n _=>rfl,hF1l,⟨L0,hs3⟩,h2l⟩
 have up:∀ n,Fz0 n→h2[n]?=h[n]?:=fun n hn=>h2old n (hz0 n hn)
 obtain⟨v,h3,w,F4,hcall,wg,hlen3,hz4,hR4⟩:=hsp O l (hand step) (.inl x0) x' Fz1 h2 vf vc hY h2len hs3.fz hR0 (vlf.mono (fun n hn=>.inl hn) up) (vlc.mono (fun n hn=>.inl hn) up) hit
 obtain⟨r1,r2,r3,r4,⟨L,r5⟩,r6⟩:=hR4
 have hl3:=(a8.1 r6).1
 have hnc3:∀ es cs,h3[l]?≠some (.cells es cs):=fun es cs=>by rw[r6];intro h;exact (SBn x').2 es cs (a6 h)
 have hlo:h0.length≤l:=by simp only[l];omega
 have hfin:St h0 F4 L ⟨T,PB x'⟩ vm (h3.set l .dead):=r5.other (by simp) (fun n eb cs hn=>by rw[d8 (by rintro rfl;exact hnc3 _ _ hn)];exact hn) (fun n eb cs hf _=>hf) (fun n eb cs hf _=>hf) (fun n hn=>by simpa using hz4 n hn) (Kj r5.ext hlo)
 have hnl1:∀ n,Fz1 n→n≠l:=fun n hn=>by rintro rfl;exact hF1l hn
 have hMk:Mk h0.length (d::df) (h3.set l .dead):=by
  refine⟨List.nodup_cons.2 ⟨fun hd=>?_,hm.1⟩,fun m hm'=>⟨(mk m hm').1,?_⟩⟩
  ·have:=(a8.1 (hm.2 d hd).2).1
   simp only[d] at this
   omega
  ·have hf:Fz1 m:=.inr hm'
   rw[d8 (Ne.symm (hnl1 m hf)),r3 m hf]
   exact (mk m hm').2
 have hG:Grow h0 Fz0 F4 h (h3.set l .dead):=by
  refine⟨fun n hn=>r1 n (.inl hn),fun n hn=>?_,fun n hn=>?_⟩
  ·rcases r2 n hn with (a|a)|a
   ·exact .inl a
   ·exact .inr (mk n a).1
   ·exact .inr a
  ·rw[d8 (Ne.symm (hnl1 n (.inl hn))),r3 n (.inl hn),up n hn]
 have hfdx : ∃ fd, P.funcs[gf]? = some fd ∧ (fd.body.isSome = true ∧ (fd.name == "runtime.NumGoroutine") = false) := by
  unfold aN at hfd
  split at hfd
  ·rename_i fd hf
   refine⟨fd,hf,?_⟩
   split at hfd
   ·rename_i c hc
    exact⟨by rw[hc];rfl,by simpa using hfd⟩
   ·cases hfd
  ·cases hfd
 obtain⟨fd,hf,hfb⟩:=hfdx
 have hrun:∀ r,rV ⟨vm,[d]++df⟩ l h3 w=r→exec (lim P) P none 1 (.rangeFunc g ps assign body) ⟨vm,df⟩ h=r:=by
  rintro r rfl
  simp only[exec,oJ,hgo,if_true,hge,hf,hfb,and_self,tY]
  have e1:(h++[Blk.dfr]).length=l:=by simp[l]
  rw[e1]
  have e2:((h++[Blk.dfr])++[Blk.loop .ready none vm ps assign body h.length])=h2:=rfl
  have e3:(vf++([Value.func (.yield l) #[] #[]]++vc))=vf++(.func (.yield l) #[] #[]::vc):=rfl
  rw[e2,e3,hcall]
 cases x' with
 | inl y =>
  refine⟨1,.normal,⟨vm,[d]++df⟩,h3.set l .dead,w,hrun _ ?_,wg,hMk,_,F4,L,hq,hG,hfin⟩
  unfold rV
  rw[r6]
  simp[SB,LB]
 | inr z =>
  refine⟨1,xc z,⟨vm,[d]++df⟩,h3.set l .dead,w,hrun _ ?_,wg,hMk,_,F4,L,hq,hG,hfin⟩
  unfold rV
  rw[r6]
  rcases hxc z with h|⟨id,h⟩<;>simp[SB,LB,h,xcode]
variable {s:TS} {Q:Exit→TS→Prop}
instance {x y:Code}:Mv (TM (lim P) P (.seq x y) s Q) (TM (lim P) P x s (Em (fun s=>TM (lim P) P y s Q) Q)):=⟨TM.seq⟩
instance {id:Nat} {b:Code}:Mv (TM (lim P) P (.block id b) s Q) (TM (lim P) P b s (nF id Q)):=⟨TM.block⟩
instance:Mv (TM (lim P) P .skip s Q) (Q .normal s):=⟨fun h=>TM.of rC rfl (TX.skip h)⟩
instance {id:Nat}:Mv (TM (lim P) P (.exit id) s Q) (Q (.exit id) s):=⟨fun h=>TM.of rC rfl (TX.exit h)⟩
instance:Mv (TM (lim P) P .ret s Q) (Q .ret s):=⟨fun h=>TM.of rC rfl (TX.ret h)⟩
instance {id:Nat} {ops:Array Oper} {d:Bool}:Mv (TM (lim P) P (.region id ops d) s Q) (TX (lim P) P (.region id ops d) s Q):=⟨TM.of rC rfl⟩
end
end Go.Rex
namespace Go.Rex
open Go.RowKit
section
variable {C:Ctx} {P:Program} {tm tm2:List TV} {hp:List TB} {ops:Array Oper} {rest:List Oper} {Q:TS→Prop}
variable {dst:Option Tmp} {ty:TypeId} {pos:String} {aft:Array Edge} {gd:Option (Nat×Bool)} {x y:Operand} {t u:TypeId}
open Classical in
end
end Go.Rex
namespace Go.Rex
open Go.RowKit
section
variable {C:Ctx} {P:Program} {Fz:Nat→Prop} {h h0:List Blk} {L:Nat→LI} {s:TS} {tm:List Value}
variable {dst:Option Tmp} {ty:TypeId} {pos:String} {aft:Array Edge} {gd:Option (Nat×Bool)}
end
section
variable {C:Ctx} {P:Program} {ops:Array Oper} {rest:List Oper} {tm tm2:List TV} {hp hp2:List TB} {Q:TS→Prop} {o:Oper}
variable {dst:Option Tmp} {ty:TypeId} {pos:String} {aft:Array Edge} {gd:Option (Nat×Bool)} {p q:TV} {ms:List Nat} {i:Nat} {np:List Nat} {c:Nat}
end
section
variable {C:Ctx} {P:Program} {tm tm2:List TV} {hp hp2:List TB} {Q:Exit→TS→Prop} {c:Code}
end
end Go.Rex
namespace Go.Rex
open Go.RowKit
def Pf(P:Program)(g:FuncId)(res:List Blk→Value×List Blk)(k:Nat):Nat→Ctx
 | 0=>⟨fun _ _ _=>none,fun _ _ _=>none⟩
 | d+1=>⟨fun f args h=>if f=g then (match args with|[]=>some ((res h).1,(res h).2,none)|_=>none) else iT (Pf P g res k d) P k f args h,lV (Pf P g res k d) P k⟩
def aB3(P:Program)(g:FuncId)(res:List Blk→Value×List Blk):Prop:=
 ∀(h:List Blk) (B lo:Nat) (D:Nat→Prop) (m:NMap) (w:World),Rel B lo D m h w→lo≤h.length→Calls P g ⟨[]⟩ w (Good B lo D m h w (res h).1 (res h).2)
theorem Ds{P:Program}(hm:P.follows .mixedOrders=true){g:FuncId}{res:List Blk→Value×List Blk}(hres:aB3 P g res)(k:Nat):∀ d,CtxOk P (Pf P g res k d)
 | 0=>⟨fun h=>by simp[Pf] at h,fun h=>by simp[Pf] at h⟩
 | d+1 =>
  have hD:tF P (Pf P g res k d):=fun {_ _ _ _ _ _ _} hv {_ _ _ _ _ _ _ _ _} hr hlo hA hw hQ=>Bc (Ds hm hres k d) hm hv hr hlo hA hw hQ
  ⟨fun {f args h v h' wr} hv {B lo D m w args'} hr hlo hw hargs=>by
   simp only[Pf] at hv
   split at hv
   ·rename_i hf
    subst hf
    split at hv
    ·obtain⟨rfl,rfl,rfl⟩:(res h).1=v∧(res h).2=h'∧none=wr:=by simpa using hv
     obtain rfl:args'=[]:=by have:=hargs.len;simpa using this
     exact hres _ _ _ _ _ _ hr hlo
    ·cases hv
   ·exact sN (Ds hm hres k d) hD hv hr hlo hw hargs,fun h=>vQ (Ds hm hres k d) hD h⟩
def aCx(P:Program)(g:FuncId)(res:List Blk→Value×List Blk)(k d:Nat)(f:FuncId)(args:List Value)(h:List Blk):AOut:=(Pf P g res k d).call f args h
theorem aA3{P:Program}(hm:P.follows .mixedOrders=true){g:FuncId}{res:List Blk→Value×List Blk}(hres:aB3 P g res){k d:Nat}{f:FuncId}(hv:Fq (aCx P g res k d f [] GH)=true):AwT P f:=by
 intro w hgw hgs
 unfold Fq at hv
 split at hv
 ·rename_i h' hx
  refine ((Ds hm hres k d).call hx (Rel.start w hgw hgs) (b7 _) (fun n h=>by cases h) VRs.nil).mono ?_
  rintro e w' ⟨v',m',rfl,hp,hvr⟩
  cases hvr
  exact⟨rfl,hp.below⟩
 ·cases hv
def Olds(h h':List Blk)(w:Option Nat):Prop:=h.length≤h'.length∧∀ m:Nat,m<h.length→wge w (m+1)=true→h'[m]?=h[m]?
section
variable {P:Program} {C:Ctx}
structure COlds(C:Ctx):Prop where
 call:∀ {f args h v h' w},C.call f args h=some (v,h',w)→Olds h h' w
 round:∀ {l args h v h' w},C.round l args h=some (v,h',w)→Olds h h' w
end
end Go.Rex
namespace Go.Rex
open Go.RowKit
section
variable {C:Ctx} {P:Program} {h0 h h':List Blk} {Fz Fz':Nat→Prop} {L L':Nat→LI} {s s':TS} {tm:List Value}
def stays(args:List TV)(c:Code)(tm:List TV)(n:Nat):Bool:=(List.range args.length).any fun i=>match args[i]?,tm[i]? with
 | some (.lsl m 0 _),some (.lsl m' 0 _)=>m==n&&m'==n&&!(cdsts c).contains i
 | _,_=>false
end
end Go.Rex
namespace Go.Rex
open Go.RowKit
section
variable {C:Ctx} {P:Program} {h0 h h':List Blk} {Fz Fz':Nat→Prop} {L L':Nat→LI} {s s':TS} {tm:List Value} {dst:Option Tmp} {ty:TypeId} {pos:String} {aft:Array Edge} {gd:Option (Nat×Bool)}
variable {ops:Array Oper} {o:Oper} {rest:List Oper} {Q:TS→Prop} {ms:List Nat} {i:Nat} {np:List Nat} {c:Nat} {tv tv2:List TV} {hp hp2:List TB}
end
end Go.Rex
namespace Go.Rex
open Go.RowKit
section
variable {C:Ctx} {P:Program} {s s':TS} {dst:Option Tmp} {ty:TypeId} {pos:String} {aft:Array Edge} {gd:Option (Nat×Bool)}
noncomputable def aDe{α:Type}(a b:List α):List α:=if b.length=a.length then b else a
inductive Pair:List TB→List TB→List TB→Prop
 | nil:Pair [] [] []
 | cons {es:Nat} {α:Type} {f:α→List TV} {a b:List α} {B B' B2:List TB} (h:Pair B B' B2):Pair (.rows es (a.map f)::B) (.rows es (b.map f)::B') (.rows es ((aDe a b).map f)::B2)
variable {ops:Array Oper} {o:Oper} {rest:List Oper} {Q:TS→Prop} {ms:List Nat} {i:Nat} {np:List Nat} {c:Nat} {tv tv2:List TV} {hp hp2:List TB}
end
end Go.Rex
namespace Go.Rex
section
variable {P:Program} {tm:List TV} {hp:List TB} {dst:Option Tmp} {ty:TypeId} {pos:String} {aft:Array Edge} {gd:Option (Nat×Bool)} {x y z:Operand} {tys:List TypeId}
end
end Go.Rex
open Go Go.Rex Go.RowKit
namespace Go.Rex
theorem wA{A G H:Prop}(T:A)(h:A→H→G:=by (intro T g;(repeat (first|with_reducible refine mv ?_|with_reducible refine m12 rfl ?_|with_reducible refine TO.nil ?_|((with_reducible first|apply TO.mv|apply TO.asg|apply TO.bin|apply TO.ld|apply TO.fa|apply TO.ia|apply TO.pk|apply TO.sv|apply TO.al|apply TO.bld|apply TO.ext|apply TO.mf|apply TO.fld);(repeat (focus (show _=_;first|exact k1 rfl|exact k2 rfl|(simp only[zz,T,Nat.reduceAdd,Nat.reduceMul,Nat.reduceLeDiff,Nat.reduceEqDiff,tload,dV,dN,List.getElem?_map,aJ,aR,Nat.zero_add,tlen,tbuild,tfill,tfield]<;>exact rfl)|exact rfl)));(with_reducible apply TO.here))|((with_reducible apply TO.skip1);(repeat (focus (show _=_;first|exact k1 rfl|exact k2 rfl|(simp only[zz,T,Nat.reduceAdd,Nat.reduceMul,Nat.reduceLeDiff,Nat.reduceEqDiff,twant,List.getElem?_toArray,Option.bind_some]<;>exact rfl)|exact rfl)));(with_reducible apply TO.here))|with_reducible refine TD.nil ?_|((with_reducible first|apply TD.mv|apply TD.asg|apply TD.bin|apply TD.ld|apply TD.fa|apply TD.ia|apply TD.pk|apply TD.sv|apply TD.al|apply TD.bld|apply TD.ext|apply TD.mf );(repeat (focus (show _=_;first|exact k1 rfl|exact k2 rfl|(simp only[zz,T,Nat.reduceAdd,Nat.reduceMul,Nat.reduceLeDiff,Nat.reduceEqDiff,tload,dV,dN,List.getElem?_map,aJ,aR,Nat.zero_add,tlen,tbuild,tfill,tfield]<;>exact rfl)|exact rfl)));(with_reducible refine TD.here ?_))|((with_reducible apply TD.skip1);(repeat (focus (show _=_;first|exact k1 rfl|exact k2 rfl|(simp only[zz,T,Nat.reduceAdd,Nat.reduceMul,Nat.reduceLeDiff,Nat.reduceEqDiff,twant,List.getElem?_toArray,Option.bind_some]<;>exact rfl)|exact rfl)));(with_reducible refine TD.here ?_))|((with_reducible apply TX.cond_true);(focus rfl);(focus (first|rfl|(simp only[z1,Bool.not_true,Bool.not_false,T];done))))|((with_reducible apply TX.cond_false);(focus rfl);(focus (first|rfl|(simp only[z1,Bool.not_true,Bool.not_false,T];done))))|((with_reducible apply TX.region);(focus (simp only[List.toList_toArray]<;>exact rfl));(focus rfl);(try dsimp only))|((with_reducible apply TX.drawn);(focus decide +kernel);(focus (simp only[List.toList_toArray]<;>exact rfl));(focus exact rfl);(try dsimp only))|fail));exact g))(g:H):G:=h T g
theorem wa_{A G H:Prop}(T:A)(h:A→H→G:=by (intro T g;(repeat (first|with_reducible refine mv ?_|with_reducible refine m12 rfl ?_|with_reducible refine TO.nil ?_|((with_reducible first|apply TO.mv|apply TO.asg|apply TO.bin|apply TO.fa|apply TO.ia|apply TO.pk|apply TO.sv|apply TO.al|apply TO.bld|apply TO.ext|apply TO.mf|apply TO.fld);(repeat (focus (show _=_;first|exact k1 rfl|exact k2 rfl|(simp only[zz,T,Nat.reduceAdd,Nat.reduceMul,Nat.reduceLeDiff,Nat.reduceEqDiff,tload,dV,dN,List.getElem?_map,aJ,aR,Nat.zero_add,tlen,tbuild,tfill,tfield]<;>exact rfl)|exact rfl)));(with_reducible apply TO.here))|((with_reducible apply TO.skip1);(repeat (focus (show _=_;first|exact k1 rfl|exact k2 rfl|(simp only[zz,T,Nat.reduceAdd,Nat.reduceMul,Nat.reduceLeDiff,Nat.reduceEqDiff,twant,List.getElem?_toArray,Option.bind_some]<;>exact rfl)|exact rfl)));(with_reducible apply TO.here))|with_reducible refine TD.nil ?_|((with_reducible first|apply TD.mv|apply TD.asg|apply TD.bin|apply TD.fa|apply TD.ia|apply TD.pk|apply TD.sv|apply TD.al|apply TD.bld|apply TD.ext|apply TD.mf );(repeat (focus (show _=_;first|exact k1 rfl|exact k2 rfl|(simp only[zz,T,Nat.reduceAdd,Nat.reduceMul,Nat.reduceLeDiff,Nat.reduceEqDiff,tload,dV,dN,List.getElem?_map,aJ,aR,Nat.zero_add,tlen,tbuild,tfill,tfield]<;>exact rfl)|exact rfl)));(with_reducible refine TD.here ?_))|((with_reducible apply TD.skip1);(repeat (focus (show _=_;first|exact k1 rfl|exact k2 rfl|(simp only[zz,T,Nat.reduceAdd,Nat.reduceMul,Nat.reduceLeDiff,Nat.reduceEqDiff,twant,List.getElem?_toArray,Option.bind_some]<;>exact rfl)|exact rfl)));(with_reducible refine TD.here ?_))|((with_reducible apply TX.cond_true);(focus rfl);(focus (first|rfl|(simp only[z1,Bool.not_true,Bool.not_false,T];done))))|((with_reducible apply TX.cond_false);(focus rfl);(focus (first|rfl|(simp only[z1,Bool.not_true,Bool.not_false,T];done))))|((with_reducible apply TX.region);(focus (simp only[List.toList_toArray]<;>exact rfl));(focus rfl);(try dsimp only))|((with_reducible apply TX.drawn);(focus decide +kernel);(focus (simp only[List.toList_toArray]<;>exact rfl));(focus exact rfl);(try dsimp only))|fail));exact g))(g:H):G:=h T g
theorem wB{A G H:Prop}(T:A)(h:A→H→G:=by (intro T g;(repeat (first|with_reducible refine mv ?_|with_reducible refine m12 rfl ?_|with_reducible refine TO.nil ?_|((with_reducible first|apply TO.mv|apply TO.asg|apply TO.bin|apply TO.ld|apply TO.fa|apply TO.ia|apply TO.pk|apply TO.sv|apply TO.al|apply TO.bf|apply TO.bld|apply TO.ext|apply TO.mf|apply TO.fld);(repeat (focus (show _=_;first|exact k1 rfl|exact k2 rfl|(simp only[zz,T,Nat.reduceAdd,Nat.reduceMul,Nat.reduceLeDiff,Nat.reduceEqDiff,tload,dV,dN,List.getElem?_map,aJ,aR,Nat.zero_add,tlen,tbuild,tfill,tfield]<;>exact rfl)|exact rfl)));(with_reducible apply TO.here))|((with_reducible apply TO.skip1);(repeat (focus (show _=_;first|exact k1 rfl|exact k2 rfl|(simp only[zz,T,Nat.reduceAdd,Nat.reduceMul,Nat.reduceLeDiff,Nat.reduceEqDiff,twant,List.getElem?_toArray,Option.bind_some]<;>exact rfl)|exact rfl)));(with_reducible apply TO.here))|with_reducible refine TD.nil ?_|((with_reducible first|apply TD.mv|apply TD.asg|apply TD.bin|apply TD.ld|apply TD.fa|apply TD.ia|apply TD.pk|apply TD.sv|apply TD.al|apply TD.bld|apply TD.ext|apply TD.mf );(repeat (focus (show _=_;first|exact k1 rfl|exact k2 rfl|(simp only[zz,T,Nat.reduceAdd,Nat.reduceMul,Nat.reduceLeDiff,Nat.reduceEqDiff,tload,dV,dN,List.getElem?_map,aJ,aR,Nat.zero_add,tlen,tbuild,tfill,tfield]<;>exact rfl)|exact rfl)));(with_reducible refine TD.here ?_))|((with_reducible apply TD.skip1);(repeat (focus (show _=_;first|exact k1 rfl|exact k2 rfl|(simp only[zz,T,Nat.reduceAdd,Nat.reduceMul,Nat.reduceLeDiff,Nat.reduceEqDiff,twant,List.getElem?_toArray,Option.bind_some]<;>exact rfl)|exact rfl)));(with_reducible refine TD.here ?_))|((with_reducible apply TX.cond_true);(focus rfl);(focus (first|rfl|(simp only[z1,Bool.not_true,Bool.not_false,T];done))))|((with_reducible apply TX.cond_false);(focus rfl);(focus (first|rfl|(simp only[z1,Bool.not_true,Bool.not_false,T];done))))|((with_reducible apply TX.region);(focus (simp only[List.toList_toArray]<;>exact rfl));(focus rfl);(try dsimp only))|((with_reducible apply TX.drawn);(focus decide +kernel);(focus (simp only[List.toList_toArray]<;>exact rfl));(focus exact rfl);(try dsimp only))|fail));exact g))(g:H):G:=h T g
theorem wb_{A G H:Prop}(T:A)(h:A→H→G:=by (intro T g;(repeat (first|with_reducible refine mv ?_|with_reducible refine m12 rfl ?_|with_reducible refine TO.nil ?_|((with_reducible first|apply TO.mv|apply TO.asg|apply TO.bin|apply TO.fa|apply TO.ia|apply TO.pk|apply TO.sv|apply TO.al|apply TO.bf|apply TO.bld|apply TO.ext|apply TO.mf|apply TO.fld);(repeat (focus (show _=_;first|exact k1 rfl|exact k2 rfl|(simp only[zz,T,Nat.reduceAdd,Nat.reduceMul,Nat.reduceLeDiff,Nat.reduceEqDiff,tload,dV,dN,List.getElem?_map,aJ,aR,Nat.zero_add,tlen,tbuild,tfill,tfield]<;>exact rfl)|exact rfl)));(with_reducible apply TO.here))|((with_reducible apply TO.skip1);(repeat (focus (show _=_;first|exact k1 rfl|exact k2 rfl|(simp only[zz,T,Nat.reduceAdd,Nat.reduceMul,Nat.reduceLeDiff,Nat.reduceEqDiff,twant,List.getElem?_toArray,Option.bind_some]<;>exact rfl)|exact rfl)));(with_reducible apply TO.here))|with_reducible refine TD.nil ?_|((with_reducible first|apply TD.mv|apply TD.asg|apply TD.bin|apply TD.fa|apply TD.ia|apply TD.pk|apply TD.sv|apply TD.al|apply TD.bld|apply TD.ext|apply TD.mf );(repeat (focus (show _=_;first|exact k1 rfl|exact k2 rfl|(simp only[zz,T,Nat.reduceAdd,Nat.reduceMul,Nat.reduceLeDiff,Nat.reduceEqDiff,tload,dV,dN,List.getElem?_map,aJ,aR,Nat.zero_add,tlen,tbuild,tfill,tfield]<;>exact rfl)|exact rfl)));(with_reducible refine TD.here ?_))|((with_reducible apply TD.skip1);(repeat (focus (show _=_;first|exact k1 rfl|exact k2 rfl|(simp only[zz,T,Nat.reduceAdd,Nat.reduceMul,Nat.reduceLeDiff,Nat.reduceEqDiff,twant,List.getElem?_toArray,Option.bind_some]<;>exact rfl)|exact rfl)));(with_reducible refine TD.here ?_))|((with_reducible apply TX.cond_true);(focus rfl);(focus (first|rfl|(simp only[z1,Bool.not_true,Bool.not_false,T];done))))|((with_reducible apply TX.cond_false);(focus rfl);(focus (first|rfl|(simp only[z1,Bool.not_true,Bool.not_false,T];done))))|((with_reducible apply TX.region);(focus (simp only[List.toList_toArray]<;>exact rfl));(focus rfl);(try dsimp only))|((with_reducible apply TX.drawn);(focus decide +kernel);(focus (simp only[List.toList_toArray]<;>exact rfl));(focus exact rfl);(try dsimp only))|fail));exact g))(g:H):G:=h T g
theorem wC{A G H:Prop}(T:A)(h:A→H→G:=by (intro T g;(repeat (first|with_reducible refine mv ?_|with_reducible refine m12 rfl ?_|with_reducible refine TO.nil ?_|((with_reducible first|apply TO.mv|apply TO.asg|apply TO.bin|apply TO.ld|apply TO.fa|apply TO.ia|apply TO.pk|apply TO.sv|apply TO.al|apply TO.len|apply TO.bld|apply TO.ext|apply TO.mf|apply TO.fld);(repeat (focus (show _=_;first|exact k1 rfl|exact k2 rfl|(simp only[zz,T,Nat.reduceAdd,Nat.reduceMul,Nat.reduceLeDiff,Nat.reduceEqDiff,tload,dV,dN,List.getElem?_map,aJ,aR,Nat.zero_add,tlen,tbuild,tfill,tfield]<;>exact rfl)|exact rfl)));(with_reducible apply TO.here))|((with_reducible apply TO.skip1);(repeat (focus (show _=_;first|exact k1 rfl|exact k2 rfl|(simp only[zz,T,Nat.reduceAdd,Nat.reduceMul,Nat.reduceLeDiff,Nat.reduceEqDiff,twant,List.getElem?_toArray,Option.bind_some]<;>exact rfl)|exact rfl)));(with_reducible apply TO.here))|with_reducible refine TD.nil ?_|((with_reducible first|apply TD.mv|apply TD.asg|apply TD.bin|apply TD.ld|apply TD.fa|apply TD.ia|apply TD.pk|apply TD.sv|apply TD.al|apply TD.len|apply TD.bld|apply TD.ext|apply TD.mf );(repeat (focus (show _=_;first|exact k1 rfl|exact k2 rfl|(simp only[zz,T,Nat.reduceAdd,Nat.reduceMul,Nat.reduceLeDiff,Nat.reduceEqDiff,tload,dV,dN,List.getElem?_map,aJ,aR,Nat.zero_add,tlen,tbuild,tfill,tfield]<;>exact rfl)|exact rfl)));(with_reducible refine TD.here ?_))|((with_reducible apply TD.skip1);(repeat (focus (show _=_;first|exact k1 rfl|exact k2 rfl|(simp only[zz,T,Nat.reduceAdd,Nat.reduceMul,Nat.reduceLeDiff,Nat.reduceEqDiff,twant,List.getElem?_toArray,Option.bind_some]<;>exact rfl)|exact rfl)));(with_reducible refine TD.here ?_))|((with_reducible apply TX.cond_true);(focus rfl);(focus (first|rfl|(simp only[z1,Bool.not_true,Bool.not_false,T];done))))|((with_reducible apply TX.cond_false);(focus rfl);(focus (first|rfl|(simp only[z1,Bool.not_true,Bool.not_false,T];done))))|((with_reducible apply TX.region);(focus (simp only[List.toList_toArray]<;>exact rfl));(focus rfl);(try dsimp only))|((with_reducible apply TX.drawn);(focus decide +kernel);(focus (simp only[List.toList_toArray]<;>exact rfl));(focus exact rfl);(try dsimp only))|fail));exact g))(g:H):G:=h T g
theorem wc_{A G H:Prop}(T:A)(h:A→H→G:=by (intro T g;(repeat (first|with_reducible refine mv ?_|with_reducible refine m12 rfl ?_|with_reducible refine TO.nil ?_|((with_reducible first|apply TO.mv|apply TO.asg|apply TO.bin|apply TO.fa|apply TO.ia|apply TO.pk|apply TO.sv|apply TO.al|apply TO.len|apply TO.bld|apply TO.ext|apply TO.mf|apply TO.fld);(repeat (focus (show _=_;first|exact k1 rfl|exact k2 rfl|(simp only[zz,T,Nat.reduceAdd,Nat.reduceMul,Nat.reduceLeDiff,Nat.reduceEqDiff,tload,dV,dN,List.getElem?_map,aJ,aR,Nat.zero_add,tlen,tbuild,tfill,tfield]<;>exact rfl)|exact rfl)));(with_reducible apply TO.here))|((with_reducible apply TO.skip1);(repeat (focus (show _=_;first|exact k1 rfl|exact k2 rfl|(simp only[zz,T,Nat.reduceAdd,Nat.reduceMul,Nat.reduceLeDiff,Nat.reduceEqDiff,twant,List.getElem?_toArray,Option.bind_some]<;>exact rfl)|exact rfl)));(with_reducible apply TO.here))|with_reducible refine TD.nil ?_|((with_reducible first|apply TD.mv|apply TD.asg|apply TD.bin|apply TD.fa|apply TD.ia|apply TD.pk|apply TD.sv|apply TD.al|apply TD.len|apply TD.bld|apply TD.ext|apply TD.mf );(repeat (focus (show _=_;first|exact k1 rfl|exact k2 rfl|(simp only[zz,T,Nat.reduceAdd,Nat.reduceMul,Nat.reduceLeDiff,Nat.reduceEqDiff,tload,dV,dN,List.getElem?_map,aJ,aR,Nat.zero_add,tlen,tbuild,tfill,tfield]<;>exact rfl)|exact rfl)));(with_reducible refine TD.here ?_))|((with_reducible apply TD.skip1);(repeat (focus (show _=_;first|exact k1 rfl|exact k2 rfl|(simp only[zz,T,Nat.reduceAdd,Nat.reduceMul,Nat.reduceLeDiff,Nat.reduceEqDiff,twant,List.getElem?_toArray,Option.bind_some]<;>exact rfl)|exact rfl)));(with_reducible refine TD.here ?_))|((with_reducible apply TX.cond_true);(focus rfl);(focus (first|rfl|(simp only[z1,Bool.not_true,Bool.not_false,T];done))))|((with_reducible apply TX.cond_false);(focus rfl);(focus (first|rfl|(simp only[z1,Bool.not_true,Bool.not_false,T];done))))|((with_reducible apply TX.region);(focus (simp only[List.toList_toArray]<;>exact rfl));(focus rfl);(try dsimp only))|((with_reducible apply TX.drawn);(focus decide +kernel);(focus (simp only[List.toList_toArray]<;>exact rfl));(focus exact rfl);(try dsimp only))|fail));exact g))(g:H):G:=h T g
theorem wD{A G H:Prop}(T:A)(h:A→H→G:=by (intro T g;(repeat (first|with_reducible refine mv ?_|with_reducible refine m12 rfl ?_|with_reducible refine TO.nil ?_|((with_reducible first|apply TO.mv|apply TO.asg|apply TO.bin|apply TO.ld|apply TO.fa|apply TO.ia|apply TO.pk|apply TO.sv|apply TO.al|apply TO.bf|apply TO.len|apply TO.bld|apply TO.ext|apply TO.mf|apply TO.fld);(repeat (focus (show _=_;first|exact k1 rfl|exact k2 rfl|(simp only[zz,T,Nat.reduceAdd,Nat.reduceMul,Nat.reduceLeDiff,Nat.reduceEqDiff,tload,dV,dN,List.getElem?_map,aJ,aR,Nat.zero_add,tlen,tbuild,tfill,tfield]<;>exact rfl)|exact rfl)));(with_reducible apply TO.here))|((with_reducible apply TO.skip1);(repeat (focus (show _=_;first|exact k1 rfl|exact k2 rfl|(simp only[zz,T,Nat.reduceAdd,Nat.reduceMul,Nat.reduceLeDiff,Nat.reduceEqDiff,twant,List.getElem?_toArray,Option.bind_some]<;>exact rfl)|exact rfl)));(with_reducible apply TO.here))|with_reducible refine TD.nil ?_|((with_reducible first|apply TD.mv|apply TD.asg|apply TD.bin|apply TD.ld|apply TD.fa|apply TD.ia|apply TD.pk|apply TD.sv|apply TD.al|apply TD.len|apply TD.bld|apply TD.ext|apply TD.mf );(repeat (focus (show _=_;first|exact k1 rfl|exact k2 rfl|(simp only[zz,T,Nat.reduceAdd,Nat.reduceMul,Nat.reduceLeDiff,Nat.reduceEqDiff,tload,dV,dN,List.getElem?_map,aJ,aR,Nat.zero_add,tlen,tbuild,tfill,tfield]<;>exact rfl)|exact rfl)));(with_reducible refine TD.here ?_))|((with_reducible apply TD.skip1);(repeat (focus (show _=_;first|exact k1 rfl|exact k2 rfl|(simp only[zz,T,Nat.reduceAdd,Nat.reduceMul,Nat.reduceLeDiff,Nat.reduceEqDiff,twant,List.getElem?_toArray,Option.bind_some]<;>exact rfl)|exact rfl)));(with_reducible refine TD.here ?_))|((with_reducible apply TX.cond_true);(focus rfl);(focus (first|rfl|(simp only[z1,Bool.not_true,Bool.not_false,T];done))))|((with_reducible apply TX.cond_false);(focus rfl);(focus (first|rfl|(simp only[z1,Bool.not_true,Bool.not_false,T];done))))|((with_reducible apply TX.region);(focus (simp only[List.toList_toArray]<;>exact rfl));(focus rfl);(try dsimp only))|((with_reducible apply TX.drawn);(focus decide +kernel);(focus (simp only[List.toList_toArray]<;>exact rfl));(focus exact rfl);(try dsimp only))|fail));exact g))(g:H):G:=h T g
theorem wd_{A G H:Prop}(T:A)(h:A→H→G:=by (intro T g;(repeat (first|with_reducible refine mv ?_|with_reducible refine m12 rfl ?_|with_reducible refine TO.nil ?_|((with_reducible first|apply TO.mv|apply TO.asg|apply TO.bin|apply TO.fa|apply TO.ia|apply TO.pk|apply TO.sv|apply TO.al|apply TO.bf|apply TO.len|apply TO.bld|apply TO.ext|apply TO.mf|apply TO.fld);(repeat (focus (show _=_;first|exact k1 rfl|exact k2 rfl|(simp only[zz,T,Nat.reduceAdd,Nat.reduceMul,Nat.reduceLeDiff,Nat.reduceEqDiff,tload,dV,dN,List.getElem?_map,aJ,aR,Nat.zero_add,tlen,tbuild,tfill,tfield]<;>exact rfl)|exact rfl)));(with_reducible apply TO.here))|((with_reducible apply TO.skip1);(repeat (focus (show _=_;first|exact k1 rfl|exact k2 rfl|(simp only[zz,T,Nat.reduceAdd,Nat.reduceMul,Nat.reduceLeDiff,Nat.reduceEqDiff,twant,List.getElem?_toArray,Option.bind_some]<;>exact rfl)|exact rfl)));(with_reducible apply TO.here))|with_reducible refine TD.nil ?_|((with_reducible first|apply TD.mv|apply TD.asg|apply TD.bin|apply TD.fa|apply TD.ia|apply TD.pk|apply TD.sv|apply TD.al|apply TD.len|apply TD.bld|apply TD.ext|apply TD.mf );(repeat (focus (show _=_;first|exact k1 rfl|exact k2 rfl|(simp only[zz,T,Nat.reduceAdd,Nat.reduceMul,Nat.reduceLeDiff,Nat.reduceEqDiff,tload,dV,dN,List.getElem?_map,aJ,aR,Nat.zero_add,tlen,tbuild,tfill,tfield]<;>exact rfl)|exact rfl)));(with_reducible refine TD.here ?_))|((with_reducible apply TD.skip1);(repeat (focus (show _=_;first|exact k1 rfl|exact k2 rfl|(simp only[zz,T,Nat.reduceAdd,Nat.reduceMul,Nat.reduceLeDiff,Nat.reduceEqDiff,twant,List.getElem?_toArray,Option.bind_some]<;>exact rfl)|exact rfl)));(with_reducible refine TD.here ?_))|((with_reducible apply TX.cond_true);(focus rfl);(focus (first|rfl|(simp only[z1,Bool.not_true,Bool.not_false,T];done))))|((with_reducible apply TX.cond_false);(focus rfl);(focus (first|rfl|(simp only[z1,Bool.not_true,Bool.not_false,T];done))))|((with_reducible apply TX.region);(focus (simp only[List.toList_toArray]<;>exact rfl));(focus rfl);(try dsimp only))|((with_reducible apply TX.drawn);(focus decide +kernel);(focus (simp only[List.toList_toArray]<;>exact rfl));(focus exact rfl);(try dsimp only))|fail));exact g))(g:H):G:=h T g
theorem we_{A G H:Prop}(T:A)(h:A→H→G:=by (intro T g;(repeat (first|with_reducible refine mv ?_|with_reducible refine m12 rfl ?_|with_reducible refine TO.nil ?_|((with_reducible first|apply TO.mv|apply TO.asg|apply TO.bin|apply TO.fa|apply TO.ia|apply TO.pk|apply TO.sv|apply TO.al|apply TO.bld|apply TO.ext|apply TO.bs|apply TO.mf|apply TO.fld);(repeat (focus (show _=_;first|exact k1 rfl|exact k2 rfl|(simp only[zz,T,Nat.reduceAdd,Nat.reduceMul,Nat.reduceLeDiff,Nat.reduceEqDiff,tload,dV,dN,List.getElem?_map,aJ,aR,Nat.zero_add,tlen,tbuild,tfill,tfield,tslice,tparts]<;>exact rfl)|exact rfl)));(with_reducible apply TO.here))|((with_reducible apply TO.skip1);(repeat (focus (show _=_;first|exact k1 rfl|exact k2 rfl|(simp only[zz,T,Nat.reduceAdd,Nat.reduceMul,Nat.reduceLeDiff,Nat.reduceEqDiff,twant,List.getElem?_toArray,Option.bind_some]<;>exact rfl)|exact rfl)));(with_reducible apply TO.here))|with_reducible refine TD.nil ?_|((with_reducible first|apply TD.mv|apply TD.asg|apply TD.bin|apply TD.fa|apply TD.ia|apply TD.pk|apply TD.sv|apply TD.al|apply TD.bld|apply TD.ext|apply TD.bs|apply TD.mf );(repeat (focus (show _=_;first|exact k1 rfl|exact k2 rfl|(simp only[zz,T,Nat.reduceAdd,Nat.reduceMul,Nat.reduceLeDiff,Nat.reduceEqDiff,tload,dV,dN,List.getElem?_map,aJ,aR,Nat.zero_add,tlen,tbuild,tfill,tfield,tslice,tparts]<;>exact rfl)|exact rfl)));(with_reducible refine TD.here ?_))|((with_reducible apply TD.skip1);(repeat (focus (show _=_;first|exact k1 rfl|exact k2 rfl|(simp only[zz,T,Nat.reduceAdd,Nat.reduceMul,Nat.reduceLeDiff,Nat.reduceEqDiff,twant,List.getElem?_toArray,Option.bind_some]<;>exact rfl)|exact rfl)));(with_reducible refine TD.here ?_))|((with_reducible apply TX.cond_true);(focus rfl);(focus (first|rfl|(simp only[z1,Bool.not_true,Bool.not_false,T];done))))|((with_reducible apply TX.cond_false);(focus rfl);(focus (first|rfl|(simp only[z1,Bool.not_true,Bool.not_false,T];done))))|((with_reducible apply TX.region);(focus (simp only[List.toList_toArray]<;>exact rfl));(focus rfl);(try dsimp only))|((with_reducible apply TX.drawn);(focus decide +kernel);(focus (simp only[List.toList_toArray]<;>exact rfl));(focus exact rfl);(try dsimp only))|fail));exact g))(g:H):G:=h T g
theorem wF{A G H:Prop}(T:A)(h:A→H→G:=by (intro T g;(repeat (first|with_reducible refine mv ?_|with_reducible refine m12 rfl ?_|with_reducible refine TO.nil ?_|((with_reducible first|apply TO.mv|apply TO.asg|apply TO.bin|apply TO.ld|apply TO.fa|apply TO.ia|apply TO.pk|apply TO.sv|apply TO.al|apply TO.bf|apply TO.bld|apply TO.ext|apply TO.bs|apply TO.mf|apply TO.fld);(repeat (focus (show _=_;first|exact k1 rfl|exact k2 rfl|(simp only[zz,T,Nat.reduceAdd,Nat.reduceMul,Nat.reduceLeDiff,Nat.reduceEqDiff,tload,dV,dN,List.getElem?_map,aJ,aR,Nat.zero_add,tlen,tbuild,tfill,tfield,tslice,tparts]<;>exact rfl)|exact rfl)));(with_reducible apply TO.here))|((with_reducible apply TO.skip1);(repeat (focus (show _=_;first|exact k1 rfl|exact k2 rfl|(simp only[zz,T,Nat.reduceAdd,Nat.reduceMul,Nat.reduceLeDiff,Nat.reduceEqDiff,twant,List.getElem?_toArray,Option.bind_some]<;>exact rfl)|exact rfl)));(with_reducible apply TO.here))|with_reducible refine TD.nil ?_|((with_reducible first|apply TD.mv|apply TD.asg|apply TD.bin|apply TD.ld|apply TD.fa|apply TD.ia|apply TD.pk|apply TD.sv|apply TD.al|apply TD.bld|apply TD.ext|apply TD.bs|apply TD.mf );(repeat (focus (show _=_;first|exact k1 rfl|exact k2 rfl|(simp only[zz,T,Nat.reduceAdd,Nat.reduceMul,Nat.reduceLeDiff,Nat.reduceEqDiff,tload,dV,dN,List.getElem?_map,aJ,aR,Nat.zero_add,tlen,tbuild,tfill,tfield,tslice,tparts]<;>exact rfl)|exact rfl)));(with_reducible refine TD.here ?_))|((with_reducible apply TD.skip1);(repeat (focus (show _=_;first|exact k1 rfl|exact k2 rfl|(simp only[zz,T,Nat.reduceAdd,Nat.reduceMul,Nat.reduceLeDiff,Nat.reduceEqDiff,twant,List.getElem?_toArray,Option.bind_some]<;>exact rfl)|exact rfl)));(with_reducible refine TD.here ?_))|((with_reducible apply TX.cond_true);(focus rfl);(focus (first|rfl|(simp only[z1,Bool.not_true,Bool.not_false,T];done))))|((with_reducible apply TX.cond_false);(focus rfl);(focus (first|rfl|(simp only[z1,Bool.not_true,Bool.not_false,T];done))))|((with_reducible apply TX.region);(focus (simp only[List.toList_toArray]<;>exact rfl));(focus rfl);(try dsimp only))|((with_reducible apply TX.drawn);(focus decide +kernel);(focus (simp only[List.toList_toArray]<;>exact rfl));(focus exact rfl);(try dsimp only))|fail));exact g))(g:H):G:=h T g
theorem wI{A G H:Prop}(T:A)(h:A→H→G:=by (intro T g;(repeat (first|with_reducible refine mv ?_|with_reducible refine m12 rfl ?_|with_reducible refine TO.nil ?_|((with_reducible first|apply TO.mv|apply TO.asg|apply TO.bin|apply TO.ld|apply TO.fa|apply TO.ia|apply TO.pk|apply TO.sv|apply TO.al|apply TO.bld|apply TO.ext|apply TO.mf|apply TO.fld);(repeat (focus (show _=_;first|exact k1 rfl|exact k2 rfl|(simp only[zz,T,Nat.reduceAdd,Nat.reduceMul,Nat.reduceLeDiff,Nat.reduceEqDiff,tload,dV,dN,List.getElem?_map,aJ,aR,Nat.zero_add,tlen,tbuild,tfill,tfield,z5,Int.reduceToNat,Int.reduceLE,Int.reduceLT,Int.cast_ofNat_Int]<;>exact rfl)|exact rfl)));(with_reducible apply TO.here))|((with_reducible apply TO.skip1);(repeat (focus (show _=_;first|exact k1 rfl|exact k2 rfl|(simp only[zz,T,Nat.reduceAdd,Nat.reduceMul,Nat.reduceLeDiff,Nat.reduceEqDiff,twant,List.getElem?_toArray,Option.bind_some]<;>exact rfl)|exact rfl)));(with_reducible apply TO.here))|with_reducible refine TD.nil ?_|((with_reducible first|apply TD.mv|apply TD.asg|apply TD.bin|apply TD.ld|apply TD.fa|apply TD.ia|apply TD.pk|apply TD.sv|apply TD.al|apply TD.bld|apply TD.ext|apply TD.mf );(repeat (focus (show _=_;first|exact k1 rfl|exact k2 rfl|(simp only[zz,T,Nat.reduceAdd,Nat.reduceMul,Nat.reduceLeDiff,Nat.reduceEqDiff,tload,dV,dN,List.getElem?_map,aJ,aR,Nat.zero_add,tlen,tbuild,tfill,tfield,z5,Int.reduceToNat,Int.reduceLE,Int.reduceLT,Int.cast_ofNat_Int]<;>exact rfl)|exact rfl)));(with_reducible refine TD.here ?_))|((with_reducible apply TD.skip1);(repeat (focus (show _=_;first|exact k1 rfl|exact k2 rfl|(simp only[zz,T,Nat.reduceAdd,Nat.reduceMul,Nat.reduceLeDiff,Nat.reduceEqDiff,twant,List.getElem?_toArray,Option.bind_some]<;>exact rfl)|exact rfl)));(with_reducible refine TD.here ?_))|((with_reducible apply TX.cond_true);(focus rfl);(focus (first|rfl|(simp only[z1,Bool.not_true,Bool.not_false,T];done))))|((with_reducible apply TX.cond_false);(focus rfl);(focus (first|rfl|(simp only[z1,Bool.not_true,Bool.not_false,T];done))))|((with_reducible apply TX.region);(focus (simp only[List.toList_toArray]<;>exact rfl));(focus rfl);(try dsimp only))|((with_reducible apply TX.drawn);(focus decide +kernel);(focus (simp only[List.toList_toArray]<;>exact rfl));(focus exact rfl);(try dsimp only))|fail));exact g))(g:H):G:=h T g
theorem wJ{A G H:Prop}(T:A)(h:A→H→G:=by (intro T g;(repeat (first|with_reducible refine mv ?_|with_reducible refine m12 rfl ?_|with_reducible refine TO.nil ?_|((with_reducible first|apply TO.mv|apply TO.asg|apply TO.bin|apply TO.ld|apply TO.fa|apply TO.ia|apply TO.pk|apply TO.sv|apply TO.al|apply TO.bld|apply TO.ext|apply TO.mf|apply TO.fld);(repeat (focus (show _=_;first|exact k1 rfl|exact k2 rfl|(simp only[zz,T,Nat.reduceAdd,Nat.reduceMul,Nat.reduceLeDiff,Nat.reduceEqDiff,tload,dV,dN,List.getElem?_map,aJ,aR,Nat.zero_add,tlen,tbuild,tfill,tfield]<;>exact rfl)|exact rfl)));(with_reducible apply TO.here))|((with_reducible apply TO.skip1);(repeat (focus (show _=_;first|exact k1 rfl|exact k2 rfl|(simp only[zz,T,Nat.reduceAdd,Nat.reduceMul,Nat.reduceLeDiff,Nat.reduceEqDiff,twant,List.getElem?_toArray,Option.bind_some]<;>exact rfl)|exact rfl)));(with_reducible apply TO.here))|with_reducible refine TD.nil ?_|((with_reducible first|apply TD.mv|apply TD.asg|apply TD.bin|apply TD.ld|apply TD.fa|apply TD.ia|apply TD.pk|apply TD.sv|apply TD.al|apply TD.bld|apply TD.ext|apply TD.mf );(repeat (focus (show _=_;first|exact k1 rfl|exact k2 rfl|(simp only[zz,T,Nat.reduceAdd,Nat.reduceMul,Nat.reduceLeDiff,Nat.reduceEqDiff,tload,dV,dN,List.getElem?_map,aJ,aR,Nat.zero_add,tlen,tbuild,tfill,tfield]<;>exact rfl)|exact rfl)));(with_reducible refine TD.here ?_))|((with_reducible apply TD.ldF);(focus decide +kernel);(repeat (focus (show _=_;first|exact k1 rfl|exact k2 rfl|(simp only[zz,T,Nat.reduceAdd,Nat.reduceMul,Nat.reduceLeDiff,Nat.reduceEqDiff,tload,dV,dN,List.getElem?_map,aJ,aR,Nat.zero_add,tlen,tbuild,tfill,tfield]<;>exact rfl)|exact rfl)));(with_reducible refine TD.here ?_))|((with_reducible apply TD.skip1);(repeat (focus (show _=_;first|exact k1 rfl|exact k2 rfl|(simp only[zz,T,Nat.reduceAdd,Nat.reduceMul,Nat.reduceLeDiff,Nat.reduceEqDiff,twant,List.getElem?_toArray,Option.bind_some]<;>exact rfl)|exact rfl)));(with_reducible refine TD.here ?_))|((with_reducible apply TX.cond_true);(focus rfl);(focus (first|rfl|(simp only[z1,Bool.not_true,Bool.not_false,T];done))))|((with_reducible apply TX.cond_false);(focus rfl);(focus (first|rfl|(simp only[z1,Bool.not_true,Bool.not_false,T];done))))|((with_reducible apply TX.region);(focus (simp only[List.toList_toArray]<;>exact rfl));(focus rfl);(try dsimp only))|((with_reducible apply TX.drawn);(focus decide +kernel);(focus (simp only[List.toList_toArray]<;>exact rfl));(focus exact rfl);(try dsimp only))|fail));exact g))(g:H):G:=h T g
theorem sd{A:Prop}{α:Type}{a b:α}(T:A)(h:A→a=b:=by (intro T;first|exact k1 rfl|exact k2 rfl|(simp only[zz,T,Nat.reduceAdd,Nat.reduceMul,Nat.reduceLeDiff,Nat.reduceEqDiff,shift,kill,oR,frz,Lm,view,tml,tmlc,List.length_set,tlen,tslice,tparts]<;>exact rfl)|exact rfl)):a=b:=h T
theorem wn{A:Prop}{α:Type}{a b:α}(T:A)(h:A→a=b:=by (intro T;first|rfl|(simp only[twant,z1,z7,T]<;>rfl))):a=b:=h T
theorem ry{A:Prop}{α:Type}{a b:α}(T:A)(h:A→a=b:=by (intro T;simp only[zy,T,qY,tres,tload,dV,dN];exact rfl)):a=b:=h T
theorem wk_{A:Prop}(T:A){tm tm':List TV}{hp hp':List TB}(fl:List (Option Nat))(hok:Cg fl=true)(hB:RB fl hp hp' fl)(hT:A→RNs fl tm tm':=by (intro T;(repeat (first|exact RNs.nil|refine RNs.cons .U ?_|refine RNs.cons (.keep rfl rfl) ?_|refine RNs.cons (.lsl rfl rfl) ?_|refine RNs.cons (.lsl rfl (by simp only[List.length_set])) ?_|refine RNs.cons (.lptr rfl) ?_|refine RNs.cons (.nil rfl) ?_|refine RNs.cons .nl ?_|refine RNs.cons (.keep (by simp only[T]) rfl) ?_|refine RNs.cons (.tuple' ?_) ?_|refine RNs.cons (.agg' ?_) ?_)))):Wk ⟨tm,hp⟩ ⟨tm',hp'⟩:=Wk.ren fl hok hB (hT T)
theorem ifs{α:Type}{b:Bool}{x y r:Option α}(h:(if b=true then x else y)=r):(b=true∧x=r)∨(b=false∧y=r):=by cases b<;>simp_all
theorem bs{α β:Type}{x:Option α}{f:α→Option β}{r:β}(h:x.bind f=some r):∃ a,x=some a∧f a=some r:=Option.bind_eq_some_iff.1 h
theorem gx{α:Type}{xs:List α}{i:Int}{a:α}(f:α→List TV)(h:gQ xs i=some a):tidx (xs.map f) i=some (f a)∧(0≤i∧i<xs.length)∧xs[i.toNat]?=some a:=And.intro (eD (f:=f) h) (And.intro (gC h) (gB h))
theorem lv{A:Prop}(T:A){b:Bool}{G:Prop}(hr:some b=some true)(h:A→b=true→G:=by (intro T hb;first|(cases hb;done)|((first|refine⟨.inl rfl,?_⟩|refine⟨.inr rfl,?_⟩);first|(simp only[qY,tres,z1,hb,Option.map_some]<;>exact rfl)|(simp only[T] at hb;simp only[qY,tres,z1,hb,Option.map_some]<;>exact rfl)))):G:=h T (a6 hr)
theorem vw{A:Prop}{α:Type}{a b:α}(T:A)(h:A→a=b:=by (intro T;simp only[view,z1,z3,List.toList_toArray,tml,tmlc,List.length_set,Nat.reduceEqDiff,if_false]<;>rfl)):a=b:=h T
end Go.Rex
