/- An executor of the program's functions on trees of values,proved sound. -/
import Derived.Test.YtneefkifalbplaaGreatRexG7
set_option linter.unusedSimpArgs false
set_option linter.unusedVariables false
set_option linter.defProp false
namespace Go.Rex
open Go.RowKit
section
variable {C:Ctx} {P:Program}
def Spec(C:Ctx)(f:FuncId)(args:List TV)(r:TS):Prop:=
 ∀ Fz h vs,FZ Fz h→VLs Fz h noL args vs→∃ v h' Fz' L',C.call f vs h=some (v,h',none)∧Grow h Fz Fz' h h'∧St h Fz' L' r [v] h'
def OpP(P:Program)(o:Oper)(s s':TS):Prop:=
 s'.hp=s.hp∧∀ h0 Fz L tm h,St h0 Fz L s tm h→∃ v,Rex.pop P (ev tm) o=some v∧St h0 Fz L s' (bJ tm o.dst v) h
def OpG(C:Ctx)(P:Program)(o:Oper)(s s':TS):Prop:=
 ∀ h0 Fz L tm h,St h0 Fz L s tm h→Rex.pop P (ev tm) o=none∧∃ v h1,xop C P (ev tm) o h=some (v,h1,none)∧Ext h h1∧∃ Fz' L',Grow h0 Fz Fz' h h1∧St h0 Fz' L' s' (bJ tm o.dst v) h1
def OpW(C:Ctx)(P:Program)(o:Oper)(s s':TS):Prop:=
 ∀ h0 Fz L tm h,St h0 Fz L s tm h→(∃ v,Rex.pop P (ev tm) o=some v∧∃ Fz' L',Grow h0 Fz Fz' h h∧St h0 Fz' L' s' (bJ tm o.dst v) h)∨Rex.pop P (ev tm) o=none∧∃ v h1 w1,xop C P (ev tm) o h=some (v,h1,w1)∧((w1=none∧Ext h h1)∨∃ nm,w1=some nm∧h0.length≤nm∧nm<h.length∧h.length≤h1.length) ∧
  ∃ Fz' L',Grow h0 Fz Fz' h h1∧St h0 Fz' L' s' (bJ tm o.dst v) h1
def OpM(C:Ctx)(P:Program)(o:Oper)(s s':TS):Prop:=
 ∀ h0 Fz L tm h,St h0 Fz L s tm h→(∃ v,Rex.pop P (ev tm) o=some v∧∃ Fz' L',Grow h0 Fz Fz' h h∧St h0 Fz' L' s' (bJ tm o.dst v) h)∨Rex.pop P (ev tm) o=none∧∃ v h1,xop C P (ev tm) o h=some (v,h1,none)∧Ext h h1∧∃ Fz' L',Grow h0 Fz Fz' h h1∧St h0 Fz' L' s' (bJ tm o.dst v) h1
theorem OpG.toW{o:Oper}{s s':TS}(h:OpG C P o s s'):OpW C P o s s':=by
 intro h0 Fz L tm hh hs
 obtain⟨h1,v,h2,h3,h4,h5⟩:=h h0 Fz L tm hh hs
 exact .inr ⟨h1,v,h2,none,h3,.inl ⟨rfl,h4⟩,h5⟩
def twant(ops:Array Oper)(tm:List TV)(o:Oper):Option Bool:=
 match o.guard with
 | none=>some true
 | some (j,want)=>match (ops[j]?).bind (·.dst) with
  | none=>none
  | some d=>match tnth tm d with
   | .v (.bool b)=>some (b==want)
   | .tuple _=>some false
   | _=>none
theorem fW{ops:Array Oper}{Fz:Nat→Prop}{h:List Blk}{L:Nat→LI}{tm:List TV}{vm:List Value}{o:Oper}{b:Bool}(hs:VLs Fz h L tm vm)(hw:twant ops tm o=some b):Region.wanted o (yielded ops ⟨vm⟩)=b:=by
 unfold twant at hw
 unfold Region.wanted
 split at hw
 ·rename_i hg
  rw[hg]
  exact a6 hw
 ·rename_i j want hg
  rw[hg]
  simp only
  split at hw
  ·cases hw
  ·rename_i d hd
   have hv:=aCv hs d
   simp only[tev,ev] at hv
   rw[zL,sS] at hv
   rw[zL] at hw
   have e:yielded ops ⟨vm⟩ j=match vm[d]? with|some (.bool b)=>some b|_=>none:=by
    unfold yielded
    rw[hd]
    simp only[Option.bind_some,List.getElem?_toArray]
    rfl
   rw[e]
   cases hx:vm[d]? with
   | none =>
    rw[hx] at hv
    have:tm[d]?=none:=by
     rw[i6] at hx ⊢
     rw[← hs.len];exact hx
    rw[this] at hw
    simp at hw
    subst hw
    rfl
   | some x =>
    rw[hx] at hv
    simp only[Option.getD_some] at hv
    split at hw
    ·rename_i b' hb
     rw[hb] at hv
     obtain rfl:=hv.bool_inv
     obtain rfl:=a6 hw
     cases b'<;>cases want<;>rfl
    ·rename_i l hb
     rw[hb] at hv
     obtain rfl:=a6 hw
     cases hv
     rfl
    ·cases hw
def TO(C:Ctx)(P:Program)(ops:Array Oper)(l:List Oper)(s:TS)(Q:TS→Prop):Prop:=
 ∀ h0 Fz L tm h,St h0 Fz L s tm h→RO C P h0.length ops l tm h (fun tm' h'=>∃ s' Fz' L',Q s'∧Grow h0 Fz Fz' h h'∧St h0 Fz' L' s' tm' h')
variable {ops:Array Oper} {o:Oper} {rest:List Oper} {s s':TS} {Q:TS→Prop}
theorem TO.nil(hq:Q s):TO C P ops [] s Q:=fun _ Fz L _ _ hs=>RO.nil ⟨s,Fz,L,hq,Grow.refl _ _,hs⟩
theorem TO.p(hw:twant ops s.tm o=some true)(ho:OpP P o s s')(hq:TO C P ops rest s' Q):TO C P ops (o::rest) s Q:=by
 intro h0 Fz L tm h hs
 obtain⟨v,h1,s1⟩:=ho.2 h0 Fz L tm h hs
 obtain⟨tm',h',wr,q1,q2,s2,F2,L2,q3,g2,s3⟩:=hq h0 Fz L _ h s1
 exact RO.pop (fW hs.tmr hw) h1 rfl ⟨tm',h',wr,q1,q2,s2,F2,L2,q3,g2,s3⟩
theorem TO.w(hw:twant ops s.tm o=some true)(ho:OpW C P o s s')(hq:TO C P ops rest s' Q):TO C P ops (o::rest) s Q:=by
 intro h0 Fz L tm h hs
 rcases ho h0 Fz L tm h hs with⟨v,h1,F1,L1,g1,s1⟩|⟨hn,v,h1,w1,hx,hw1,F1,L1,g1,s1⟩
 ·obtain⟨tm',h',wr,q1,q2,s2,F2,L2,q3,g2,s3⟩:=hq h0 F1 L1 _ h s1
  exact RO.pop (fW hs.tmr hw) h1 rfl ⟨tm',h',wr,q1,q2,s2,F2,L2,q3,g1.trans g2,s3⟩
 obtain⟨tm',h',wr,q1,q2,s2,F2,L2,q3,g2,s3⟩:=hq h0 F1 L1 _ h1 s1
 refine RO.act (fW hs.tmr hw) hn hx ?_ rfl ⟨tm',h',wr,q1,q2,s2,F2,L2,q3,g1.trans g2,s3⟩
 rcases hw1 with⟨rfl,_⟩|⟨nm,rfl,hl,_⟩
 ·rfl
 ·simpa [wge] using hl
theorem TO.g(hw:twant ops s.tm o=some true)(ho:OpG C P o s s')(hq:TO C P ops rest s' Q):TO C P ops (o::rest) s Q:=TO.w hw ho.toW hq
theorem TO.skip(hw:twant ops s.tm o=some false)(hq:TO C P ops rest ⟨tput s.tm o.dst (.tuple []),s.hp⟩ Q):TO C P ops (o::rest) s Q:=by
 intro h0 Fz L tm h hs
 exact RO.skip (fW hs.tmr hw) rfl (hq h0 Fz L _ h (hs.put o.dst (.tuple L [] [] rfl (fun i p x h=>by simp at h))))
theorem TO.weak{l:List Oper}(hw:Wk s s')(hx:TO C P ops l s' Q):TO C P ops l s Q:=by
 intro h0 Fz L tm h hs
 obtain⟨F1,L1,g1,s1⟩:=hw h0 Fz L tm h hs
 obtain⟨tm',h',wr,q1,q2,s2,F2,L2,q3,g2,s3⟩:=hx h0 F1 L1 tm h s1
 exact⟨tm',h',wr,q1,q2,s2,F2,L2,q3,g1.trans g2,s3⟩
theorem TX.region{id:Nat}{l:List Oper}{Q:Exit→TS→Prop}(hl:ops.toList=l)(hreg:No l=true)(hr:TO C P ops l s (fun s'=>Q .normal s')):TX C P (.region id ops false) s Q:=by
 intro h0 Fz L tm h hs
 refine XP.region hl hreg ?_
 obtain⟨tm',h',wr,q1,q2,s2,F2,L2,q3,g2,s3⟩:=hr h0 Fz L tm h hs
 exact⟨tm',h',wr,q1,q2,rfl,s2,F2,L2,q3,g2,s3⟩
def TA(C:Ctx)(P:Program)(ops:Array Oper)(ms:List Nat)(l:List Oper)(i:Nat)(np:List Nat)(c:Nat)(s:TS)(Q:TS→Prop):Prop:=
 ∀ h0 Fz L tm h np' c' wr,St h0 Fz L s tm h→wge wr h0.length=true→(c=0→c'=false)∧(∀ j,j∈np'→j∈np)→RD C P h0.length ops ms l i ⟨tm,h,np',c',wr⟩ (fun tm' h'=>∃ s' Fz' L',Q s'∧Grow h0 Fz Fz' h h'∧St h0 Fz' L' s' tm' h')
variable {ms:List Nat} {i:Nat} {np:List Nat} {c:Nat}
theorem TA.nil(hq:Q s):TA C P ops ms [] i np c s Q:=fun _ Fz L _ _ _ _ _ hs hw _=>RD.nil hw ⟨s,Fz,L,hq,Grow.refl _ _,hs⟩
theorem TA.p(hw:twant ops s.tm o=some true)(ho:OpP P o s s')(hq:TA C P ops ms rest (i+1) np c s' Q):TA C P ops ms (o::rest) i np c s Q:=by
 intro h0 Fz L tm h np' c' wr hs hwr hc
 obtain⟨v,h1,s1⟩:=ho.2 h0 Fz L tm h hs
 obtain⟨s2,q1,q2,t2,F2,L2,q3,g2,s3⟩:=hq h0 Fz L _ h np' c' wr s1 hwr hc
 exact RD.pop (fW hs.tmr hw) h1 rfl ⟨s2,q1,q2,t2,F2,L2,q3,g2,s3⟩
theorem TA.skip(hw:twant ops s.tm o=some false)(hq:TA C P ops ms rest (i+1) np c ⟨tput s.tm o.dst (.tuple []),s.hp⟩ Q):TA C P ops ms (o::rest) i np c s Q:=by
 intro h0 Fz L tm h np' c' wr hs hwr hc
 exact RD.skip (fW hs.tmr hw) rfl (hq h0 Fz L _ h np' c' wr (hs.put o.dst (.tuple L [] [] rfl (fun i p x h=>by simp at h))) hwr hc)
theorem TA.g(hw:twant ops s.tm o=some true)(ho:OpG C P o s s')(hq:TA C P ops ms rest (i+1) (i::np) 0 s' Q):TA C P ops ms (o::rest) i np 0 s Q:=by
 intro h0 Fz L tm h np' c' wr hs hwr hc
 obtain rfl:c'=false:=hc.1 rfl
 obtain⟨hn,v,h1,hx,he,F1,L1,g1,s1⟩:=ho h0 Fz L tm h hs
 obtain⟨s2,q1,q2,t2,F2,L2,q3,g2,s3⟩:=hq h0 F1 L1 _ h1 (i::np') false wr s1 hwr ⟨fun _=>rfl,fun j hj=>by
  rcases j9.1 hj with rfl|hj
  ·simp
  ·exact j1 _ (hc.2 j hj)⟩
 exact RD.act (fW hs.tmr hw) hn hx he rfl ⟨s2,q1,q2,t2,F2,L2,q3,g1.trans g2,s3⟩
theorem TA.w(hw:twant ops s.tm o=some true)(ho:OpW C P o s s')(hnp:np.all (fun j=>(aK ms i).testBit j)=true)(hq:TA C P ops ms rest (i+1) (i::np) 1 s' Q):TA C P ops ms (o::rest) i np c s Q:=by
 intro h0 Fz L tm h np' c' wr hs hwr hc
 have hwant:=fW hs.tmr hw
 have hsub:∀ j,j∈i::np'→j∈i::np:=fun j hj=>by
  rcases j9.1 hj with rfl|hj
  ·simp
  ·exact j1 _ (hc.2 j hj)
 have hnp:np'.all (fun j=>(aK ms i).testBit j)=true:=by
  rw[c9] at hnp ⊢
  exact fun j hj=>hnp j (hc.2 j hj)
 rcases ho h0 Fz L tm h hs with⟨v,h1,F1,L1,g1,s1⟩|⟨hn,v,h1,w1,hx,hw1,F1,L1,g1,s1⟩
 ·obtain⟨s2,q1,q2,t2,F2,L2,q3,g2,s3⟩:=hq h0 F1 L1 _ h np' c' wr s1 hwr ⟨fun h=>absurd h (by decide),fun j hj=>j1 _ (hc.2 j hj)⟩
  exact RD.pop hwant h1 rfl ⟨s2,q1,q2,t2,F2,L2,q3,g1.trans g2,s3⟩
 have second:∀ wr',(w1=none∨∃ nm,w1=some nm∧h0.length≤nm)→wr'=wmin wr w1→wge wr' h0.length=true:=by
  rintro wr' (rfl|⟨nm,rfl,hl⟩) rfl
  ·rw[Uc];exact hwr
  ·exact iR hwr (by simpa [wge] using hl)
 rcases hw1 with⟨rfl,he⟩|⟨nm,rfl,hl,hlt,hle⟩
 ·cases c' with
  | false =>
   obtain⟨s2,q1,q2,t2,F2,L2,q3,g2,s3⟩:=hq h0 F1 L1 _ h1 (i::np') false wr s1 hwr ⟨fun h=>absurd h (by decide),hsub⟩
   exact RD.act hwant hn hx he rfl ⟨s2,q1,q2,t2,F2,L2,q3,g1.trans g2,s3⟩
  | true =>
   obtain⟨s2,q1,q2,t2,F2,L2,q3,g2,s3⟩:=hq h0 F1 L1 _ h1 (i::np') true (wmin wr none) s1 (second _ (.inl rfl) rfl) ⟨fun h=>absurd h (by decide),hsub⟩
   refine⟨s2,?_,q2,t2,F2,L2,q3,g1.trans g2,s3⟩
   have hle:=he.le
   simp only[dW,gH,if_pos hwant,hn,hx,pZ]
   rw[b6 (by simp),a9 ⟨hnp,hle⟩]
   exact q1
 ·obtain⟨s2,q1,q2,t2,F2,L2,q3,g2,s3⟩:=hq h0 F1 L1 _ h1 (i::np') true (wmin wr (some nm)) s1 (second _ (.inr ⟨nm,rfl,hl⟩) rfl) ⟨fun h=>absurd h (by decide),hsub⟩
  refine⟨s2,?_,q2,t2,F2,L2,q3,g1.trans g2,s3⟩
  simp only[dW,gH,if_pos hwant,hn,hx,pZ]
  rw[b6 (by simp[wge];omega),a9 ⟨hnp,hle⟩]
  exact q1
theorem TA.weak{l:List Oper}(hw:Wk s s')(hx:TA C P ops ms l i np c s' Q):TA C P ops ms l i np c s Q:=by
 intro h0 Fz L tm h np' c' wr hs hwr hc
 obtain⟨F1,L1,g1,s1⟩:=hw h0 Fz L tm h hs
 obtain⟨s2,q1,q2,t2,F2,L2,q3,g2,s3⟩:=hx h0 F1 L1 tm h np' c' wr s1 hwr hc
 exact⟨s2,q1,q2,t2,F2,L2,q3,g1.trans g2,s3⟩
variable {dst:Option Tmp} {ty:TypeId} {pos:String} {aft:Array Edge} {gd:Option (Nat×Bool)}
theorem TA.cc{l:List Oper}{c1:Nat}(h:c≠0)(hx:TA C P ops ms l i np c s Q):TA C P ops ms l i np c1 s Q:=
 fun h0 Fz L tm hh np' c' wr hs hwr hc=>hx h0 Fz L tm hh np' c' wr hs hwr ⟨fun e=>absurd e h,hc.2⟩
def Bs(ops:Array Oper)(j:Nat):Option Tmp:=match ops[j]? with
 | some o=>match o.op with
  | .load _ (.tmp t)=>some t
  | _=>none
 | none=>none
def Kz(ops:Array Oper)(j:Nat):Bool:=match ops[j]? with
 | some o=>match o.op with
  | .alloc _=>true
  | .box _ _=>true
  | .buildSlice _ _ _=>true
  | .makeSlice _ _ _=>true
  | _=>false
 | none=>false
def Wy(o:Oper):Bool:=match o.op with
 | .mapUpdate _ _ _ _=>false
 | .insert _ _ _ _=>false
 | .call c=>match c.callee with
  | .builtin b=>b != .append
  | _=>true
 | _=>true
def vS(ops:Array Oper):Bool:=(List.range ops.size).all fun i=>(List.range (i+1)).all fun j=>match Bs ops j,(ops[i]?).bind (·.dst) with
 | some t,some d=>t != d
 | _,_=>true
def aDh(ops:Array Oper):Bool:=Ac ops&&(!kN ops||vS ops)
theorem Hl(h:vS ops=true){i j:Nat}{t:Tmp}(ho:ops[i]?=some o)(hj:j≤i)(hr:Bs ops j=some t):o.dst≠some t:=by
 intro hd
 have hi:i<ops.size:=(Array.getElem?_eq_some_iff.1 ho).1
 have h1:=c9.1 (c9.1 h i (List.mem_range.2 hi)) j (List.mem_range.2 (by omega))
 rw[hr,ho] at h1
 simp[hd] at h1
theorem Ns{tm:List Value}{d:Option Tmp}{v:Value}{t:Tmp}(h:d≠some t):nth (bJ tm d v) t=nth tm t:=by
 cases d with
 | none=>rfl
 | some d=>exact Qu (fun e=>h (by rw[e]))
structure FI(ops:Array Oper)(i:Nat)(np:List Nat)(c:Nat)(tm:List Value)(rs:List Rc)(bar:Option Nat):Prop where
 lt:∀ r∈rs,r.i<i
 mem:∀ r∈rs,r.i∈np
 ma:∀ r∈rs,Kz ops r.i=true→r.k = .mk
 rd:∀ r∈rs,∀ t,Bs ops r.i=some t→∃ n,r.k = .rd n∧aG (nth tm t)=some n
 wr:c=0→∀ r∈rs,wrT r.k=none
 ba:∀ q,bar=some q→c=1∧q∈np∧Kz ops q=false∧Bs ops q=none
theorem FI.put{rs:List Rc}{bar:Option Nat}{tm:List Value}{v:Value}{np':List Nat}{c c':Nat}(hf:FI ops i np c tm rs bar)(ha:vS ops=true)(ho:ops[i]?=some o)(hn:∀ j∈np,j∈np')(hc:c'=0→c=0)(h1:c=1→c'=1):FI ops (i+1) np' c' (bJ tm o.dst v) rs bar where
 lt r hr:=Nat.lt_succ_of_lt (hf.lt r hr)
 mem r hr:=hn _ (hf.mem r hr)
 ma:=hf.ma
 rd r hr t ht:=by
  obtain⟨n,h1,h2⟩:=hf.rd r hr t ht
  exact⟨n,h1,by rw[Ns (Hl ha ho (Nat.le_of_lt (hf.lt r hr)) ht)];exact h2⟩
 wr h:=hf.wr (hc h)
 ba q hq:=by
  obtain⟨e1,h2,h3⟩:=hf.ba q hq
  exact⟨h1 e1,hn q h2,h3⟩
theorem FI.add{rs:List Rc}{bar:Option Nat}{tm:List Value}{v:Value}{l0 l1:Nat}{k:Tk}{c c':Nat}(hf:FI ops i np c tm rs bar)(ha:vS ops=true)(ho:ops[i]?=some o)(hc:c'=0→c=0∧wrT k=none)(hc1:c=1→c'=1)(hk:Kz ops i=true→k = .mk)(hr:∀ t,Bs ops i=some t→∃ n,k = .rd n∧aG (nth tm t)=some n) :
 FI ops (i+1) (i::np) c' (bJ tm o.dst v) (⟨i,l0,l1,k⟩::rs) bar:=by
 have h1:FI ops (i+1) (i::np) c' (bJ tm o.dst v) rs bar:=hf.put ha ho (fun j hj=>j1 _ hj) (fun h=>(hc h).1) hc1
 refine⟨fun r hr=>?_,fun r hr=>?_,fun r hr=>?_,fun r hr'=>?_,fun hf' r hr=>?_,h1.ba⟩
 ·rcases j9.1 hr with rfl|hr
  ·exact Nat.lt_succ_self _
  ·exact h1.lt r hr
 ·rcases j9.1 hr with rfl|hr
  ·simp
  ·exact h1.mem r hr
 ·rcases j9.1 hr with rfl|hr
  ·exact hk
  ·exact h1.ma r hr
 ·rcases j9.1 hr' with rfl|hr'
  ·intro t ht
   obtain⟨n,e1,e2⟩:=hr t ht
   exact⟨n,e1,by rw[Ns (Hl ha ho (b7 _) ht)];exact e2⟩
  ·exact h1.rd r hr'
 ·rcases j9.1 hr with rfl|hr
  ·exact (hc hf').2
  ·exact h1.wr hf' r hr
def aDw(Fz:Nat→Prop)(L:Nat→LI)(hp:List TB)(idx n:Nat):Prop:=¬ Fz n∧∀ j b,hp[j]?=some b→b.live=true→j≠idx→(L j).nm≠some n
def OwnF(Fz:Nat→Prop)(L:Nat→LI)(hp:List TB)(c:Nat)(rs:List Rc)(N:Nat):Prop:=∀ idx,c=idx+2→∀ r∈rs,∀ n,wrT r.k=some n→aDw Fz L hp idx n∧n<N
theorem OwnF.lo{Fz:Nat→Prop}{L:Nat→LI}{hp:List TB}{c:Nat}{rs:List Rc}{N:Nat}(h:c≤1):OwnF Fz L hp c rs N:=fun _ e=>by omega
def TF(C:Ctx)(P:Program)(ops:Array Oper)(ms:List Nat)(l:List Oper)(i:Nat)(np:List Nat)(c:Nat)(s:TS)(Q:TS→Prop):Prop:=
 ∀ h0 Fz L tm h rs b bar wr,ops.toList.drop i=l→vS ops=true→St h0 Fz L s tm h→wge wr h0.length=true→FI ops i np c tm rs bar→OwnF Fz L s.hp c rs h.length →
  ∃ s2:Fr,cY C P ops ms l i ⟨tm,h,rs,b,bar,wr⟩=some s2∧wge s2.wr h0.length=true∧∃ s' Fz' L',Q s'∧Grow h0 Fz Fz' h s2.h∧St h0 Fz' L' s' s2.tm s2.h
theorem pR{l:List Oper}{i:Nat}(h:ops.toList.drop i=o::l):ops[i]?=some o∧ops.toList.drop (i+1)=l:=by
 have h1:(ops.toList.drop i)[0]?=some o:=by rw[h];rfl
 rw[m4] at h1
 refine⟨by rw[← Array.getElem?_toList];simpa using h1,?_⟩
 rw[← List.drop_drop,h]
 rfl
theorem TF.nil(hq:Q s):TF C P ops ms [] i np c s Q:=fun _ Fz L _ _ _ _ _ _ _ _ hs hw _ _=>⟨_,rfl,hw,s,Fz,L,hq,Grow.refl _ _,hs⟩
theorem TF.p(hw:twant ops s.tm o=some true)(ho:OpP P o s s')(hq:TF C P ops ms rest (i+1) np c s' Q):TF C P ops ms (o::rest) i np c s Q:=by
 intro h0 Fz L tm h rs b bar wr hl ha hs hwr hf how
 obtain⟨hi,hd⟩:=pR hl
 obtain⟨v,h1,s1⟩:=ho.2 h0 Fz L tm h hs
 obtain⟨s2,q1,q2,t2,F2,L2,q3,g2,s3⟩:=hq h0 Fz L _ h rs b bar wr hd ha s1 hwr (hf.put ha hi (fun j hj=>hj) (fun h=>h) (fun h=>h)) (by rw[ho.1];exact how)
 exact⟨s2,by simp only[cY,fB,if_pos (fW hs.tmr hw),h1,q1],q2,t2,F2,L2,q3,g2,s3⟩
theorem TF.skip(hw:twant ops s.tm o=some false)(hq:TF C P ops ms rest (i+1) np c ⟨tput s.tm o.dst (.tuple []),s.hp⟩ Q):TF C P ops ms (o::rest) i np c s Q:=by
 intro h0 Fz L tm h rs b bar wr hl ha hs hwr hf how
 obtain⟨hi,hd⟩:=pR hl
 obtain⟨s2,q1,q2,t2,F2,L2,q3,g2,s3⟩:=hq h0 Fz L _ h rs b bar wr hd ha (hs.put o.dst (.tuple L [] [] rfl (fun i p x h=>by simp at h))) hwr (hf.put ha hi (fun j hj=>hj) (fun h=>h) (fun h=>h)) how
 exact⟨s2,by simp only[cY,fB,fW hs.tmr hw,Bool.false_eq_true,if_false];exact q1,q2,t2,F2,L2,q3,g2,s3⟩
theorem TF.act{h0:List Blk}{Fz Fz1:Nat→Prop}{L L1:Nat→LI}{tm:List Value}{h h1:List Blk}{rs rs':List Rc}{b b':Nat}{bar bar' wr wr' w1:Option Nat}{v:Value}{np':List Nat}{c':Nat}(hw:twant ops s.tm o=some true)(hs:St h0 Fz L s tm h)(hl:ops.toList.drop i=o::rest)(ha:vS ops=true)
 (hp:Rex.pop P (ev tm) o=none) (hx:xop C P (ev tm) o h=some (v,h1,w1)) (hh:gJ ms (aK ms i) i (ev tm) o ⟨tm,h,rs,b,bar,wr⟩ (some (v,h1,w1))=some ⟨bJ tm o.dst v,h1,rs',b',bar',wr'⟩) (hwr:wge wr' h0.length=true) (hf:FI ops (i+1) np' c' (bJ tm o.dst v) rs' bar') (how:OwnF Fz1 L1 s'.hp c' rs' h1.length) (hq:TF C P ops ms rest (i+1) np' c' s' Q) (g1:Grow h0 Fz Fz1 h h1) (s1:St h0 Fz1 L1 s' (bJ tm o.dst v) h1) :
 ∃ s2:Fr,cY C P ops ms (o::rest) i ⟨tm,h,rs,b,bar,wr⟩=some s2∧wge s2.wr h0.length=true∧∃ s' Fz' L',Q s'∧Grow h0 Fz Fz' h s2.h∧St h0 Fz' L' s' s2.tm s2.h:=by
 obtain⟨s2,q1,q2,t2,F2,L2,q3,g2,s3⟩:=hq h0 Fz1 L1 _ h1 rs' b' bar' wr' (pR hl).2 ha s1 hwr hf how
 exact⟨s2,by simp only[cY,fB,if_pos (fW hs.tmr hw),hp,hx,hh,q1],q2,t2,F2,L2,q3,g1.trans g2,s3⟩
theorem mA{ρ:Operand→Value}(ho:ops[i]?=some o)(h:Kz ops i=true):touch ρ o=some .mk:=by
 unfold Kz at h
 rw[ho] at h
 simp only at h
 split at h<;>rename_i he<;>first|(cases h;done)|simp only[touch,he]
theorem Qs{ρ:Operand→Value}{t:Tmp}(ho:ops[i]?=some o)(h:Bs ops i=some t):touch ρ o=(aG (ρ (.tmp t))).map .rd:=by
 unfold Bs at h
 rw[ho] at h
 simp only at h
 split at h
 ·rename_i he
  obtain rfl:=a6 h
  simp only[touch,he]
 ·cases h
theorem nS{tm:List Value}{hh:List Blk}{r:Value×List Blk×Option Nat}{t:Tmp}(ho:ops[i]?=some o)(h:Bs ops i=some t)(hx:xop C P (ev tm) o hh=some r):∃ n,touch (ev tm) o=some (.rd n)∧aG (nth tm t)=some n:=by
 rw[Qs ho h]
 unfold Bs at h
 rw[ho] at h
 simp only at h
 split at h
 ·rename_i he
  obtain rfl:=a6 h
  simp only[xop,hop,he] at hx
  have hev:∀ t,ev tm (.tmp t)=nth tm t:=fun _=>rfl
  rw[hev] at hx ⊢
  split at hx
  ·rename_i r' hr
   split at hr
   ·rename_i hz;rw[hz];exact⟨_,rfl,rfl⟩
   ·cases hr
  ·cases hx
 ·cases h
theorem aBl{ρ:Operand→Value}{n n2:Nat}(h:Wy o=true):touch ρ o≠some (.ap n n2):=by
 intro ht
 unfold Wy at h
 unfold touch at ht
 split at h<;>rename_i he<;>try (cases h;done)
 ·rw[he] at ht
  simp only at ht
  split at h
  ·rename_i hb
   rw[hb] at ht
   simp only at ht
   rw[b6 (by simpa using h)] at ht
   cases ht
  ·rename_i hb
   split at ht
   ·rename_i b hb';exact hb b hb'
   ·cases ht
 ·split at ht<;>rename_i he2<;>first|(cases ht;done)|(cases hpn:aG _<;>rw[hpn] at ht<;>cases ht;done)|(split at ht<;>cases ht;done)|skip
  all_goals first|(rename_i c;exact absurd he2 (by rename_i h3;exact h3 _))|(simp_all)
theorem Yi{ρ:Operand→Value}{n:Nat}{C:Ctx}{hh:List Blk}{v:Value}{h1:List Blk}(h:Wy o=true)(ht:touch ρ o=some (.wr n)):xop C P ρ o hh≠some (v,h1,none):=by
 intro hx
 obtain⟨dst,op,ty,pos,aft,gd⟩:=o
 cases op<;>simp only[Wy,touch,xop,hop] at h ht hx
 case store t a x =>
  split at hx
  ·rename_i r hr
   split at hr
   ·rename_i hs
    cases hv:lZ P t hh _ _ (ρ x) with
    | none=>rw[hv] at hr;cases hr
    | some h' =>
     rw[hv] at hr
     obtain rfl:=a6 hr
     cases hx
   ·cases hr
  ·cases hx
 case mapUpdate=>cases h
 case insert=>cases h
 case call c =>
  split at ht
  ·split at ht
   ·rename_i b hb hap
    subst hap
    split at h
    ·rename_i b' hb';rw[hb] at hb';cases hb';simp at h
    ·rename_i hb';exact hb' _ hb
   ·cases ht
  ·cases ht
 all_goals first
  | (cases ht;done)
  | (cases hp:aG _<;>rw[hp] at ht<;>cases ht;done)
  | (split at ht<;>cases ht;done)
def noT(o:Oper)(s:TS):Prop:=Wy o=true∨∀ Fz h L vm,VLs Fz h L s.tm vm→(∀ k,touch (ev vm) o≠some (.wr k))∧∀ k k2,touch (ev vm) o≠some (.ap k k2)
theorem Qv{tm:List Value}{h h1:List Blk}{rs:List Rc}{b:Nat}{wr:Option Nat}{v:Value}{m:Nat}(hn1:∀ k,touch (ev tm) o≠some (.wr k))(hn2:∀ k k2,touch (ev tm) o≠some (.ap k k2))(ha:vS ops=true)(ho:ops[i]?=some o)(hx:xop C P (ev tm) o h=some (v,h1,none))(he:Ext h h1)(hf:FI ops i np 0 tm rs none) :
 ∃ rs',gJ ms m i (ev tm) o ⟨tm,h,rs,b,none,wr⟩ (some (v,h1,none))=some ⟨bJ tm o.dst v,h1,rs',b,none,wr⟩∧FI ops (i+1) (i::np) 0 (bJ tm o.dst v) rs' none:=by
 unfold gJ
 simp only[rF,if_true]
 have hadd:∀ k:Tk,wrT k=none→touch (ev tm) o=some k∨(k = .all∧touch (ev tm) o=none)→FI ops (i+1) (i::np) 0 (bJ tm o.dst v) (⟨i,h.length,h1.length,k⟩::rs) none:=by
  intro k hk ht
  refine hf.add ha ho (fun _=>⟨rfl,hk⟩) (fun h=>h) (fun hm=>?_) (fun t hr=>?_)
  ·have:=mA (ρ:=ev tm) ho hm
   rcases ht with ht|⟨_,ht⟩<;>rw[ht] at this<;>first|exact a6 this|cases this
  ·obtain⟨n,e1,e2⟩:=nS ho hr hx
   rcases ht with ht|⟨_,ht⟩<;>rw[ht] at e1
   ·exact⟨n,a6 e1,e2⟩
   ·cases e1
 have hex:h++h1.drop h.length=h1:=by obtain⟨t,rfl⟩:=he;simp
 split
 ·rename_i ht
  exact⟨_,rfl,hadd _ rfl (.inl ht)⟩
 ·rename_i n ht
  rw[a9 (show zZ m rs n=true from c9.2 fun r hr=>by rw[hf.wr rfl r hr];rfl)]
  exact⟨_,rfl,hadd _ rfl (.inl ht)⟩
 ·rename_i n ht
  exact absurd ht (hn1 n)
 ·rename_i n n2 ht
  exact absurd ht (hn2 n n2)
 ·rename_i e1 e2 e3 e4
  have ht:touch (ev tm) o=none∨touch (ev tm) o=some .all:=by
   cases hk:touch (ev tm) o with
   | none=>exact .inl rfl
   | some k=>cases k with
    | mk=>exact absurd hk e1
    | all=>exact .inr rfl
    | rd n=>exact absurd hk (e2 n)
    | wr n=>exact absurd hk (e3 n)
    | ap n n2=>exact absurd hk (e4 n n2)
  rw[a9 ⟨rfl,he.le,show Hj m i rs b=true from c9.2 fun r hr=>by rw[hf.wr rfl r hr]⟩,hex]
  refine⟨_,rfl,hadd .all rfl ?_⟩
  rcases ht with ht|ht
  ·exact .inr ⟨rfl,ht⟩
  ·exact .inl ht
theorem Qy{tm:List Value}{h h0 h1:List Blk}{rs:List Rc}{b:Nat}{wr bar w1:Option Nat}{v:Value}{m:Nat}(ha:vS ops=true)(ho:ops[i]?=some o)(hx:xop C P (ev tm) o h=some (v,h1,w1))(hw1:(w1=none∧Ext h h1)∨∃ nm,w1=some nm∧h0.length≤nm∧nm<h.length∧h.length≤h1.length)(hnp:np.all (fun j=>m.testBit j)=true)(hf:FI ops i np c tm rs bar)(hwr:wge wr h0.length=true) :
 ∃ rs' b' bar' wr',gJ ms m i (ev tm) o ⟨tm,h,rs,b,bar,wr⟩ (some (v,h1,w1))=some ⟨bJ tm o.dst v,h1,rs',b',bar',wr'⟩∧wge wr' h0.length=true∧FI ops (i+1) (i::np) 1 (bJ tm o.dst v) rs' bar':=by
 have hmem:∀ j∈np,m.testBit j=true:=c9.1 hnp
 have hrs:∀ r∈rs,m.testBit r.i=true:=fun r hr=>hmem _ (hf.mem r hr)
 have hwm:wge (wmin wr w1) h0.length=true:=by
  refine iR hwr ?_
  rcases hw1 with⟨rfl,_⟩|⟨nm,rfl,hl,_⟩
  ·rfl
  ·simpa [wge] using hl
 have hle:h.length≤h1.length:=by
  rcases hw1 with⟨_,he⟩|⟨_,_,_,_,hle⟩
  ·exact he.le
  ·exact hle
 have hbar:rF m bar=true:=by
  cases hb:bar with
  | none=>rfl
  | some q=>exact hmem q (hf.ba q hb).2.1
 unfold gJ
 simp only[hbar,if_true]
 have hadd:∀(k:Tk) (a z:Nat),touch (ev tm) o=some k∨(k = .all∧touch (ev tm) o=none)→FI ops (i+1) (i::np) 1 (bJ tm o.dst v) (⟨i,a,z,k⟩::rs) bar:=by
  intro k a z ht
  refine hf.add ha ho (fun h=>absurd h (by decide)) (fun _=>rfl) (fun hm=>?_) (fun t hr=>?_)
  ·have:=mA (ρ:=ev tm) ho hm
   rcases ht with ht|⟨_,ht⟩<;>rw[ht] at this<;>first|exact a6 this|cases this
  ·obtain⟨n,e1,e2⟩:=nS ho hr hx
   rcases ht with ht|⟨_,ht⟩<;>rw[ht] at e1
   ·exact⟨n,a6 e1,e2⟩
   ·cases e1
 split
 ·rename_i ht
  exact⟨_,_,_,_,rfl,hwr,hadd _ _ _ (.inl ht)⟩
 ·rename_i n ht
  rw[a9 (show zZ m rs n=true from c9.2 fun r hr=>by simp[hrs r hr])]
  exact⟨_,_,_,_,rfl,hwr,hadd _ _ _ (.inl ht)⟩
 ·rename_i n ht
  rw[a9 (show Fu ms m rs b n=true from c9.2 fun r hr=>by split<;>simp[hrs r hr])]
  exact⟨_,_,_,_,rfl,hwm,hadd _ _ _ (.inl ht)⟩
 ·rename_i n n2 ht
  rw[a9 ⟨show Fu ms m rs b n=true from c9.2 fun r hr=>by split<;>simp[hrs r hr],show zZ m rs n2=true from c9.2 fun r hr=>by simp[hrs r hr]⟩]
  exact⟨_,_,_,_,rfl,hwm,hadd _ _ _ (.inl ht)⟩
 ·rename_i e1 e2 e3 e4
  have ht:touch (ev tm) o=none∨touch (ev tm) o=some .all:=by
   cases hk:touch (ev tm) o with
   | none=>exact .inl rfl
   | some k=>cases k with
    | mk=>exact absurd hk e1
    | all=>exact .inr rfl
    | rd n=>exact absurd hk (e2 n)
    | wr n=>exact absurd hk (e3 n)
    | ap n n2=>exact absurd hk (e4 n n2)
  split
  ·rename_i hc
   have hex:h++h1.drop h.length=h1:=by
    rcases hw1 with⟨_,t,rfl⟩|⟨nm,rfl,_,hlt,_⟩
    ·simp
    ·have:=hc.1;simp[wge] at this;omega
   rw[hex]
   refine⟨_,_,_,_,rfl,hwr,hadd .all _ _ ?_⟩
   rcases ht with ht|ht
   ·exact .inr ⟨rfl,ht⟩
   ·exact .inl ht
  ·rw[a9 ⟨c9.2 hrs,hle⟩]
   refine⟨_,_,_,_,rfl,hwm,⟨fun r hr=>by simp at hr,fun r hr=>by simp at hr,fun r hr=>by simp at hr,fun r hr=>by simp at hr,fun _ r hr=>by simp at hr,fun q hq=>?_⟩⟩
   obtain rfl:=a6 hq
   refine⟨rfl,by simp,?_,?_⟩
   ·cases hm:Kz ops i with
    | false=>rfl
    | true=>exact absurd (mA (ρ:=ev tm) ho hm) e1
   ·cases hr:Bs ops i with
    | none=>rfl
    | some t =>
     obtain⟨n,e,_⟩:=nS ho hr hx
     exact absurd e (e2 n)
theorem TF.m(hw:twant ops s.tm o=some true)(hna:noT o s)(ho:OpM C P o s s')(hq:TF C P ops ms rest (i+1) (i::np) 0 s' Q):TF C P ops ms (o::rest) i np 0 s Q:=by
 intro h0 Fz L tm h rs b bar wr hl ha hs hwr hf how
 obtain⟨hi,hd⟩:=pR hl
 rcases ho h0 Fz L tm h hs with⟨v,h1,F1,L1,g1,s1⟩|⟨hn,v,h1,hx,he,F1,L1,g1,s1⟩
 ·obtain⟨s2,q1,q2,t2,F2,L2,q3,g2,s3⟩:=hq h0 F1 L1 _ h rs b bar wr hd ha s1 hwr (hf.put ha hi (fun j hj=>j1 _ hj) (fun h=>h) (fun h=>h)) (.lo (by decide))
  exact⟨s2,by simp only[cY,fB,if_pos (fW hs.tmr hw),h1,q1],q2,t2,F2,L2,q3,g1.trans g2,s3⟩
 ·obtain rfl : bar = none := by
    cases hb:bar with
    | none=>rfl
    | some q=>have:=(hf.ba q hb).1;cases this
  have hn1:∀ k,touch (ev tm) o≠some (.wr k):=fun k=>by
   rcases hna with h|h
   ·exact fun ht=>Yi h ht hx
   ·exact (h Fz _ L tm hs.tmr).1 k
  have hn2:∀ k k2,touch (ev tm) o≠some (.ap k k2):=fun k k2=>by
   rcases hna with h|h
   ·exact aBl h
   ·exact (h Fz _ L tm hs.tmr).2 k k2
  obtain⟨rs',e1,e2⟩:=Qv (ms:=ms) (b:=b) (wr:=wr) (m:=aK ms i) hn1 hn2 ha hi hx he hf
  exact TF.act hw hs hl ha hn hx e1 hwr e2 (.lo (by decide)) hq g1 s1
theorem TF.w(hw:twant ops s.tm o=some true)(ho:OpW C P o s s')(hnp:np.all (fun j=>(aK ms i).testBit j)=true)(hq:TF C P ops ms rest (i+1) (i::np) 1 s' Q):TF C P ops ms (o::rest) i np c s Q:=by
 intro h0 Fz L tm h rs b bar wr hl ha hs hwr hf how
 obtain⟨hi,hd⟩:=pR hl
 rcases ho h0 Fz L tm h hs with⟨v,h1,F1,L1,g1,s1⟩|⟨hn,v,h1,w1,hx,hw1,F1,L1,g1,s1⟩
 ·obtain⟨s2,q1,q2,t2,F2,L2,q3,g2,s3⟩:=hq h0 F1 L1 _ h rs b bar wr hd ha s1 hwr (hf.put ha hi (fun j hj=>j1 _ hj) (fun h=>absurd h (by decide)) (fun _=>rfl)) (.lo (by decide))
  exact⟨s2,by simp only[cY,fB,if_pos (fW hs.tmr hw),h1,q1],q2,t2,F2,L2,q3,g1.trans g2,s3⟩
 ·obtain⟨rs',b',bar',wr',e1,e2,e3⟩:=Qy (ms:=ms) (b:=b) (m:=aK ms i) ha hi hx hw1 hnp hf hwr
  exact TF.act hw hs hl ha hn hx e1 e2 e3 (.lo (by decide)) hq g1 s1
theorem TF.weak{l:List Oper}(hc:Nat.ble c 1=true)(hw:Wk s s')(hx:TF C P ops ms l i np c s' Q):TF C P ops ms l i np c s Q:=by
 intro h0 Fz L tm h rs b bar wr hl ha hs hwr hf how
 obtain⟨F1,L1,g1,s1⟩:=hw h0 Fz L tm h hs
 obtain⟨s2,q1,q2,t2,F2,L2,q3,g2,s3⟩:=hx h0 F1 L1 tm h rs b bar wr hl ha s1 hwr hf (.lo (Nat.le_of_ble_eq_true hc))
 exact⟨s2,q1,q2,t2,F2,L2,q3,g1.trans g2,s3⟩
def OpA(C:Ctx)(P:Program)(o:Oper)(s s':TS)(n:Nat):Prop:=
 ∀ h0 Fz L tm h,St h0 Fz L s tm h→(∃ v,Rex.pop P (ev tm) o=some v∧∃ L',(∀ j,j≠n→L' j=L j)∧Grow h0 Fz Fz h h∧St h0 Fz L' s' (bJ tm o.dst v) h) ∨
  Rex.pop P (ev tm) o=none∧(∀ k,touch (ev tm) o≠some (.wr k))∧(∀ k k2,touch (ev tm) o=some (.ap k k2)→(L n).nm=some k)∧∃ v h1 w1,xop C P (ev tm) o h=some (v,h1,w1)∧((w1=none∧Ext h h1)∨∃ nm,w1=some nm∧h0.length≤nm∧nm<h.length∧h.length≤h1.length) ∧
   (w1=none∨∃ k k2,touch (ev tm) o=some (.ap k k2))∧∃ L',(∀ j,j≠n→L' j=L j)∧Grow h0 Fz Fz h h1∧St h0 Fz L' s' (bJ tm o.dst v) h1
theorem OpA.toW{n:Nat}(h:OpA C P o s s' n):OpW C P o s s':=by
 intro h0 Fz L tm hh hs
 rcases h h0 Fz L tm hh hs with⟨v,h1,L',-,h2,h3⟩|⟨h1,-,-,v,h2,w1,h3,h4,-,L',-,h5,h6⟩
 ·exact .inl ⟨v,h1,Fz,L',h2,h3⟩
 ·exact .inr ⟨h1,v,h2,w1,h3,h4,Fz,L',h5,h6⟩
theorem St.own{h0 h:List Blk}{Fz:Nat→Prop}{L:Nat→LI}{tm:List Value}{j nm:Nat}{b:TB}(hs:St h0 Fz L s tm h)(hb:s.hp[j]?=some b)(hv:b.live=true)(hn:(L j).nm=some nm):¬ Fz nm:=by
 have hB:=hs.blk j b hb
 cases b with
 | dead=>cases hv
 | rows es rows =>
  obtain⟨-,-,-,-,h5⟩:=hB
  rcases h5 with h5|⟨nm',cs,e1,-,e3,-⟩
  ·rw[h5.1] at hn;cases hn
  ·rw[e1] at hn;obtain rfl:=a6 hn;exact e3
 | var row =>
  obtain⟨-,nm',cs,e1,-,e3,-⟩:=hB
  rw[e1] at hn;obtain rfl:=a6 hn;exact e3
theorem St.ownLt{h0 h:List Blk}{Fz:Nat→Prop}{L:Nat→LI}{tm:List Value}{j nm:Nat}{b:TB}(hs:St h0 Fz L s tm h)(hb:s.hp[j]?=some b)(hv:b.live=true)(hn:(L j).nm=some nm):nm<h.length:=by
 have hB:=hs.blk j b hb
 cases b with
 | dead=>cases hv
 | rows es rows =>
  obtain⟨-,-,-,-,h5⟩:=hB
  rcases h5 with h5|⟨nm',cs,e1,e2,e3,e4,e5⟩
  ·rw[h5.1] at hn;cases hn
  ·rw[e1] at hn;obtain rfl:=a6 hn
   exact (a8.1 e4).1
 | var row =>
  obtain⟨-,nm',cs,e1,e2,e3,e4,e5⟩:=hB
  rw[e1] at hn;obtain rfl:=a6 hn
  exact (a8.1 e4).1
theorem TF.ap{n:Nat}(hw:twant ops s.tm o=some true)(ho:OpA C P o s s' n)(hlv:∀ j b',s'.hp[j]?=some b'→b'.live=true→j≠n→∃ b,s.hp[j]?=some b∧b.live=true)(hbn:∃ b,s.hp[n]?=some b∧b.live=true)(hnp:np.all (fun j=>(aK ms i).testBit j)=true)(hq:TF C P ops ms rest (i+1) (i::np) (n+2) s' Q):TF C P ops ms (o::rest) i np 0 s Q:=by
 intro h0 Fz L tm h rs b bar wr hl ha hs hwr hf how
 obtain⟨hi,hd⟩:=pR hl
 obtain rfl:bar=none:=by
  cases hb:bar with
  | none=>rfl
  | some q=>have:=(hf.ba q hb).1;cases this
 have hrs:∀ r∈rs,(aK ms i).testBit r.i=true:=fun r hr=>c9.1 hnp _ (hf.mem r hr)
 have hold:∀ r∈rs,∀ k,wrT r.k≠some k:=fun r hr k=>by rw[hf.wr rfl r hr];exact fun h=>by cases h
 rcases ho h0 Fz L tm h hs with⟨v,h1,L',hL,g1,s1⟩|⟨hn,hnw,hna,v,h1,w1,hx,hw1,hwt,L',hL,g1,s1⟩
 ·obtain⟨s2,q1,q2,t2,F2,L2,q3,g2,s3⟩:=hq h0 Fz L' _ h rs b none wr hd ha s1 hwr (hf.put ha hi (fun j hj=>j1 _ hj) (fun h=>by omega) (fun h=>by cases h)) (fun idx e r hr k hk=>absurd hk (hold r hr k))
  exact⟨s2,by simp only[cY,fB,if_pos (fW hs.tmr hw),h1,q1],q2,t2,F2,L2,q3,g1.trans g2,s3⟩
 have hwm:wge (wmin wr w1) h0.length=true:=by
  refine iR hwr ?_
  rcases hw1 with⟨rfl,_⟩|⟨nm,rfl,hl,_⟩
  ·rfl
  ·simpa [wge] using hl
 have hadd:∀(k:Tk) (a z:Nat),touch (ev tm) o=some k∨(k = .all∧touch (ev tm) o=none)→FI ops (i+1) (i::np) (n+2) (bJ tm o.dst v) (⟨i,a,z,k⟩::rs) none:=by
  intro k a z ht
  refine hf.add ha hi (fun h=>by omega) (fun h=>by cases h) (fun hm=>?_) (fun t hr=>?_)
  ·have:=mA (ρ:=ev tm) hi hm
   rcases ht with ht|⟨_,ht⟩<;>rw[ht] at this<;>first|exact a6 this|cases this
  ·obtain⟨n,e1,e2⟩:=nS hi hr hx
   rcases ht with ht|⟨_,ht⟩<;>rw[ht] at e1
   ·exact⟨n,a6 e1,e2⟩
   ·cases e1
 have hown:∀(k:Tk) (a z:Nat),wrT k=none→OwnF Fz L' s'.hp (n+2) (⟨i,a,z,k⟩::rs) h1.length:=fun k a z hk idx e r hr x hx=>by
  rcases j9.1 hr with rfl|hr
  ·rw[hk] at hx;cases hx
  ·exact absurd hx (hold r hr x)
 obtain⟨rs',wr',e1,e2,e3,e4⟩:∃ rs' wr',gJ ms (aK ms i) i (ev tm) o ⟨tm,h,rs,b,none,wr⟩ (some (v,h1,w1))=some ⟨bJ tm o.dst v,h1,rs',b,none,wr'⟩∧wge wr' h0.length=true∧FI ops (i+1) (i::np) (n+2) (bJ tm o.dst v) rs' none∧OwnF Fz L' s'.hp (n+2) rs' h1.length:=by
  unfold gJ
  simp only[rF,if_true]
  split
  ·rename_i ht
   exact⟨_,_,rfl,hwr,hadd _ _ _ (.inl ht),hown _ _ _ rfl⟩
  ·rename_i k ht
   rw[a9 (show zZ (aK ms i) rs k=true from c9.2 fun r hr=>by simp[hrs r hr])]
   exact⟨_,_,rfl,hwr,hadd _ _ _ (.inl ht),hown _ _ _ rfl⟩
  ·rename_i k ht
   exact absurd ht (hnw k)
  ·rename_i k k2 ht
   rw[a9 ⟨show Fu ms (aK ms i) rs b k=true from c9.2 fun r hr=>by split<;>simp[hrs r hr],show zZ (aK ms i) rs k2=true from c9.2 fun r hr=>by simp[hrs r hr]⟩]
   refine⟨_,_,rfl,hwm,hadd _ _ _ (.inl ht),fun idx e r hr x hx=>?_⟩
   obtain rfl:n=idx:=by omega
   rcases j9.1 hr with rfl|hr
   ·obtain rfl:k=x:=by simpa [wrT] using hx
    have hk:=hna k k2 ht
    obtain⟨bn,hb1,hb2⟩:=hbn
    have hlt:k<h1.length:=by
     have:=hs.ownLt hb1 hb2 hk
     rcases hw1 with⟨_,he⟩|⟨_,_,_,_,hle⟩
     ·exact f0 this he.le
     ·exact f0 this hle
    refine⟨⟨hs.own hb1 hb2 hk,fun j b' hj hlj hne hjk=>?_⟩,hlt⟩
    obtain⟨bj,hj1,hj2⟩:=hlv j b' hj hlj hne
    rw[hL j hne] at hjk
    exact hne (hs.inj j n bj bn k hj1 hb1 hj2 hb2 hjk hk)
   ·exact absurd hx (hold r hr x)
  ·rename_i e1 e2 e3 e4
   have ht:touch (ev tm) o=none∨touch (ev tm) o=some .all:=by
    cases hk:touch (ev tm) o with
    | none=>exact .inl rfl
    | some k=>cases k with
     | mk=>exact absurd hk e1
     | all=>exact .inr rfl
     | rd n=>exact absurd hk (e2 n)
     | wr n=>exact absurd hk (e3 n)
     | ap n n2=>exact absurd hk (e4 n n2)
   have hw0:w1=none:=by
    rcases hwt with h|⟨k,k2,h⟩
    ·exact h
    ·exact absurd h (e4 k k2)
   subst hw0
   rcases hw1 with⟨_,he⟩|⟨nm,h,_⟩
   ·have hex:h++h1.drop h.length=h1:=by obtain⟨t,rfl⟩:=he;simp
    rw[a9 ⟨rfl,he.le,show Hj (aK ms i) i rs b=true from c9.2 fun r hr=>by split<;>simp[hrs r hr]⟩,hex]
    refine⟨_,_,rfl,hwr,hadd .all _ _ ?_,hown _ _ _ rfl⟩
    rcases ht with ht|ht
    ·exact .inr ⟨rfl,ht⟩
    ·exact .inl ht
   ·cases h
 exact TF.act hw hs hl ha hn hx e1 e2 e3 e4 hq g1 s1
def apart(hp:List TB)(j:Nat):TV→Bool
 | .fptr _ _ _=>true
 | .lptr k _ _=>k != j&&(match hp[k]? with|some b=>b.live|none=>false)
 | _=>false
theorem Mx{h0 h:List Blk}{Fz:Nat→Prop}{L:Nat→LI}{tm:List Value}{j nm n:Nat}{b:TB}{p:TV}{x:Value}(hs:St h0 Fz L s tm h)(hb:s.hp[j]?=some b)(hv:b.live=true)(hn:(L j).nm=some nm)(hp:VL Fz h L p x)(hx:aG x=some n)(ha:apart s.hp j p=true):n≠nm:=by
 rintro rfl
 cases hp<;>simp only[apart] at ha<;>try (cases ha;done)
 ·simp only[aG] at hx
  obtain rfl:=a6 hx
  exact hs.own hb hv hn (by assumption)
 ·rename_i k r o nm' ok hnk
  simp only[aG] at hx
  obtain rfl:=a6 hx
  rw[n6] at ha
  cases hk:s.hp[k]? with
  | none=>rw[hk] at ha;cases ha.2
  | some b' =>
   rw[hk] at ha
   have:=hs.inj k j b' b _ hk hb ha.2 hv hnk hn
   simp[this] at ha
def Ft(ops:Array Oper)(m:Nat)(s:TS)(j:Nat)(np:List Nat):Bool:=np.all fun k=>m.testBit k||Kz ops k||(match Bs ops k with|some t=>apart s.hp j (tnth s.tm t)|none=>false)
theorem TF.ap2{n:Nat}(hw:twant ops s.tm o=some true)(ho:OpA C P o s s' n)(hlv:∀ j b',s'.hp[j]?=some b'→b'.live=true→j≠n→∃ b,s.hp[j]?=some b∧b.live=true)(hbn:∃ b,s.hp[n]?=some b∧b.live=true)(hnp:Ft ops (aK ms i) s n np=true)(hq:TF C P ops ms rest (i+1) (i::np) (n+2) s' Q):TF C P ops ms (o::rest) i np 0 s Q:=by
 intro h0 Fz L tm h rs b bar wr hl ha hs hwr hf how
 obtain⟨hi,hd⟩:=pR hl
 obtain rfl:bar=none:=by
  cases hb:bar with
  | none=>rfl
  | some q=>have:=(hf.ba q hb).1;cases this
 have hbe:=c9.1 hnp
 have hold:∀ r∈rs,∀ k,wrT r.k≠some k:=fun r hr k=>by rw[hf.wr rfl r hr];exact fun h=>by cases h
 rcases ho h0 Fz L tm h hs with⟨v,h1,L',hL,g1,s1⟩|⟨hn,hnw,hna,v,h1,w1,hx,hw1,hwt,L',hL,g1,s1⟩
 ·obtain⟨s2,q1,q2,t2,F2,L2,q3,g2,s3⟩:=hq h0 Fz L' _ h rs b none wr hd ha s1 hwr (hf.put ha hi (fun j hj=>j1 _ hj) (fun h=>by omega) (fun h=>by cases h)) (fun idx e r hr k hk=>absurd hk (hold r hr k))
  exact⟨s2,by simp only[cY,fB,if_pos (fW hs.tmr hw),h1,q1],q2,t2,F2,L2,q3,g1.trans g2,s3⟩
 have hwm:wge (wmin wr w1) h0.length=true:=by
  refine iR hwr ?_
  rcases hw1 with⟨rfl,_⟩|⟨nm,rfl,hl,_⟩
  ·rfl
  ·simpa [wge] using hl
 have hadd:∀(k:Tk) (a z:Nat),touch (ev tm) o=some k∨(k = .all∧touch (ev tm) o=none)→FI ops (i+1) (i::np) (n+2) (bJ tm o.dst v) (⟨i,a,z,k⟩::rs) none:=by
  intro k a z ht
  refine hf.add ha hi (fun h=>by omega) (fun h=>by cases h) (fun hm=>?_) (fun t hr=>?_)
  ·have:=mA (ρ:=ev tm) hi hm
   rcases ht with ht|⟨_,ht⟩<;>rw[ht] at this<;>first|exact a6 this|cases this
  ·obtain⟨n,e1,e2⟩:=nS hi hr hx
   rcases ht with ht|⟨_,ht⟩<;>rw[ht] at e1
   ·exact⟨n,a6 e1,e2⟩
   ·cases e1
 have hown:∀(k:Tk) (a z:Nat),wrT k=none→OwnF Fz L' s'.hp (n+2) (⟨i,a,z,k⟩::rs) h1.length:=fun k a z hk idx e r hr x hx=>by
  rcases j9.1 hr with rfl|hr
  ·rw[hk] at hx;cases hx
  ·exact absurd hx (hold r hr x)
 obtain⟨rs',wr',e1,e2,e3,e4⟩:∃ rs' wr',gJ ms (aK ms i) i (ev tm) o ⟨tm,h,rs,b,none,wr⟩ (some (v,h1,w1))=some ⟨bJ tm o.dst v,h1,rs',b,none,wr'⟩∧wge wr' h0.length=true∧FI ops (i+1) (i::np) (n+2) (bJ tm o.dst v) rs' none∧OwnF Fz L' s'.hp (n+2) rs' h1.length:=by
  unfold gJ
  simp only[rF,if_true]
  split
  ·rename_i ht
   exact⟨_,_,rfl,hwr,hadd _ _ _ (.inl ht),hown _ _ _ rfl⟩
  ·rename_i k ht
   rw[a9 (show zZ (aK ms i) rs k=true from c9.2 fun r hr=>by simp[hold r hr k])]
   exact⟨_,_,rfl,hwr,hadd _ _ _ (.inl ht),hown _ _ _ rfl⟩
  ·rename_i k ht
   exact absurd ht (hnw k)
  ·rename_i k k2 ht
   have hok:Fu ms (aK ms i) rs b k=true:=by
    obtain⟨bn,hb1,hb2⟩:=hbn
    refine c9.2 fun r hr=>?_
    have h1:=hbe _ (hf.mem r hr)
    cases hm:Kz ops r.i with
    | true=>rw[hf.ma r hr hm];simp[nR]
    | false =>
     cases hrd:Bs ops r.i with
     | none =>
      have:(aK ms i).testBit r.i=true:=by simpa [hm,hrd] using h1
      split<;>simp[this]
     | some t' =>
      obtain⟨n',e1,e2⟩:=hf.rd r hr t' hrd
      rw[e1]
      simp only[nR]
      cases hb:(aK ms i).testBit r.i with
      | true=>simp
      | false =>
       have hap:apart s.hp n (tnth s.tm t')=true:=by simpa [hm,hrd,hb] using h1
       have hvl:=dJ hs.fz hs.tmr (.tmp t')
       have:=Mx hs hb1 hb2 (hna k k2 ht) hvl e2 hap
       simp[this]
   rw[a9 ⟨hok,show zZ (aK ms i) rs k2=true from c9.2 fun r hr=>by simp[hold r hr k2]⟩]
   refine⟨_,_,rfl,hwm,hadd _ _ _ (.inl ht),fun idx e r hr x hx=>?_⟩
   obtain rfl:n=idx:=by omega
   rcases j9.1 hr with rfl|hr
   ·obtain rfl:k=x:=by simpa [wrT] using hx
    have hk:=hna k k2 ht
    obtain⟨bn,hb1,hb2⟩:=hbn
    have hlt:k<h1.length:=by
     have:=hs.ownLt hb1 hb2 hk
     rcases hw1 with⟨_,he⟩|⟨_,_,_,_,hle⟩
     ·exact f0 this he.le
     ·exact f0 this hle
    refine⟨⟨hs.own hb1 hb2 hk,fun j b' hj hlj hne hjk=>?_⟩,hlt⟩
    obtain⟨bj,hj1,hj2⟩:=hlv j b' hj hlj hne
    rw[hL j hne] at hjk
    exact hne (hs.inj j n bj bn k hj1 hb1 hj2 hb2 hjk hk)
   ·exact absurd hx (hold r hr x)
  ·rename_i e1 e2 e3 e4
   have ht:touch (ev tm) o=none∨touch (ev tm) o=some .all:=by
    cases hk:touch (ev tm) o with
    | none=>exact .inl rfl
    | some k=>cases k with
     | mk=>exact absurd hk e1
     | all=>exact .inr rfl
     | rd n=>exact absurd hk (e2 n)
     | wr n=>exact absurd hk (e3 n)
     | ap n n2=>exact absurd hk (e4 n n2)
   have hw0:w1=none:=by
    rcases hwt with h|⟨k,k2,h⟩
    ·exact h
    ·exact absurd h (e4 k k2)
   subst hw0
   rcases hw1 with⟨_,he⟩|⟨nm,h,_⟩
   ·have hex:h++h1.drop h.length=h1:=by obtain⟨t,rfl⟩:=he;simp
    rw[a9 ⟨rfl,he.le,show Hj (aK ms i) i rs b=true from c9.2 fun r hr=>by
     split
     ·rename_i k hk;exact absurd hk (hold r hr k)
     ·rfl⟩,hex]
    refine⟨_,_,rfl,hwr,hadd .all _ _ ?_,hown _ _ _ rfl⟩
    rcases ht with ht|ht
    ·exact .inr ⟨rfl,ht⟩
    ·exact .inl ht
   ·cases h
 exact TF.act hw hs hl ha hn hx e1 e2 e3 e4 hq g1 s1
theorem TF.st{t:TypeId}{a x:Operand}{j r ob:Nat}{hp':List TB}(hw:twant ops s.tm { dst:=none,op:=.store t a x,type:=ty,pos:=pos,after:=aft,guard:=gd }=some true)(ha:tev s.tm a = .lptr j r ob)(ho:OpW C P { dst:=none,op:=.store t a x,type:=ty,pos:=pos,after:=aft,guard:=gd } s ⟨s.tm,hp'⟩)(hlv:(match s.hp[j]? with | some b=>b.live | none=>false)=true)
 (hnp:Ft ops (aK ms i) s j np=true) (hq:TF C P ops ms rest (i+1) (i::np) 1 ⟨s.tm,hp'⟩ Q):TF C P ops ms ({ dst:=none,op:=.store t a x,type:=ty,pos:=pos,after:=aft,guard:=gd }::rest) i np c s Q:=by
 intro h0 Fz L tm h rs b bar wr hl hak hs hwr hf how
 obtain⟨hi,hd⟩:=pR hl
 have hbe:=c9.1 hnp
 have hbar:rF (aK ms i) bar=true:=by
  cases hb:bar with
  | none=>rfl
  | some q =>
   obtain⟨-,h1,h2,h3⟩:=hf.ba q hb
   have:=hbe q h1
   simpa [h2,h3,rF] using this
 rcases ho h0 Fz L tm h hs with⟨v,h1,F1,L1,g1,s1⟩|⟨hn,v,h1,w1,hx,hw1,F1,L1,g1,s1⟩
 ·cases h1
 obtain⟨nm,hnm,hav⟩:∃ nm,(L j).nm=some nm∧∃ ofs,ev tm a = .pointer (some ⟨nm,ofs,none⟩):=by
  have h1:=dJ hs.fz hs.tmr a
  rw[ha] at h1
  generalize ev tm a=y at *
  cases h1 with
  | lptr _ _ _ _ nm ok hn=>exact⟨nm,hn,_,rfl⟩
 obtain⟨ofs,hav⟩:=hav
 cases hbj:s.hp[j]? with
 | none=>rw[hbj] at hlv;cases hlv
 | some bj =>
 rw[hbj] at hlv
 have ht:touch (ev tm) { dst:=none,op:=.store t a x,type:=ty,pos:=pos,after:=aft,guard:=gd }=some (.wr nm):=by simp only[touch,hav,aG,Option.map_some]
 have hwm:wge (wmin wr w1) h0.length=true:=by
  refine iR hwr ?_
  rcases hw1 with⟨rfl,_⟩|⟨nm,rfl,hl,_⟩
  ·rfl
  ·simpa [wge] using hl
 have hok:Fu ms (aK ms i) rs b nm=true:=by
  refine c9.2 fun r hr=>?_
  have h1:=hbe _ (hf.mem r hr)
  cases hm:Kz ops r.i with
  | true=>rw[hf.ma r hr hm];simp[nR]
  | false =>
   cases hrd:Bs ops r.i with
   | none =>
    have:(aK ms i).testBit r.i=true:=by simpa [hm,hrd] using h1
    split<;>simp[this]
   | some t' =>
    obtain⟨n,e1,e2⟩:=hf.rd r hr t' hrd
    rw[e1]
    simp only[nR]
    cases hb:(aK ms i).testBit r.i with
    | true=>simp
    | false =>
     have hap:apart s.hp j (tnth s.tm t')=true:=by simpa [hm,hrd,hb] using h1
     have hvl:=dJ hs.fz hs.tmr (.tmp t')
     have:=Mx hs hbj hlv hnm hvl e2 hap
     simp[this]
 refine TF.act (rs':=⟨i,h.length,h.length,.wr nm⟩::rs) (b':=b) (bar':=bar) (wr':=wmin wr w1) (np':=i::np) (c':=1) hw hs hl hak hn hx ?_ hwm ?_ (.lo (by decide)) hq g1 s1
 ·unfold gJ
  simp only[hbar,if_true,ht,hok]
 ·refine hf.add hak hi (fun h=>absurd h (by decide)) (fun _=>rfl) (fun hm=>?_) (fun t hr=>?_)
  ·have:=mA (ρ:=ev tm) hi hm
   rw[ht] at this
   cases this
  ·obtain⟨n,e,_⟩:=nS hi hr hx
   rw[ht] at e
   cases e
def OpL(C:Ctx)(P:Program)(o:Oper)(s s':TS):Prop:=
 s'.hp=s.hp∧∀ h0 Fz L tm h,St h0 Fz L s tm h→Rex.pop P (ev tm) o=none∧∃ v,xop C P (ev tm) o h=some (v,h,none)∧St h0 Fz L s' (bJ tm o.dst v) h
theorem Vt{h0 h:List Blk}{Fz:Nat→Prop}{L:Nat→LI}{tm:List Value}{j n n':Nat}{p:TV}{x:Value}(hs:St h0 Fz L s tm h)(hp:VL Fz h L p x)(hx:aG x=some n)(ha:apart s.hp j p=true)(hn:aDw Fz L s.hp j n'):n'≠n:=by
 rintro rfl
 cases hp<;>simp only[apart] at ha<;>try (cases ha;done)
 ·simp only[aG] at hx
  obtain rfl:=a6 hx
  exact hn.1 (by assumption)
 ·rename_i k r o nm' ok hnk
  simp only[aG] at hx
  obtain rfl:=a6 hx
  rw[n6] at ha
  cases hk:s.hp[k]? with
  | none=>rw[hk] at ha;cases ha.2
  | some b' =>
   rw[hk] at ha
   exact hn.2 k b' hk ha.2 (by simpa using ha.1) hnk
theorem TF.ld{t:TypeId}{a:Operand}{idx:Nat}(hw:twant ops s.tm { dst:=dst,op:=.load t a,type:=ty,pos:=pos,after:=aft,guard:=gd }=some true)(hap:apart s.hp idx (tev s.tm a)=true)(ho:OpL C P { dst:=dst,op:=.load t a,type:=ty,pos:=pos,after:=aft,guard:=gd } s s')(hq:TF C P ops ms rest (i+1) (i::np) (idx+2) s' Q) :
 TF C P ops ms ({ dst:=dst,op:=.load t a,type:=ty,pos:=pos,after:=aft,guard:=gd }::rest) i np (idx+2) s Q:=by
 intro h0 Fz L tm h rs b bar wr hl ha hs hwr hf how
 obtain⟨hi,hd⟩:=pR hl
 obtain rfl:bar=none:=by
  cases hb:bar with
  | none=>rfl
  | some q=>have:=(hf.ba q hb).1;omega
 obtain⟨hn,v,hx,s1⟩:=ho.2 h0 Fz L tm h hs
 obtain⟨n,hpn⟩:∃ n,aG (ev tm a)=some n:=by
  have hx':=hx
  simp only[xop,hop] at hx'
  split at hx'
  ·rename_i r' hr
   split at hr
   ·rename_i hz;rw[hz];exact⟨_,rfl⟩
   ·cases hr
  ·cases hx'
 have ht:touch (ev tm) { dst:=dst,op:=.load t a,type:=ty,pos:=pos,after:=aft,guard:=gd }=some (.rd n):=by simp only[touch,hpn,Option.map_some]
 have hok:zZ (aK ms i) rs n=true:=by
  refine c9.2 fun r hr=>?_
  cases hk:wrT r.k with
  | none=>rfl
  | some n' =>
   have:=Vt hs (dJ hs.fz hs.tmr a) hpn hap (how idx rfl r hr n' hk).1
   simp[this]
 refine TF.act (rs':=⟨i,h.length,h.length,.rd n⟩::rs) (b':=b) (bar':=none) (wr':=wr) (np':=i::np) (c':=idx+2) hw hs hl ha hn hx ?_ hwr ?_ ?_ hq (Grow.refl _ _) s1
 ·unfold gJ
  simp only[rF,if_true,ht,hok]
 ·refine hf.add ha hi (fun h=>by omega) (fun h=>by omega) (fun hm=>?_) (fun t' hr=>?_)
  ·have:=mA (ρ:=ev tm) hi hm
   rw[ht] at this
   cases this
  ·obtain⟨n',e,e2⟩:=nS hi hr hx
   rw[ht] at e
   exact⟨n',a6 e,e2⟩
 ·intro idx' e r hr x hx
  obtain rfl:idx=idx':=by omega
  rw[ho.1]
  rcases j9.1 hr with rfl|hr
  ·cases hx
  ·exact how idx rfl r hr x hx
def OpGs(C:Ctx)(P:Program)(o:Oper)(s s':TS):Prop:=
 ∀ h0 Fz L tm h,St h0 Fz L s tm h→Rex.pop P (ev tm) o=none∧touch (ev tm) o=none∧∃ v h1,xop C P (ev tm) o h=some (v,h1,none)∧Ext h h1∧∃ Fz' L',Grow h0 Fz Fz' h h1∧St h0 Fz' L' s' (bJ tm o.dst v) h1 ∧
  (∀ n,Fz' n→Fz n∨h.length≤n)∧∀ j b nm,s'.hp[j]?=some b→b.live=true→(L' j).nm=some nm→nm<h.length→s.hp[j]?=some b∧(L j).nm=some nm
theorem OpGs.toG(h:OpGs C P o s s'):OpG C P o s s':=by
 intro h0 Fz L tm hh hs
 obtain⟨h1,-,v,h2,h3,h4,F',L',h5,h6,-,-⟩:=h h0 Fz L tm hh hs
 exact⟨h1,v,h2,h3,h4,F',L',h5,h6⟩
theorem TF.gF{idx:Nat}(hw:twant ops s.tm o=some true)(ho:OpGs C P o s s')(hnp:np.all (fun j=>(aK ms i).testBit j)=true)(hq:TF C P ops ms rest (i+1) (i::np) (idx+2) s' Q):TF C P ops ms (o::rest) i np (idx+2) s Q:=by
 intro h0 Fz L tm h rs b bar wr hl ha hs hwr hf how
 obtain⟨hi,hd⟩:=pR hl
 obtain rfl:bar=none:=by
  cases hb:bar with
  | none=>rfl
  | some q=>have:=(hf.ba q hb).1;omega
 obtain⟨hn,ht,v,h1,hx,he,F1,L1,g1,s1,k1,k2⟩:=ho h0 Fz L tm h hs
 have hrs:∀ r∈rs,(aK ms i).testBit r.i=true:=fun r hr=>c9.1 hnp _ (hf.mem r hr)
 have hex:h++h1.drop h.length=h1:=by obtain⟨t,rfl⟩:=he;simp
 refine TF.act (rs':=⟨i,h.length,h1.length,.all⟩::rs) (b':=b) (bar':=none) (wr':=wr) (np':=i::np) (c':=idx+2) hw hs hl ha hn hx ?_ hwr ?_ ?_ hq g1 s1
 ·unfold gJ
  simp only[rF,if_true,ht]
  rw[a9 ⟨rfl,he.le,show Hj (aK ms i) i rs b=true from c9.2 fun r hr=>by split<;>simp[hrs r hr]⟩,hex]
 ·refine hf.add ha hi (fun h=>by omega) (fun h=>by omega) (fun hm=>?_) (fun t' hr=>?_)
  ·have:=mA (ρ:=ev tm) hi hm
   rw[ht] at this
   cases this
  ·obtain⟨n',e,e2⟩:=nS hi hr hx
   rw[ht] at e
   cases e
 ·intro idx' e r hr x hx
  obtain rfl:idx=idx':=by omega
  rcases j9.1 hr with rfl|hr
  ·cases hx
  ·obtain⟨⟨o1,o2⟩,o3⟩:=how idx rfl r hr x hx
   refine⟨⟨fun hf1=>?_,fun j b' hj hlj hne hjk=>?_⟩,f0 o3 he.le⟩
   ·rcases k1 x hf1 with h|h
    ·exact o1 h
    ·omega
   ·obtain⟨q1,q2⟩:=k2 j b' x hj hlj hjk o3
    exact o2 j b' q1 hlj hne q2
def TD(C:Ctx)(P:Program)(ops:Array Oper)(ms:List Nat)(l:List Oper)(i:Nat)(np:List Nat)(c:Nat)(s:TS)(Q:TS→Prop):Prop:=
 (kN ops=false→TA C P ops ms l i np c s Q)∧(kN ops=true→TF C P ops ms l i np c s Q)
theorem TD.nil(hq:Q s):TD C P ops ms [] i np c s Q:=⟨fun _=>TA.nil hq,fun _=>TF.nil hq⟩
theorem TD.p(hw:twant ops s.tm o=some true)(ho:OpP P o s s')(hq:TD C P ops ms rest (i+1) np c s' Q):TD C P ops ms (o::rest) i np c s Q:=⟨fun h=>TA.p hw ho (hq.1 h),fun h=>TF.p hw ho (hq.2 h)⟩
theorem TD.skip(hw:twant ops s.tm o=some false)(hq:TD C P ops ms rest (i+1) np c ⟨tput s.tm o.dst (.tuple []),s.hp⟩ Q):TD C P ops ms (o::rest) i np c s Q:=⟨fun h=>TA.skip hw (hq.1 h),fun h=>TF.skip hw (hq.2 h)⟩
theorem TD.g(hw:twant ops s.tm o=some true)(ho:OpG C P o s s')(hq:TD C P ops ms rest (i+1) (i::np) 0 s' Q)(hna:Wy o=true:=by rfl):TD C P ops ms (o::rest) i np 0 s Q:=⟨fun h=>TA.g hw ho (hq.1 h),fun h=>TF.m hw (.inl hna) (fun h0 Fz L tm h hs=>.inr (ho h0 Fz L tm h hs)) (hq.2 h)⟩
theorem TD.w(hw:twant ops s.tm o=some true)(ho:OpW C P o s s')(hnp:np.all (fun j=>(aK ms i).testBit j)=true)(hq:TD C P ops ms rest (i+1) (i::np) 1 s' Q):TD C P ops ms (o::rest) i np c s Q:=⟨fun h=>TA.w hw ho hnp (hq.1 h),fun h=>TF.w hw ho hnp (hq.2 h)⟩
theorem TD.weak{l:List Oper}(hc:Nat.ble c 1=true)(hw:Wk s s')(hx:TD C P ops ms l i np c s' Q):TD C P ops ms l i np c s Q:=⟨fun h=>TA.weak hw (hx.1 h),fun h=>TF.weak hc hw (hx.2 h)⟩
theorem TD.apF{n:Nat}(hw:twant ops s.tm o=some true)(ho:OpA C P o s s' n)(hlv:∀ j b',s'.hp[j]?=some b'→b'.live=true→j≠n→∃ b,s.hp[j]?=some b∧b.live=true)(hbn:∃ b,s.hp[n]?=some b∧b.live=true)(hnp:np.all (fun j=>(aK ms i).testBit j)=true)(hq:TD C P ops ms rest (i+1) (i::np) (n+2) s' Q):TD C P ops ms (o::rest) i np 0 s Q:=
 ⟨fun h=>TA.w hw ho.toW hnp (TA.cc (by omega) (hq.1 h)),fun h=>TF.ap hw ho hlv hbn hnp (hq.2 h)⟩
theorem TD.ldF0{t:TypeId}{a:Operand}{idx:Nat}(hnf:kN ops=true)(hw:twant ops s.tm { dst:=dst,op:=.load t a,type:=ty,pos:=pos,after:=aft,guard:=gd }=some true)(hap:apart s.hp idx (tev s.tm a)=true)(ho:OpL C P { dst:=dst,op:=.load t a,type:=ty,pos:=pos,after:=aft,guard:=gd } s s')(hq:TD C P ops ms rest (i+1) (i::np) (idx+2) s' Q) :
 TD C P ops ms ({ dst:=dst,op:=.load t a,type:=ty,pos:=pos,after:=aft,guard:=gd }::rest) i np (idx+2) s Q:=⟨fun h=>by rw[hnf] at h;exact Bool.noConfusion h,fun h=>TF.ld hw hap ho (hq.2 h)⟩
theorem TD.gF{idx:Nat}(hnf:kN ops=true)(hw:twant ops s.tm o=some true)(ho:OpGs C P o s s')(hnp:np.all (fun j=>(aK ms i).testBit j)=true)(hq:TD C P ops ms rest (i+1) (i::np) (idx+2) s' Q):TD C P ops ms (o::rest) i np (idx+2) s Q:=⟨fun h=>by rw[hnf] at h;exact Bool.noConfusion h,fun h=>TF.gF hw ho hnp (hq.2 h)⟩
def okW(ops:Array Oper)(ms:List Nat)(i:Nat)(s:TS)(j:Nat)(np:List Nat):Bool:=
 np.all (fun k=>(aK ms i).testBit k)||((match s.hp[j]? with|some b=>b.live|none=>false)&&(Ft ops (aK ms i) s j np&&kN ops))
theorem TD.apW{n:Nat}(hw:twant ops s.tm o=some true)(ho:OpA C P o s s' n)(hlv:∀ j b',s'.hp[j]?=some b'→b'.live=true→j≠n→∃ b,s.hp[j]?=some b∧b.live=true)(hbn:∃ b,s.hp[n]?=some b∧b.live=true)(hnp:okW ops ms i s n np=true)(hq:TD C P ops ms rest (i+1) (i::np) (n+2) s' Q):TD C P ops ms (o::rest) i np 0 s Q:=by
 unfold okW at hnp
 rcases (Bool.or_eq_true _ _).mp hnp with h|h
 ·exact TD.apF hw ho hlv hbn h hq
 ·simp only[Bool.and_eq_true] at h
  obtain⟨h1,h2,h3⟩:=h
  refine⟨fun h=>?_,fun h=>TF.ap2 hw ho hlv hbn h2 (hq.2 h)⟩
  rw[h3] at h
  cases h
theorem TD.wF{t:TypeId}{a x:Operand}{j r ob:Nat}{hp':List TB}(hw:twant ops s.tm { dst:=none,op:=.store t a x,type:=ty,pos:=pos,after:=aft,guard:=gd }=some true)(ha:tev s.tm a = .lptr j r ob)(ho:OpW C P { dst:=none,op:=.store t a x,type:=ty,pos:=pos,after:=aft,guard:=gd } s ⟨s.tm,hp'⟩)(hnp:okW ops ms i s j np=true)
 (hq:TD C P ops ms rest (i+1) (i::np) 1 ⟨s.tm,hp'⟩ Q):TD C P ops ms ({ dst:=none,op:=.store t a x,type:=ty,pos:=pos,after:=aft,guard:=gd }::rest) i np c s Q:=by
 unfold okW at hnp
 rcases (Bool.or_eq_true _ _).mp hnp with h|h
 ·exact TD.w hw ho h hq
 ·simp only[Bool.and_eq_true] at h
  obtain⟨h1,h2,h3⟩:=h
  refine⟨fun h=>?_,fun h=>TF.st hw ha ho h1 h2 (hq.2 h)⟩
  rw[h3] at h
  cases h
theorem TX.drawn{id:Nat}{l:List Oper}{Q:Exit→TS→Prop}(hok:aDh ops=true)(hl:ops.toList=l)(hm:masks l []=ms)(hr:TD C P ops ms l 0 [] 0 s (fun s'=>Q .normal s')):TX C P (.region id ops true) s Q:=by
 intro h0 Fz L tm h hs
 unfold aDh at hok
 rw[n6] at hok
 cases hnf:kN ops with
 | false =>
  refine XP.drawn (by simp only[yH,hok.1,hnf];rfl) hl hm ?_
  obtain⟨s2,q1,q2,t2,F2,L2,q3,g2,s3⟩:=hr.1 hnf h0 Fz L tm h [] false none hs rfl ⟨fun _=>rfl,fun j hj=>hj⟩
  exact⟨s2,q1,q2,rfl,t2,F2,L2,q3,g2,s3⟩
 | true =>
  have h2:=hok.2
  rw[hnf,Bool.not_true,Bool.false_or] at h2
  obtain⟨s2,q1,q2,q3⟩:=hr.2 hnf h0 Fz L tm h [] h.length none none (by rw[List.drop_zero];exact hl) h2 hs rfl ⟨fun r hr=>by simp at hr,fun r hr=>by simp at hr,fun r hr=>by simp at hr,fun r hr=>by simp at hr,fun _ r hr=>by simp at hr,fun q hq=>by cases hq⟩ (.lo (by decide))
  subst hl
  subst hm
  exact XP.draw (tm':=s2.tm) (h':=s2.h) (wr:=s2.wr) (Nh (by simp only[oD,Ek,hok.1,hnf,Bool.and_self,if_true,q1,Option.map_some])) q2 ⟨rfl,q3⟩
def sR(i:Nat):Nat→TV→Bool
 | 0,_=>false
 | d+1,p=>match p with
  | .lsl n _ _=>n==i
  | .agg l=>l.any (sR i d)
  | .tuple l=>l.any (sR i d)
  | _=>false
def cov(r:TS):Bool:=match r.tm with
 | [p]=>(List.range r.hp.length).all fun i=>sR i 4 p
 | _=>false
theorem Hu{Fz:Nat→Prop}{h:List Blk}{L:Nat→LI}{i:Nat}:∀(d k:Nat) {p:TV} {x:Value},sR i d p=true→VL Fz h L p x→clean k x=true→(L i).ok=true∧(L i).nm=none
 | 0,k,p,x,hr,hp,hc=>by simp[sR] at hr
 | d+1,0,p,x,hr,hp,hc=>by simp[clean] at hc
 | d+1,k+1,p,x,hr,hp,hc=>by
  have key:∀(l:List TV) (l':List Value),l'.length=l.length→l.any (sR i d)=true→l'.all (clean k)=true→(∀(i:Nat) p x,l[i]?=some p→l'[i]?=some x→VL Fz h L p x)→(L i).ok=true∧(L i).nm=none:=by
   intro l l' hl hany hall ha
   obtain⟨p,hp,hr⟩:=List.any_eq_true.1 hany
   obtain⟨j,hj⟩:=j2.1 hp
   have hlt:=(a8.1 hj).1
   have hx:l'[j]?=some l'[j]:=b8 (by omega)
   exact Hu d k hr (ha j _ _ hj hx) (by simpa using c9.1 hall _ (d7 hx))
  cases hp with
  | agg _ l l' hl ha=>exact key l l' hl (by simpa [sR] using hr) (by simpa [clean] using hc) ha
  | tuple _ l l' hl ha=>exact key l l' hl (by simpa [sR] using hr) (by simpa [clean] using hc) ha
  | lslnil _ n ok hn =>
   obtain rfl:n=i:=by simpa [sR] using hr
   exact⟨ok,hn⟩
  | lsl _ n o len nm ok hn hle=>simp[clean] at hc
  | _=>simp[sR] at hr
theorem VL.ofClean{Fz Fz':Nat→Prop}{h h':List Blk}{L L':Nat→LI}(hL:∀ n,(L n).ok=true→(L n).nm=none→(L' n).ok=true∧(L' n).nm=none):∀(k:Nat) {p:TV} {x:Value},clean k x=true→VL Fz h L p x→VL Fz' h' L' p x:=by
 intro k
 induction k generalizing L L' with
 | zero=>intro p x hc;simp[clean] at hc
 | succ k ih =>
  intro p x hc hp
  cases hp with
  | U _ x=>exact .U L' x
  | v _ x hx=>exact .v L' x hx
  | agg _ l l' hl ha =>
   have hc':l'.all (clean k)=true:=by simpa [clean] using hc
   exact .agg L' l l' hl fun i p x h1 h2=>ih hL (by simpa using c9.1 hc' x (d7 h2)) (ha i p x h1 h2)
  | tuple _ l l' hl ha =>
   have hc':l'.all (clean k)=true:=by simpa [clean] using hc
   exact .tuple L' l l' hl fun i p x h1 h2=>ih hL (by simpa using c9.1 hc' x (d7 h2)) (ha i p x h1 h2)
  | func _ f a b a' b' la ha lb hb =>
   have hc':a'.all (clean k)=true∧b'.all (clean k)=true:=by simpa [clean,Bool.and_eq_true] using hc
   have hno:∀ n,(noL n).ok=true→(noL n).nm=none→(noL n).ok=true∧(noL n).nm=none:=fun n h=>by simp[noL] at h
   exact .func L' f a b a' b' la (fun i p x h1 h2=>ih hno (by simpa using c9.1 hc'.1 x (d7 h2)) (ha i p x h1 h2)) lb
    (fun i p x h1 h2=>ih hno (by simpa using c9.1 hc'.2 x (d7 h2)) (hb i p x h1 h2))
  | nillist _ es=>exact .nillist L' es
  | vague _ es=>exact .vague L' es
  | lslnil _ n ok hn =>
   obtain⟨h1,h2⟩:=hL n ok hn
   exact .lslnil L' n h1 h2
  | list=>simp[clean] at hc
  | fptr=>simp[clean] at hc
  | lptr=>simp[clean] at hc
  | lsl=>simp[clean] at hc
theorem St.clean{h0 h:List Blk}{Fz:Nat→Prop}{L:Nat→LI}{r:TS}{v:Value}(hs:St h0 Fz L r [v] h)(hc:bR v=true)(hr:cov r=true){Fz0:Nat→Prop}(h00:FZ Fz0 h0):∃ L',St h0 Fz0 L' r [v] h0:=by
 obtain⟨tm,hp⟩:=r
 unfold cov at hr
 split at hr
 ·rename_i p htm
  simp only at htm
  subst htm
  simp only at hr
  have hv:VL Fz h L p v:=hs.tmr.at' 0 p v rfl rfl
  have hnone:∀ i,i<hp.length→(L i).ok=true∧(L i).nm=none:=fun i hi=>Hu 4 depth (by
   simpa using c9.1 hr i (by simpa using hi)) hv hc
  refine⟨L,⟨VLs.cons (hv.ofClean (fun n h1 h2=>⟨h1,h2⟩) depth hc) VLs.nil,fun n b hb=>?_,hs.dom,fun n n' b b' nm hb hb' _ _ e1 e2=>?_,h00,Ext.refl _⟩⟩
  ·have hlt:=(a8.1 hb).1
   have hB:=hs.blk n b hb
   obtain⟨h1,h2⟩:=hnone n hlt
   cases b with
   | dead=>trivial
   | rows es rows =>
    obtain⟨q1,q2,q3,q4,q5⟩:=hB
    rcases q5 with q5|⟨nm,cs,e1,_⟩
    ·exact⟨q1,q2,q3,q4,.inl q5⟩
    ·rw[h2] at e1;cases e1
   | var row =>
    obtain⟨q1,nm,cs,e1,_⟩:=hB
    rw[h2] at e1;cases e1
  ·have:=hnone n (a8.1 hb).1
   rw[this.2] at e1;cases e1
 ·cases hr
def tres(load:TypeId→TV→Option TV)(tm:List TV):ResultVar→Option TV
 | .tmp t=>some (tnth tm t)
 | .cell a t=>load t (tnth tm a)
def Yn:List TV→TV
 | [p]=>p
 | ps=>.tuple ps
theorem Us{Fz:Nat→Prop}{h:List Blk}{L:Nat→LI}{ps:List TV}{vs:List Value}(hs:VLs Fz h L ps vs):VL Fz h L (Yn ps) (jQ vs):=by
 have hl:=hs.len
 match ps,vs,hl,hs with
 | [p],[v],_,hs=>exact hs.at' 0 p v rfl rfl
 | [],[],_,hs=>exact .tuple' hs
 | a::b::l,a'::b'::l',_,hs=>exact .tuple' hs
end
end Go.Rex
namespace Go.Rex
open Go.RowKit
def okT(P:Program)(t:TypeId):Bool:=(P.info? t).isSome
def dY(P:Program)(t:TypeId):Option TypeId:=match P.underlying t with|some (.slice e)=>some e|_=>none
def uP(P:Program)(t:TypeId):Option (Nat×TypeId):=match P.underlying t with|some (.array n e)=>some (n,e)|_=>none
def nG(P:Program)(t:TypeId)(f:Nat):Option (Nat×TypeId):=match P.underlying t with
 | some (.struct fields)=>match fields[f]? with
  | some fd=>if (P.info? fd.type).isSome=true∧P.cellsOf fd.type≠0 then some (fd.offset,fd.type) else none
  | none=>none
 | _=>none
def tZ(P:Program)(t:TypeId):Option (List (Nat×Nat)):=match P.underlying t with
 | some (.struct fields)=>if fields.all (fun f=>(P.info? f.type).isSome)=true then some (fields.toList.map fun f=>(f.offset,P.cellsOf f.type)) else none
 | _=>none
def Sn(P:Program)(t:TypeId):Option (List Value):=match P.info? t with
 | some i=>match i.zero with
  | some z=>if bR z=true∧z.cells.toList.all sL=true∧z.cells.size=i.size then some z.cells.toList else none
  | none=>none
 | none=>none
def jD(P:Program)(t:TypeId):Option (List Value):=if La P t=true then none else Sn P t
theorem Gn{P:Program}{t:TypeId}{z:List Value}(h:jD P t=some z):La P t=false∧Sn P t=some z:=by
 unfold jD at h
 split at h
 ·cases h
 ·rename_i hs;exact⟨by simpa using hs,h⟩
def mN(P:Program)(t:TypeId):Nat:=match P.info? t with|some i=>i.bytes|none=>0
def tcells:TV→List TV
 | .agg l=>l
 | p=>[p]
def iY:TV→Bool
 | .U=>true
 | _=>false
def tone:TV→Bool
 | .agg _=>false
 | .tuple _=>false
 | .U=>false
 | _=>true
def tsplice(c:List TV)(o:Nat)(l:List TV):List TV:=c.take o++l++c.drop (o+l.length)
def tfill(place:Nat→Option (Nat×Nat)):List TV→List (Nat×TV)→Option (List TV)
 | c,[]=>some c
 | c,(i,p)::ps=>match place i with
  | none=>none
  | some (off,size)=>if iY p=true then none else if (tcells p).length=size∧off+size≤c.length then tfill place (tsplice c off (tcells p)) ps else none
def tbuild(P:Program)(t:TypeId)(parts:List (Nat×TV)):Option TV:=
 match jD P t with
 | none=>none
 | some z=>match tZ P t with
  | some pl=>(tfill (pl[·]?) (z.map .v) parts).map .agg
  | none=>match uP P t with
   | some (_,e)=>if okT P e=true then (tfill (fun k=>some (k*P.cellsOf e,P.cellsOf e)) (z.map .v) parts).map .agg else none
   | none=>none
def dN(P:Program)(t:TypeId)(row:List TV)(o:Nat):Option TV:=
 match rL P t with
 | some true=>if okT P t=true∧o+P.cellsOf t≤row.length then some (.agg ((row.drop o).take (P.cellsOf t))) else none
 | some false=>row[o]?
 | none=>none
def tidx(rows:List (List TV))(i:Int):Option (List TV):=if 0≤i then rows[i.toNat]? else none
def aR(P:Program)(hp:List TB)(t:TypeId)(x ix:TV):Option TV:=
 match ix with
 | .v (.int _ i)=>match dY P t with
  | some e => if okT P e = true then match x with
      | .list es rows=>if P.cellsOf e=es then (tidx rows i).map fun row=>.fptr false row 0 else none
      | .lsl n o len=>match hp[n]? with
       | some (.rows es _)=>if 0≤i∧i<len∧P.cellsOf e=es then some (.lptr n (o+i.toNat) 0) else none
       | _=>none
      | _=>none
   else none
  | none=>match uP P t with
   | some (n, e) => if 0 ≤ i ∧ i < n ∧ okT P e = true then match x with
       | .fptr vb row o=>some (.fptr vb row (o+i.toNat*P.cellsOf e))
       | .lptr b r o=>some (.lptr b r (o+i.toNat*P.cellsOf e))
       | _=>none
    else none
   | none=>none
 | _=>none
def aJ(P:Program)(t:TypeId)(x:TV)(f:Nat):Option TV:=
 match nG P t f with
 | some (off,_)=>match x with
  | .fptr vb row o=>some (.fptr vb row (o+off))
  | .lptr b r o=>some (.lptr b r (o+off))
  | _=>none
 | none=>none
def tfield(P:Program)(t:TypeId)(x:TV)(f:Nat):Option TV:=
 match nG P t f,x with
 | some (off,ft),.agg row=>dN P ft row off
 | _,_=>none
def tindex(P:Program)(t:TypeId)(x ix:TV):Option TV:=
 match uP P t,x,ix with
 | some (n,e),.agg row,.v (.int _ i)=>if 0≤i∧i<n∧okT P e=true then dN P e row (i.toNat*P.cellsOf e) else none
 | _,_,_=>none
def tlen(P:Program)(t:Option TypeId)(x:TV):Option TV:=
 match t with
 | none=>none
 | some t=>match dY P t with
  | none=>none
  | some _=>match x with
   | .list _ rows=>some (.v (.int .i64 rows.length))
   | .lsl _ _ len=>some (.v (.int .i64 len))
   | _=>none
def erased(tm:List TV)(x:Operand):Value:=(er 3 (tev tm x)).getD undef
def tgen(P:Program)(tm:List TV)(o:Oper):Option TV:=
 if o.op.operands.toList.all (fun x=>(er 3 (tev tm x)).isSome)=true then
  match Rex.pop P (erased tm) o with
  | some v=>if qC 3 v=true then some (inj 3 v) else none
  | none=>none
 else none
def orT(a:Option TV)(b:Option TV):Option TV:=match a with|some x=>some x|none=>b
def tpick(c a b:TV):Option TV:=match c with
 | .v (.bool t)=>(match t with|true=>some a|false=>some b)
 | _=>none
def tbin(op:BinOp)(x y:TV):Option TV:=match x,y with
 | .v a,.v b=>(cT op a b).map .v
 | _,_=>none
def tpop(P:Program)(hp:List TB)(tm:List TV)(o:Oper):Option TV:=
 match o.op with
 | .move x=>some (tev tm x)
 | .assign x=>some (tev tm x)
 | .pick c a b=>tpick (tev tm c) (tev tm a) (tev tm b)
 | .nilCheck x=>match tev tm x with
  | .func f a b=>some (.func f a b)
  | .fptr vb r o=>some (.fptr vb r o)
  | .lptr n r o=>some (.lptr n r o)
  | _=>none
 | .build t ps=>tbuild P t (ps.toList.map fun q=>(q.1,tev tm q.2))
 | .makeFunc fn first caps=>match fn with
  | .func f=>if (first.toList.all fun x=>lf 4 (tev tm x))&&(caps.toList.all fun x=>lf 4 (tev tm x)) then some (.func f (first.toList.map (tev tm)) (caps.toList.map (tev tm))) else none
  | _=>none
 | .extract t i=>match tev tm t with
  | .tuple l=>l[i]?
  | _=>none
 | .fieldAddr t x f=>aJ P t (tev tm x) f
 | .indexAddr t x ix=>aR P hp t (tev tm x) (tev tm ix)
 | .field t x f=>tfield P t (tev tm x) f
 | .index t x ix=>orT (tindex P t (tev tm x) (tev tm ix)) (tgen P tm o)
 | .call c=>match c.callee with
  | .builtin b => if b = .len then match c.args.toList with
      | [x]=>orT (tlen P c.argTypes[0]? (tev tm x)) (tgen P tm o)
      | _=>none
   else tgen P tm o
  | _=>none
 | .binOp op _ x y _=>orT (tbin op (tev tm x) (tev tm y)) (tgen P tm o)
 | _=>tgen P tm o
section
variable {P:Program} {Fz:Nat→Prop} {h h0:List Blk} {L:Nat→LI}
theorem Ra{ρ ρ':Operand→Value}{o:Oper}(hx:∀ x∈o.op.operands,ρ x=ρ' x):rB P ρ o=rB P ρ' o:=by
 have e1:o.op.operands.toList.all (fun x=>dX (ρ x))=o.op.operands.toList.all (fun x=>dX (ρ' x)):=by
  rw[Bool.eq_iff_iff,c9,c9]
  exact⟨fun h x hm=>by rw[← hx x (by simpa using hm)];exact h x hm,fun h x hm=>by rw[hx x (by simpa using hm)];exact h x hm⟩
 unfold rB
 rw[e1]
 split
 ·rfl
 ·rename_i hs
  rw[execOp_congr o (fun cs b e=>hs cs b e) hx]
theorem Ep{ρ ρ':Operand→Value}{ps:Array (Nat×Operand)}(hx:∀ x∈(ps.toList.map (·.2)).toArray,ρ x=ρ' x):fT ρ ps=fT ρ' ps:=by
 unfold fT
 apply Array.map_congr_left
 intro p hp
 obtain⟨i,x⟩:=p
 simp only[hx x (by simp;exact⟨i,hp⟩)]
theorem Jp{ρ ρ':Operand→Value}{xs:Array Operand}(hx:∀ x∈xs,ρ x=ρ' x):xs.map ρ=xs.map ρ':=Array.map_congr_left hx
theorem Sg{ρ ρ':Operand→Value}{o:Oper}(hx:∀ x∈o.op.operands,ρ x=ρ' x):Rex.pop0 P ρ o=Rex.pop0 P ρ' o:=by
 have hg:=Ra (P:=P) hx
 obtain⟨dst,op,ty,pos,after,guard⟩:=o
 cases op<;>simp only[Op.operands] at hx<;>simp only[Rex.pop0]<;>try exact hg
 case move x=>rw[hx x (by simp)]
 case assign x=>rw[hx x (by simp)]
 case pick c a b=>rw[hx c (by simp),hx a (by simp),hx b (by simp)]
 case build t ps=>rw[Ep hx]
 case nilCheck x=>rw[hx x (by simp)]
 case sliceToArrayPointer t x=>rw[hx x (by simp)]
 case binOp op t x y u=>rw[hx x (by simp),hx y (by simp)];simp only[qE,hg]
 case makeFunc fn a b=>rw[Jp (xs:=a) fun x hm=>hx x (by simp[hm]),Jp (xs:=b) fun x hm=>hx x (by simp[hm])]
 case fieldAddr t x f=>rw[hx x (by simp)]
 case field t x f=>rw[hx x (by simp)]
 case indexAddr t x ix=>rw[hx x (by simp),hx ix (by simp)]
 case index t x ix=>rw[hx x (by simp),hx ix (by simp)];simp only[qE,hg]
 case extract t i=>rw[hx t (by simp)]
 case call c =>
  obtain⟨callee,args,tys⟩:=c
  unfold bpop
  cases callee with
  | builtin b =>
   simp only
   split
   ·split
    ·rename_i x hxs
     rw[hx x (by
      have:x∈args.toList:=by rw[hxs];simp
      simp[Call.operands];exact by simpa using this)];simp only[qE,hg]
    ·rfl
   ·exact hg
  | _=>rfl
theorem Qt{ρ ρ':Operand→Value}{o:Oper}(hx:∀ x∈o.op.operands,ρ x=ρ' x):Az P ρ o=Az P ρ' o:=by
 obtain⟨dst,op,ty,pos,after,guard⟩:=o
 cases op<;>simp only[Op.operands] at hx<;>simp only[Az]
 case binOp op t x y u=>rw[hx x (by simp),hx y (by simp)]
 case unOp op t x=>rw[hx x (by simp)]
 case convert s d x=>rw[hx x (by simp)]
 case call c =>
  obtain⟨callee,args,tys⟩:=c
  cases callee with
  | builtin b =>
   simp only
   congr 1
   exact k6 fun x hm=>hx x (by simp[Call.operands];simpa using hm)
  | _=>rfl
theorem Wn{ρ ρ':Operand→Value}{o:Oper}(hx:∀ x∈o.op.operands,ρ x=ρ' x):Rex.pop P ρ o=Rex.pop P ρ' o:=by
 unfold Rex.pop
 rw[Sg hx,Qt hx]
theorem Rz{tm:List TV}{vm:List Value}(hz:FZ Fz h)(hs:VLs Fz h L tm vm){o:Oper}{p:TV}(hp:tgen P tm o=some p):∃ v,Rex.pop P (ev vm) o=some v∧VL Fz h L p v:=by
 unfold tgen at hp
 split at hp
 ·rename_i hall
  have hx:∀ x∈o.op.operands,ev vm x=erased tm x:=by
   intro x hm
   have h1:=c9.1 hall x (by simpa using hm)
   obtain⟨y,hy⟩:=Option.isSome_iff_exists.1 h1
   rw[(dJ hz hs x).er 3 hy,erased,hy]
   rfl
  rw[Wn hx]
  split at hp
  ·rename_i v hv
   split at hp
   ·rename_i hi
    obtain rfl:=a6 hp
    exact⟨v,hv,VL.inj 3 hi⟩
   ·cases hp
  ·cases hp
 ·cases hp
theorem tH{p:TV}{x:Value}(hp:VL Fz h L p x)(hj:iY p=false):VLs Fz h L (tcells p) x.cells.toList:=by
 have one:∀ q y,VL Fz h L q y→VLs Fz h L [q] [y]:=fun q y hq=>VLs.cons hq VLs.nil
 cases hp with
 | U=>simp[iY] at hj
 | v _ x hx =>
  have:x.cells.toList=[x]:=by
   cases x<;>first|rfl|(simp[sL] at hx)
  rw[this]
  exact one _ _ (.v L x hx)
 | agg _ l l' hl ha=>exact⟨hl,ha⟩
 | tuple _ l l' hl ha=>exact one _ _ (.tuple L l l' hl ha)
 | func _ f a b a' b' la ha lb hb=>exact one _ _ (.func L f a b a' b' la ha lb hb)
 | nillist _ es=>exact one _ _ (.nillist L es)
 | vague _ es=>exact one _ _ (.vague L es)
 | list _ es rows n o c cs eb hn hb he hw hc hle ha=>exact one _ _ (.list L es rows n o c cs eb hn hb he hw hc hle ha)
 | fptr _ vb row off n base es cs hn hb hv hle ha=>exact one _ _ (.fptr L vb row off n base es cs hn hb hv hle ha)
 | lptr _ n r o nm ok hn=>exact one _ _ (.lptr L n r o nm ok hn)
 | lslnil _ n ok hn=>exact one _ _ (.lslnil L n ok hn)
 | lsl _ n o len nm ok hn hle=>exact one _ _ (.lsl L n o len nm ok hn hle)
theorem pA:∀(l:List Value) (k:Nat) (off:Nat) (c:Array Value),off+k+l.length≤c.size →
 ((l.zipIdx k).foldl (fun (cs:Array Value) (x:Value×Nat)=>cs.setIfInBounds (off+x.2) x.1) c).toList=splice c.toList (off+k) l
 | [],k,off,c,_=>by simp[splice]
 | v::l,k,off,c,hle=>by
  simp only[List.zipIdx_cons,List.foldl_cons]
  rw[pA l (k+1) off _ (by simp at hle ⊢;omega)]
  simp only[Array.toList_setIfInBounds]
  simp only[List.length_cons] at hle
  have hlt:off+k<c.toList.length:=by simp;omega
  have hl1:off+(k+1)+l.length≤(c.toList.set (off+k) v).length:=by simp;omega
  have hl2:off+k+(v::l).length≤c.toList.length:=by simp;omega
  apply j8
  intro i
  by_cases h1:off+(k+1)≤i∧i<off+(k+1)+l.length
  ·rw[tT hl1 h1.1 h1.2,tT hl2 (by omega) (by simp;omega)]
   rw[show i-(off+k)=(i-(off+(k+1)))+1 by omega,List.getElem?_cons_succ]
  ·rw[uA hl1 (by omega)]
   by_cases h2:i=off+k
   ·subst h2
    rw[tT hl2 (b7 _) (by simp),e9 hlt]
    simp
   ·rw[uA hl2 (by simp;omega),d8 (by omega)]
theorem Bw{c l:List TV}{c' l':List Value}(hc:VLs Fz h L c c')(hl:VLs Fz h L l l')(o:Nat):VLs Fz h L (tsplice c o l) (splice c' o l'):=by
 unfold tsplice splice
 rw[hl.len]
 have h1:=hc.extract 0 o
 have h2:VLs Fz h L (c.drop (o+l.length)) (c'.drop (o+l.length)):=by
  have:=hc.extract (o+l.length) c.length
  rw[j4 (by simp),j4 (by simp[hc.len])] at this
  exact this
 simp only[List.drop_zero] at h1
 exact (h1.append hl).append h2
structure PLs(Fz:Nat→Prop)(h:List Blk)(L:Nat→LI)(ps:List (Nat×TV))(ps':List (Nat×Value)):Prop where
 len:ps'.length=ps.length
 at':∀(i:Nat) p p',ps[i]?=some p→ps'[i]?=some p'→p'.1=p.1∧VL Fz h L p.2 p'.2
theorem wG{place:Nat→Option (Nat×Nat)}:∀(ps:List (Nat×TV)) (ps':List (Nat×Value)) (c:List TV) (c':Array Value) (r:List TV),PLs Fz h L ps ps'→VLs Fz h L c c'.toList→tfill place c ps=some r →
 ∃ r',Instr.fill place c' ps'=some r'∧VLs Fz h L r r'.toList
 | [],ps',c,c',r,hp,hc,hf=>by
  have:ps'=[]:=by have:=hp.len;simpa using this
  subst this
  simp[tfill] at hf
  subst hf
  exact⟨c',rfl,hc⟩
 | (i,v)::ps,ps',c,c',r,hp,hc,hf=>by
  obtain⟨p',rest,rfl⟩:∃ v' rest,ps'=v'::rest:=by
   have h1:=hp.len
   cases ps' with
   | nil=>simp at h1
   | cons a b=>exact⟨a,b,rfl⟩
  obtain⟨i',v'⟩:=p'
  obtain⟨e1,hv⟩:=hp.at' 0 _ _ rfl rfl
  simp only at e1 hv
  subst e1
  have hs:PLs Fz h L ps rest:=⟨by have:=hp.len;simpa using this,fun i x x' h h'=>hp.at' (i+1) _ _ (by simpa using h) (by simpa using h')⟩
  simp only[tfill] at hf
  simp only[Instr.fill]
  split at hf
  ·cases hf
  ·rename_i off size hpl
   split at hf
   ·cases hf
   ·rename_i hj
    split at hf
    ·rename_i hcond
     have hcv:=tH hv (by simpa using hj)
     have hsz:v'.cells.size=size:=by have:=hcv.len;simp at this;omega
     have hcs:c'.size=c.length:=by have:=hc.len;simpa using this
     simp only[hpl]
     rw[b6 (by simp[hsz];omega)]
     refine wG ps rest _ _ r hs ?_ hf
     have:=pA v'.cells.toList 0 off c' (by simp;omega)
     simp only[← Array.foldl_toList,Array.toList_zipIdx]
     rw[this]
     exact Bw hc hcv off
    ·cases hf
theorem pW{t:TypeId}{z:List Value}(hz:jD P t=some z):∃ i z0,P.info? t=some i∧i.zero=some z0∧bR z0=true∧z0.cells.toList=z∧z.length=i.size∧∀ x∈z,sL x=true:=by
 replace hz:=(Gn hz).2
 unfold Sn at hz
 split at hz
 ·rename_i i hi
  split at hz
  ·rename_i z0 hz0
   split at hz
   ·rename_i hc
    obtain rfl:=a6 hz
    exact⟨i,z0,hi,hz0,hc.1,rfl,by simpa using hc.2.2,fun x hx=>by simpa using c9.1 hc.2.1 x hx⟩
   ·cases hz
  ·cases hz
 ·cases hz
theorem zP{z:List Value}(hz:∀ x∈z,sL x=true):VLs Fz h L (z.map .v) z:=
 ⟨by simp,fun i p x hp hx=>by
  rw[e8,hx] at hp
  obtain rfl:=a6 hp
  exact .v L x (hz x (d7 hx))⟩
theorem Jy{t:TypeId}{ps:List (Nat×TV)}{ps':Array (Nat×Value)}{p:TV}(hp:PLs Fz h L ps ps'.toList)(hb:tbuild P t ps=some p):∃ v,yX P t ps'=some v∧VL Fz h L p v:=by
 unfold tbuild at hb
 split at hb
 ·cases hb
 ·rename_i z hz
  obtain⟨i,z0,hi,hz0,hcl,rfl,hsz,hat⟩:=pW hz
  split at hb
  ·rename_i pl hpl
   unfold tZ at hpl
   split at hpl
   ·rename_i fields hu
    split at hpl
    ·rename_i hall
     obtain rfl:=a6 hpl
     obtain⟨r,hr,rfl⟩:=d9.1 hb
     obtain⟨r',h1,h2⟩:=wG ps ps'.toList _ z0.cells r hp (zP hat) hr
     refine⟨.agg r',?_,.agg' h2⟩
     unfold yX
     simp only[hi,hz0,hcl,if_true,hu]
     have e:((fields.map fun f=>(f.offset,P.cellsOf f.type))[·]?:Nat→Option (Nat×Nat))=((fields.toList.map fun f=>(f.offset,P.cellsOf f.type))[·]?:Nat→Option (Nat×Nat)):=by
      funext k;simp
     rw[e,h1]
     simp only[Option.bind_some]
     rw[a9 hall]
    ·cases hpl
   ·cases hpl
  ·split at hb
   ·rename_i n e ha
    unfold uP at ha
    split at ha
    ·rename_i n' e' hu
     obtain⟨rfl,rfl⟩:=Prod.mk.inj (a6 ha)
     split at hb
     ·rename_i hok
      obtain⟨r,hr,rfl⟩:=d9.1 hb
      obtain⟨r',h1,h2⟩:=wG ps ps'.toList _ z0.cells r hp (zP hat) hr
      refine⟨.agg r',?_,.agg' h2⟩
      unfold yX
      simp only[hi,hz0,hcl,if_true,hu]
      rw[h1]
      simp only[Option.bind_some]
      exact a9 hok
     ·cases hb
    ·cases ha
   ·cases hb
end
end Go.Rex
namespace Go.Rex
open Go.RowKit
section
variable {P:Program} {Fz:Nat→Prop} {h h0:List Blk} {L:Nat→LI}
theorem Ab:∀ {rows:List (List TV)} {es:Nat},(∀ r∈rows,r.length=es)→∀ {i j:Nat} {row:List TV},rows[i]?=some row→j<es→rows.flatten[i*es+j]?=row[j]?
 | [],es,_,i,j,row,hr,_=>by simp at hr
 | r::rows,es,hw,0,j,row,hr,hj=>by
  simp at hr
  subst hr
  have:=hw r (by simp)
  simp only[List.flatten_cons,Nat.zero_mul,Nat.zero_add]
  rw[d4 (by omega)]
 | r::rows,es,hw,i+1,j,row,hr,hj=>by
  have h1:=hw r (by simp)
  simp only[List.getElem?_cons_succ] at hr
  simp only[List.flatten_cons]
  rw[d6 (by rw[h1,Nat.succ_mul];omega),h1,show (i+1)*es+j-es=i*es+j by rw[Nat.succ_mul];omega]
  exact Ab (fun r hr=>hw r (by simp[hr])) hr hj
theorem jV:∀ {rows:List (List TV)} {es:Nat},(∀ r∈rows,r.length=es)→rows.flatten.length=rows.length*es
 | [],es,_=>by simp
 | r::rows,es,hw=>by
  simp only[List.flatten_cons,List.length_append,List.length_cons,Nat.succ_mul]
  rw[hw r (by simp),jV (fun r hr=>hw r (by simp[hr]))]
  omega
theorem Ck{t:TypeId}{l:List TV}{l':List Value}(hs:VLs Fz h L l l'){o:Nat}{p:TV}(hp:dN P t l o=some p):∃ v,Hz P t l' o=some v∧VL Fz h L p v:=by
 unfold dN at hp
 unfold Hz
 split at hp
 ·rename_i hg
  split at hp
  ·rename_i hc
   obtain rfl:=a6 hp
   rw[hg]
   simp only
   rw[a9 (show (P.info? t).isSome=true from hc.1)]
   exact⟨_,rfl,.agg' (hs.extract _ _)⟩
  ·cases hp
 ·rename_i hg
  rw[hg]
  exact hs.at hp
 ·cases hp
theorem Sr{hpp:List TB}{tm:List TV}{vm:List Value}(hz:FZ Fz h)(hs:VLs Fz h L tm vm)(hB:∀ n es rows,hpp[n]?=some (.rows es rows)→(L n).es=es){o:Oper}{p:TV}(hp:tpop P hpp tm o=some p):∃ v,Rex.pop P (ev vm) o=some v∧VL Fz h L p v:=by
 have hgen:∀ {p},tgen P tm o=some p→∃ v,Rex.pop P (ev vm) o=some v∧VL Fz h L p v:=fun hp=>Rz hz hs hp
 obtain⟨dst,op,ty,pos,after,guard⟩:=o
 have ht:=fun x=>dJ hz hs x
 have hor:∀ {a b:Option TV} {p},orT a b=some p→a=some p∨b=some p:=by
  intro a b p h
  cases a with
  | none=>exact .inr h
  | some x=>exact .inl h
 cases op<;>simp only[tpop] at hp<;>try exact hgen hp
 case move x=>obtain rfl:=a6 hp;exact⟨_,rfl,ht x⟩
 case assign x=>obtain rfl:=a6 hp;exact⟨_,rfl,ht x⟩
 case pick c a b =>
  unfold tpick at hp
  split at hp
  ·rename_i t hc
   have h1:=ht c
   rw[hc] at h1
   have h2:=h1.bool_inv
   simp only[Rex.pop,Rex.pop0,h2]
   cases t with
   | true=>obtain rfl:=a6 hp;exact⟨_,rfl,ht a⟩
   | false=>obtain rfl:=a6 hp;exact⟨_,rfl,ht b⟩
  ·cases hp
 case nilCheck x =>
  have h1:=ht x
  simp only[Rex.pop,Rex.pop0]
  generalize tev tm x=q at *
  generalize ev vm x=y at *
  split at hp
  ·obtain rfl:=a6 hp
   refine⟨y,?_,h1⟩
   cases h1;rfl
  ·obtain rfl:=a6 hp
   refine⟨y,?_,h1⟩
   cases h1;rfl
  ·obtain rfl:=a6 hp
   refine⟨y,?_,h1⟩
   cases h1;rfl
  ·cases hp
 case build t ps =>
  suffices H:∃ v,yX P t (fT (ev vm) ps)=some v∧VL Fz h L p v by
   obtain⟨v,k1,k2⟩:=H
   exact⟨v,Tu k1,k2⟩
  refine Jy (ps':=fT (ev vm) ps) ⟨by simp[fT],fun i p p' h1 h2=>?_⟩ hp
  simp only[fT,Array.toList_map,List.getElem?_map] at h1 h2
  cases hq:ps.toList[i]? with
  | none=>rw[hq] at h1;cases h1
  | some q =>
   rw[hq] at h1 h2
   simp only[Option.map_some,Option.some.injEq] at h1 h2
   subst h1 h2
   exact⟨rfl,ht q.2⟩
 case makeFunc fn first caps =>
  cases fn<;>simp only[] at hp<;>try (cases hp;done)
  rename_i f
  split at hp
  ·rename_i hc
   simp only[Bool.and_eq_true] at hc
   obtain rfl:=a6 hp
   refine⟨_,rfl,?_⟩
   have key:∀ xs:Array Operand,(xs.toList.all fun x=>lf 4 (tev tm x))=true→VLs Fz h noL (xs.toList.map (tev tm)) (xs.map (ev vm)).toList:=by
    intro xs hx
    refine⟨by simp,fun i p y h1 h2=>?_⟩
    simp only[Array.toList_map,List.getElem?_map] at h1 h2
    cases hq:xs.toList[i]? with
    | none=>rw[hq] at h1;cases h1
    | some q =>
     rw[hq] at h1 h2
     simp only[Option.map_some,Option.some.injEq] at h1 h2
     subst h1 h2
     exact (ht q).toNo 4 (by simpa using c9.1 hx q (d7 hq))
   have k1:=key first hc.1
   have k2:=key caps hc.2
   exact .func L f _ _ _ _ k1.len k1.at' k2.len k2.at'
  ·cases hp
 case extract t i =>
  split at hp
  ·rename_i l hl
   have h1:=ht t
   rw[hl] at h1
   simp only[Rex.pop,Rex.pop0]
   generalize ev vm t=y at *
   cases h1 with
   | tuple _ _ l' hl' ha =>
    have hi:=(a8.1 hp).1
    have hx:l'[i]?=some l'[i]:=b8 (by omega)
    exact⟨_,by simp only[hx],ha i p _ hp hx⟩
  ·cases hp
 case fieldAddr t x f =>
  unfold aJ nG at hp
  have h1:=ht x
  simp only[Rex.pop,Rex.pop0,tX]
  split at hp
  ·rename_i off ft hf
   split at hf
   ·rename_i fields hu
    split at hf
    ·rename_i fd hfd
     split at hf
     ·rename_i hc
      obtain⟨rfl,rfl⟩:=Prod.mk.inj (a6 hf)
      generalize tev tm x=q at *
      generalize ev vm x=y at *
      split at hp
      ·obtain rfl:=a6 hp
       cases h1 with
       | fptr _ vb row' off' n base es cs hn hb hv hle ha =>
        simp only[hu,hfd]
        rw[a9 hc]
        exact⟨_,rfl,by rw[i5];exact .fptr L _ _ _ n base es cs hn hb hv hle ha⟩
      ·obtain rfl:=a6 hp
       cases h1 with
       | lptr _ n' r' o' nm ok hn =>
        simp only[hu,hfd]
        rw[a9 hc]
        exact⟨_,rfl,by rw[i5];exact .lptr L _ _ _ nm ok hn⟩
      ·cases hp
     ·cases hf
    ·cases hf
   ·cases hf
  ·cases hp
 case indexAddr t x ix =>
  unfold aR at hp
  have h1:=ht x
  have h2:=ht ix
  simp only[Rex.pop,Rex.pop0,uQ]
  split at hp
  ·rename_i k i hix
   rw[hix] at h2
   have h3:=h2.bool_inv
   generalize tev tm x=q at *
   generalize ev vm x=y at *
   split at hp
   ·rename_i e he
    unfold dY at he
    split at he
    ·rename_i e' hu
     obtain rfl:=a6 he
     split at hp
     ·rename_i hok
      split at hp
      ·rename_i es rows
       split at hp
       ·rename_i hes
        obtain⟨row,hrow,rfl⟩:=d9.1 hp
        unfold tidx at hrow
        split at hrow
        ·rename_i h0
         have hlt:=(a8.1 hrow).1
         cases h1 with
         | nillist=>simp at hrow
         | vague=>simp at hrow
         | list _ _ _ n o c cs eb hn hb he hw hc hle ha =>
          simp only[hu,h3]
          rw[a9 ⟨h0,by omega,hok⟩]
          have hrl:=hw row (d7 hrow)
          refine⟨_,rfl,?_⟩
          rw[hes]
          have hmul:i.toNat*es+es≤rows.length*es:=by rw[← Nat.succ_mul];exact g7 _ hlt
          have:=VL.fptr (Fz:=Fz) (h:=h) L false row 0 n (o+i.toNat*es) eb cs hn hb (fun h=>by cases h) (by omega) (fun j p x hj hx=>by
           have hjl:=(a8.1 hj).1
           refine ha (i.toNat*es+j) p x ?_ (by rw[← i5];exact hx)
           rw[Ab hw hrow (by omega)];exact hj)
          simpa using this
        ·cases hrow
       ·cases hp
      ·rename_i n o len
       split at hp
       ·rename_i es rows hbn
        split at hp
        ·rename_i hi
         obtain rfl:=a6 hp
         cases h1 with
         | lslnil=>simp at hi;omega
         | lsl _ _ _ _ nm ok hn hle =>
          simp only[hu,h3]
          rw[a9 ⟨hi.1,hi.2.1,hok⟩]
          refine⟨_,rfl,?_⟩
          have he:=hB _ _ _ hbn
          have:=VL.lptr (Fz:=Fz) (h:=h) L n (o+i.toNat) 0 nm ok hn
          rw[he] at this ⊢
          rw[hi.2.2,← Nat.add_mul]
          exact this
        ·cases hp
       ·cases hp
      ·cases hp
     ·cases hp
    ·cases he
   ·rename_i he
    split at hp
    ·rename_i n e ha
     unfold uP at ha
     split at ha
     ·rename_i n' e' hu
      obtain⟨rfl,rfl⟩:=Prod.mk.inj (a6 ha)
      split at hp
      ·rename_i hi
       split at hp
       ·obtain rfl:=a6 hp
        cases h1 with
        | fptr _ _ row off' nn base es cs hn hb hv hle hh =>
         simp only[hu,h3]
         rw[a9 (show 0≤i∧i<((n':Nat):Int)∧(P.info? e').isSome=true from hi)]
         exact⟨_,rfl,by rw[i5];exact .fptr L _ _ _ nn base es cs hn hb hv hle hh⟩
       ·obtain rfl:=a6 hp
        cases h1 with
        | lptr _ nn r o nm ok hn =>
         simp only[hu,h3]
         rw[a9 (show 0≤i∧i<((n':Nat):Int)∧(P.info? e').isSome=true from hi)]
         exact⟨_,rfl,by rw[i5];exact .lptr L _ _ _ nm ok hn⟩
       ·cases hp
      ·cases hp
     ·cases ha
    ·cases hp
  ·cases hp
 case field t x f =>
  unfold tfield nG at hp
  have h1:=ht x
  simp only[Rex.pop,Rex.pop0,Jw]
  split at hp
  ·rename_i off ft row hf hx
   rw[hx] at h1
   generalize ev vm x=y at *
   split at hf
   ·rename_i fields hu
    split at hf
    ·rename_i fd hfd
     split at hf
     ·rename_i hc
      obtain⟨rfl,rfl⟩:=Prod.mk.inj (a6 hf)
      cases h1 with
      | agg _ _ l' hl ha =>
       simp only[hu,hfd]
       obtain⟨v,k1,k2⟩:=Ck (P:=P) ⟨hl,ha⟩ hp
       exact⟨v,by simp only[k1],k2⟩
     ·cases hf
    ·cases hf
   ·cases hf
  ·cases hp
 case index t x ix =>
  rcases hor hp with hp|hp
  ·unfold tindex at hp
   have h1:=ht x
   have h2:=ht ix
   split at hp
   ·rename_i n e row k i ha hx hix
    rw[hx] at h1
    rw[hix] at h2
    have h3:=h2.bool_inv
    split at hp
    ·rename_i hi
     unfold uP at ha
     split at ha
     ·rename_i n' e' hu
      obtain⟨rfl,rfl⟩:=Prod.mk.inj (a6 ha)
      simp only[Rex.pop,Rex.pop0,h3]
      generalize ev vm x=y at *
      cases h1 with
      | agg _ _ l' hl hh =>
       obtain⟨v,h4,h5⟩:=Ck (P:=P) ⟨hl,hh⟩ hp
       refine⟨v,?_,h5⟩
       simp only[Lg,hu]
       rw[a9 (show 0≤i∧i<((n':Nat):Int)∧(P.info? e').isSome=true from hi),h4]
       rfl
     ·cases ha
    ·cases hp
   ·cases hp
  ·exact hgen hp
 case call c =>
  obtain⟨callee,args,tys⟩:=c
  cases callee with
  | builtin b =>
   simp only at hp
   split at hp
   ·rename_i hb
    subst hb
    split at hp
    ·rename_i x hxs
     rcases hor hp with hp|hp
     ·unfold tlen at hp
      have h1:=ht x
      split at hp
      ·cases hp
      ·rename_i t htt
       split at hp
       ·cases hp
       ·rename_i e he
        unfold dY at he
        split at he
        ·rename_i e' hu
         simp only[Rex.pop,Rex.pop0,bpop,if_true,hxs]
         generalize tev tm x=q at *
         generalize ev vm x=y at *
         split at hp
         ·obtain rfl:=a6 hp
          cases h1 with
          | nillist=>exact⟨.int .i64 0,by simp[Sx,htt,hu,qE],.v L _ rfl⟩
          | vague=>exact⟨.int .i64 0,by simp[Sx,htt,hu,qE,vag],.v L _ rfl⟩
          | list _ _ _ n o c cs eb hn hb he hw hc hle ha=>exact⟨_,by simp only[Sx,htt,hu,qE],.v L _ rfl⟩
         ·obtain rfl:=a6 hp
          cases h1 with
          | lslnil=>exact⟨.int .i64 0,by simp[Sx,htt,hu,qE],.v L _ rfl⟩
          | lsl _ _ _ _ nm ok hn hle=>exact⟨_,by simp only[Sx,htt,hu,qE],.v L _ rfl⟩
         ·cases hp
        ·cases he
     ·exact hgen hp
    ·cases hp
   ·exact hgen hp
  | _=>cases hp
 case binOp op t x y u =>
  rcases hor hp with hp|hp
  ·unfold tbin at hp
   split at hp
   ·rename_i a b hx hy
    obtain⟨r,hr,rfl⟩:=d9.1 hp
    have h1:=ht x
    have h2:=ht y
    rw[hx] at h1
    rw[hy] at h2
    have e1:=h1.bool_inv
    have e2:=h2.bool_inv
    refine⟨r,by simp[Rex.pop,Rex.pop0,e1,e2,hr,qE],.v L r ?_⟩
    unfold cT at hr
    split at hr
    ·split at hr
     ·cases op <;> simp only [] at hr <;> first
        | (cases hr;done)
        | (obtain rfl:=a6 hr;rfl)
        | (split at hr
           ·cases hr
           ·obtain rfl:=a6 hr;rfl)
     ·cases hr
    ·cases hr
   ·cases hp
  ·exact hgen hp
 all_goals first|(cases hp;done)|exact hgen hp
theorem St.es{s:TS}{tm:List Value}(hs:St h0 Fz L s tm h):∀ n es rows,s.hp[n]?=some (.rows es rows)→(L n).es=es:=fun n _ _ hb=>(hs.blk n _ hb).2.1
theorem OpP.of{o:Oper}{s:TS}{p:TV}(hp:tpop P s.hp s.tm o=some p):OpP P o s ⟨tput s.tm o.dst p,s.hp⟩:=by
 refine⟨rfl,fun h0 Fz L tm h hs=>?_⟩
 obtain⟨v,h1,h2⟩:=Sr hs.fz hs.tmr hs.es hp
 exact⟨v,h1,hs.put o.dst h2⟩
end
end Go.Rex
