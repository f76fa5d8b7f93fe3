/- An executor of the program's functions on trees of values,proved sound. -/
import Derived.Test.YtdlghpacmamnfaaRexG5
import Derived.Test.YtdlghpacmamnfaaRexG4
set_option linter.unusedSimpArgs false
set_option linter.unusedVariables false
set_option linter.defProp false
namespace Go.Rex.Free
open Go.RowKit
section
variable {C:Ctx} {P:Program} {ops:Array Oper} {ms:List Nat} {tm0:List Value} {h0:List Blk} (T:Trace C P ops ms tm0 h0) (B lo:Nat) (D:Nat→Prop) (m0:NMap) (w0:World) (a0:Act)
def Dm(i:Nat):Nat→Prop:=fun n=>D n∨∃ j,(j=i∨(aC ms i).testBit j=true)∧T.ln j≤n∧n<T.ln (j+1)
def Dp(i:Nat):Nat→Prop:=fun n=>D n∨∃ j,(aC ms i).testBit j=true∧T.ln j≤n∧n<T.ln (j+1)
structure Tm(listed:Array Bool)(a:Act)(m:NMap):Prop where
 df:a.defers=a0.defers
 len:a.tmps.toList.length=tm0.length
 new:∀(i:Nat) (o:Oper) (t:Tmp) (v':Value),ops[i]?=some o→Ls listed i→o.dst=some t→a.tmps.toList[t]?=some v'→VR (Dm T D i) m (T.V i) v'
 old:∀(t:Tmp) (v v':Value),(∀(i:Nat) (o:Oper),ops[i]?=some o→Ls listed i→o.dst≠some t)→tm0[t]?=some v→a.tmps.toList[t]?=some v'→VR D m v v'
inductive At (b:Nat) (listed:Array Bool) (n:Nat) (x:Blk):(Nat→Prop)→Prop
 | old (h1:Dx D h0.length (T.ln b) n) (h2:∀ k,b≤k→k<ops.size→Ls listed k→¬ T.Tch k n) (h3:(T.St b).h[n]?=some x):At b listed n x (Dx D h0.length (T.ln b))
 | cur (j:Nat) (h1:b≤j) (h2:j<ops.size) (h3:Ls listed j) (h4:T.Tch j n) (h5:∀ k,b≤k→k<ops.size→Ls listed k→T.Tch k n→k≤j) (h6:(T.St (j+1)).h[n]?=some x):At b listed n x (Dm T D j)
structure HA(b:Nat)(listed:Array Bool)(w:World)(m:NMap):Prop where
 bsz:b≤ops.size
 bar:b=0∨∃ q,b=q+1∧T.kd q = .ch∧Ls listed q
 noc:∀ i,b≤i→i<ops.size→Ls listed i→T.kd i ≠ .ch
 ok:∀ n x S,At T D b listed n x S→BlkOk S m w n x
 lt:∀ n x S,At T D b listed n x S→x ≠ .dead→(m n).block<w.heap.size
 base:∀ n x S,At T D b listed n x S→lo≤n→x ≠ .dead→B≤(m n).block
 low:∀ n x S,At T D b listed n x S→n<lo→x ≠ .dead→(m n).block<B
 own:∀ n x S,At T D b listed n x S→lo≤n→Owns m w n x
 inj:∀ n x S n' x' S',At T D b listed n x S→At T D b listed n' x' S'→lo≤n→lo≤n'→x ≠ .dead→x' ≠ .dead→(m n).block=(m n').block→n=n'
structure Inv(listed:Array Bool)(a:Act)(w:World)(m:NMap):Prop where
 size:listed.size=ops.size
 down:∀ i j,Ls listed i→(aC ms i).testBit j=true→Ls listed j
 agree:∀ n,D n→m n=m0 n
 tmps:Tm T D a0 listed a m
 below:Below B w0 w
 wrd:∀ k n,k<ops.size→Ls listed k→wrK (T.kd k)=some n→Dp T D k n
 heap:∃ b,HA T B lo D b listed w m
end
section
variable {C:Ctx} {P:Program} {ops:Array Oper} {ms:List Nat} {tm0:List Value} {h0:List Blk} {T:Trace C P ops ms tm0 h0} {B lo:Nat} {D:Nat→Prop} {m0:NMap} {w0:World} {a0:Act}
variable {listed:Array Bool} {a:Act} {w:World} {m:NMap}
theorem Inv.still(hI:Inv T B lo D m0 w0 a0 listed a w m){w':World}(h:Still w w'):Inv T B lo D m0 w0 a0 listed a w' m:=by
 obtain⟨k,rfl⟩:=h
 have hs:Still w { w with drawn:=k }:=⟨k,rfl⟩
 obtain⟨b,hA⟩:=hI.heap
 exact⟨hI.size,hI.down,hI.agree,hI.tmps,hI.below.trans (hs.below B),hI.wrd,b,hA.bsz,hA.bar,hA.noc,fun n x S h=>(hA.ok n x S h).keep fun _=>rfl,hA.lt,hA.base,hA.low,fun n x S h hl=>(hA.own n x S h hl).keep fun _=>rfl,hA.inj⟩
theorem Dm.of_pred(F:RegF ops ms){i j n:Nat}(hj:(aC ms i).testBit j=true)(h:Dm T D j n):Dp T D i n:=by
 rcases h with h|⟨k,hk,h1⟩
 ·exact .inl h
 ·rcases hk with rfl|hk
  ·exact .inr ⟨k,hj,h1⟩
  ·exact .inr ⟨k,F.trans i j k hj hk,h1⟩
theorem Dp.dm{i n:Nat}(h:Dp T D i n):Dm T D i n:=by
 rcases h with h|⟨k,hk,h1⟩
 ·exact .inl h
 ·exact .inr ⟨k,.inr hk,h1⟩
theorem Tm.slot(F:RegF ops ms)(hT:Tm T D a0 listed a m)(hdown:∀ i j,Ls listed i→(aC ms i).testBit j=true→Ls listed j){i:Nat}{o:Oper}(ho:ops[i]?=some o)(hi:¬ Ls listed i)(hpre:∀ j,(aC ms i).testBit j=true→Ls listed j)
 {t:Tmp} (ht:t∈o.looksAt ops):(∀ v,(T.St i).tm[t]?=some v→∃ v',a.tmps.toList[t]?=some v'∧VR (Dp T D i) m v v')∧((T.St i).tm[t]?=none→a.tmps.toList[t]?=none):=by
 have hil:=aT ho
 have hlen:=T.tm_len (i:=i) (by omega)
 constructor
 ·intro v hv
  have htl:t<tm0.length:=by
   obtain⟨h1,_⟩:=a7.1 hv
   rw[hlen] at h1
   exact h1
  obtain⟨v',hv'⟩:∃ v',a.tmps.toList[t]?=some v':=⟨_,b5 (by rw[hT.len];exact htl)⟩
  refine⟨v',hv',?_⟩
  have old:(∀(k:Nat) (p:Oper),ops[k]?=some p→p.dst=some t→i≤k∧¬ Ls listed k)→VR (Dp T D i) m v v':=by
   intro hk
   have h1:=T.tm_old (i:=i) (t:=t) (by omega) fun k p hki hp hd=>by have:=(hk k p hp hd).1;omega
   rw[h1] at hv
   exact (hT.old t v v' (fun k p hp hl hd=>(hk k p hp hd).2 hl) hv hv').mono (fun _=>.inl) (fun _ _=>rfl)
  by_cases hw:∃(j:Nat) (p:Oper),ops[j]?=some p∧p.dst=some t
  ·obtain⟨j,p,hp,hd⟩:=hw
   have only:∀(k:Nat) (p':Oper),ops[k]?=some p'→p'.dst=some t→k=j:=fun k p' hp' hd'=>F.uniq k j p' p t hp' hp hd' hd
   rcases F.look i o t ho ht j p hp hd with rfl|hb|hb
   ·exact old fun k p' hp' hd'=>by rw[only k p' hp' hd'];exact⟨a9 _,hi⟩
   ·have h1:=T.tm_new F (F.lt i j hb) (by omega) hp hd htl
    rw[h1] at hv
    obtain rfl:=a6 hv
    exact (hT.new j p t v' hp (hpre j hb) hd hv').mono (fun n hn=>hn.of_pred F hb) (fun _ _=>rfl)
   ·exact old fun k p' hp' hd' => by
      rw[only k p' hp' hd']
      exact⟨Nat.le_of_lt (F.lt j i hb),fun hl=>hi (hdown j i hl hb)⟩
  ·exact old fun k p hp hd=>absurd ⟨k,p,hp,hd⟩ hw
 ·intro hn
  have h1:=e8.1 hn
  rw[hlen] at h1
  exact e8.2 (by rw[hT.len];exact h1)
theorem Tm.operands{B':Nat}{w':World}(hgl:Gl B' D m w')(F:RegF ops ms)(hT:Tm T D a0 listed a m)(hdown:∀ i j,Ls listed i→(aC ms i).testBit j=true→Ls listed j){i:Nat}{o:Oper}(ho:ops[i]?=some o)(hi:¬ Ls listed i)(hpre:∀ j,(aC ms i).testBit j=true→Ls listed j) :
 ∀ x∈o.op.operands,VR (Dp T D i) m (ev (T.St i).tm x) (a.eval x):=by
 intro x hx
 have hok:=a8.1 (F.ok i o ho) x (by simpa using hx)
 cases x with
 | tmp t =>
  have ht:t∈o.looksAt ops:=List.mem_append_left _ (List.mem_filterMap.2 ⟨.tmp t,by simpa using hx,rfl⟩)
  obtain⟨h1,h2⟩:=hT.slot F hdown ho hi hpre ht
  have e:a.eval (.tmp t)=a.tmps.toList[t]?.getD undef:=by simp[Act.eval,Array.getD_eq_getD_getElem?]
  rw[e]
  simp only[ev,iE]
  cases hv:(T.St i).tm[t]? with
  | none=>rw[h2 hv];exact VR.undef
  | some v =>
   obtain⟨v',hv',hr⟩:=h1 v hv
   rw[hv'];exact hr
 | const v=>exact VR.of_clean depth v hok
 | global g=>exact (yN hgl (by simpa [fL] using hok)).mono (fun _=>.inl) (fun _ _=>rfl)
 | func f=>exact .func f [] [] [] [] rfl (fun i v v' h=>by simp at h) rfl (fun i v v' h=>by simp at h)
theorem Tm.wanted(F:RegF ops ms)(hT:Tm T D a0 listed a m)(hdown:∀ i j,Ls listed i→(aC ms i).testBit j=true→Ls listed j){i:Nat}{o:Oper}(ho:ops[i]?=some o)(hi:¬ Ls listed i)(hpre:∀ j,(aC ms i).testBit j=true→Ls listed j) :
 Region.wanted o (yielded ops a.tmps)=Region.wanted o (yielded ops ⟨(T.St i).tm⟩):=by
 unfold Region.wanted
 cases hg:o.guard with
 | none=>rfl
 | some p =>
  obtain⟨g,b⟩:=p
  simp only
  have key:yielded ops a.tmps g=yielded ops ⟨(T.St i).tm⟩ g:=by
   unfold yielded
   cases hd:((ops[g]?).bind (·.dst):Option Tmp) with
   | none=>rfl
   | some d =>
    have ht:d∈o.looksAt ops:=by
     refine List.mem_append_right _ ?_
     rw[hg]
     simp only[hd]
     simp
    obtain⟨h1,h2⟩:=hT.slot F hdown ho hi hpre ht
    simp only[Option.bind_some]
    have e1:(⟨(T.St i).tm⟩:Array Value)[d]?=(T.St i).tm[d]?:=by simp
    have e2:a.tmps[d]?=a.tmps.toList[d]?:=by simp
    rw[e1,e2]
    cases hv:(T.St i).tm[d]? with
    | none=>rw[h2 hv]
    | some v =>
     obtain⟨v',hv',hr⟩:=h1 v hv
     rw[hv']
     cases hr<;>rfl
  rw[key]
theorem Tm.put(F:RegF ops ms)(hT:Tm T D a0 listed a m){i:Nat}{o:Oper}(ho:ops[i]?=some o)(hsz:listed.size=ops.size){m':NMap}{v':Value}(hv:VR (Dm T D i) m' (T.V i) v')
 (hold:∀ n,D n→m' n=m n) (hnew:∀ j n,j<ops.size→Ls listed j→Dm T D j n→m' n=m n):Tm T D a0 (listed.setIfInBounds i true) (a.put o.dst v') m':=by
 have hil:=aT ho
 have hL:∀ j,Ls (listed.setIfInBounds i true) j→j=i∨Ls listed j:=by
  intro j hj
  unfold Ls at *
  by_cases e:j=i
  ·exact .inl e
  ·right
   rw[e9,Array.getElem?_setIfInBounds_ne (Ne.symm e),← e9] at hj
   exact hj
 have hLi:Ls (listed.setIfInBounds i true) i:=by
  unfold Ls
  simp[Array.getD_eq_getD_getElem?,hsz,hil]
 have hLo:∀ j,Ls listed j→Ls (listed.setIfInBounds i true) j:=by
  intro j hj
  by_cases e:j=i
  ·subst e;exact hLi
  ·unfold Ls at *
   rw[e9,Array.getElem?_setIfInBounds_ne (Ne.symm e),← e9]
   exact hj
 have other:∀ t,o.dst≠some t→(a.put o.dst v').tmps.toList[t]?=a.tmps.toList[t]?:=by
  intro t ht
  cases hd:o.dst with
  | none=>rfl
  | some d =>
   simp only[Act.put,Array.toList_setIfInBounds]
   rw[d6]
   intro e;subst e;exact ht hd
 refine⟨by rw[fS];exact hT.df,?_,?_,?_⟩
 ·cases o.dst<;>simp[Act.put,hT.len]<;>exact hT.len
 ·intro j p t u hp hj hd hu
  by_cases e:j=i
  ·subst e
   rw[ho] at hp
   obtain rfl:=a6 hp
   rw[hd] at hu
   simp only[Act.put,Array.toList_setIfInBounds,List.getElem?_set] at hu
   simp only[if_true] at hu
   split at hu
   ·cases hu;exact hv
   ·cases hu
  ·have hne:o.dst≠some t:=fun h=>e (F.uniq j i p o t hp ho hd h)
   rw[other t hne] at hu
   have hj':=(hL j hj).resolve_left e
   exact (hT.new j p t u hp hj' hd hu).mono (fun _ h=>h) (fun n hn=>hnew j n (aT hp) hj' hn)
 ·intro t u u' hno hu hu'
  have hne:o.dst≠some t:=hno i o ho hLi
  rw[other t hne] at hu'
  exact (hT.old t u u' (fun j p hp hj=>hno j p hp (hLo j hj)) hu hu').mono (fun _ h=>h) hold
theorem xN{k n:Nat}(hk:k<ops.size)(h:wrK (T.kd k)=some n):n<T.ln k:=by
 have hkp:=T.kp k _ (c9 hk)
 generalize T.kd k=kk at h hkp
 cases hkp with
 | wr n' x hw hx ht hb hr hs =>
  obtain rfl:n'=n:=by simpa [wrK] using h
  obtain⟨_,_,⟨b0,h1,_⟩,_⟩:=uR ht hx
  exact (a7.1 h1).1
 | ap n' n2 x nb hw hx ht hb hr hr2 hs =>
  obtain rfl:n'=n:=by simpa [wrK] using h
  obtain⟨_,_,⟨b0,h1,_⟩,_⟩:=qF ht hx
  exact (a7.1 h1).1
 | _=>cases h
theorem Bx{k n:Nat}(hk:k<ops.size)(h:T.kd k = .wr n){n':Nat}(h':T.Tch k n'):n'=n:=by
 have hkp:=T.kp k _ (c9 hk)
 rw[h] at hkp
 cases hkp with
 | wr n x hw hx ht hb hr hs =>
  rcases h' with⟨h1,h2⟩|h1
  ·have:T.ln (k+1)=T.ln k:=by unfold Trace.ln;rw[hs];simp
   omega
  ·rw[h] at h1;cases h1;rfl
theorem hid{rs:List Rc}{b n j mj:Nat}(h:hidden rs b n j mj=true):b≤n∧∀ r∈rs,r.l0≤n→n<r.l1→r.i≠j∧mj.testBit r.i=false:=by
 simp only[hidden,Bool.and_eq_true,decide_eq_true_eq,List.all_eq_true,Bool.or_eq_true,Bool.not_eq_true',Bool.and_eq_false_iff,decide_eq_false_iff_not,bne_iff_ne] at h
 refine⟨h.1,fun r hr h1 h2=>?_⟩
 rcases h.2 r hr with h3|h3
 ·rcases h3 with h3|h3
  ·exact absurd h1 h3
  ·exact absurd h2 h3
 ·exact h3
theorem yH(F:RegF ops ms)(hdom:∀ n,D n→n<h0.length){i k n:Nat}(hi:i<ops.size)(hk:k≤ops.size)(hki:i≤k)(hn:n<T.ln i)(hh:hidden (T.St k).rs (T.St k).b n i (aC ms i)=true):¬ Dm T D i n:=by
 obtain⟨h1,h2⟩:=hid hh
 obtain⟨_,hb,hrec⟩:=T.recs hk
 rw[hb] at h1
 rintro (hd|⟨j,hj,h3,h4⟩)
 ·have:=hdom n hd
  have h5:=T.ln_mono (i:=0) (j:=T.bs k) (f0 _) (e6 (T.bs_le hk) hk)
  rw[Trace.ln0] at h5
  omega
 ·have hji : j ≤ i := by
    rcases hj with rfl|hj
    ·exact a9 _
    ·exact Nat.le_of_lt (F.lt i j hj)
  have hne:j≠i:=by rintro rfl;omega
  have hbj:T.bs k≤j:=by
   rcases d4 j (T.bs k) with h|h
   ·have:=T.ln_mono (i:=j+1) (j:=T.bs k) h (e6 (T.bs_le hk) hk)
    omega
   ·exact h
  have hl:=T.loud (n:=n) (show j<ops.size by omega) (.inl ⟨h3,h4⟩)
  obtain⟨_,hm⟩:=hrec j hbj (by omega) hl
  obtain⟨h5,h6⟩:=h2 _ hm h3 h4
  rcases hj with rfl|hj
  ·exact hne rfl
  ·simp only at h6;rw[h6] at hj;cases hj
theorem vX{m b n:Nat}{rs:List Rc}(h:sB ms m rs b n=true):rS m rs n=true:=by
 refine a8.2 fun r hr=>?_
 have h1:=a8.1 h r hr
 cases hk:r.k with
 | mk=>rfl
 | all=>rfl
 | rd n'=>rfl
 | wr n'=>rw[hk] at h1;simpa [wrT,eF] using h1
 | ap n' n2 =>
  rw[hk] at h1
  simp only[eF,Bool.or_eq_true,Bool.not_eq_true',Bool.or_eq_false_iff] at h1
  simp only[wrT,Bool.or_eq_true,bne_iff_ne,ne_eq,Option.some.injEq]
  rcases h1 with h1|h1
  ·left;simpa using h1.1
  ·exact .inr h1
theorem zY{i n:Nat}(hi:i<ops.size)(h:eF (fU (T.kd i)) n=true):rS (aC ms i) (T.St i).rs n=true:=by
 have hkp:=T.kp i _ (c9 hi)
 generalize T.kd i=kk at h hkp
 cases hkp with
 | rd n' nb hw hx ht hb hr hs =>
  obtain rfl:n'=n:=by simpa [fU,eF] using h
  exact hr
 | wr n' x hw hx ht hb hr hs =>
  obtain rfl:n'=n:=by simpa [fU,eF] using h
  exact vX hr
 | ap n' n2 x nb hw hx ht hb hr hr2 hs =>
  simp only[fU,eF,Bool.or_eq_true,beq_iff_eq] at h
  rcases h with rfl|rfl
  ·exact vX hr
  ·exact hr2
 | _=>cases h
theorem xU{k n:Nat}(hk:k<ops.size)(h:wrK (T.kd k)=some n):sB ms (aC ms k) (T.St k).rs (T.St k).b n=true:=by
 have hkp:=T.kp k _ (c9 hk)
 generalize T.kd k=kk at h hkp
 cases hkp with
 | wr n' x hw hx ht hb hr hs =>
  obtain rfl:n'=n:=by simpa [wrK] using h
  exact hr
 | ap n' n2 x nb hw hx ht hb hr hr2 hs =>
  obtain rfl:n'=n:=by simpa [wrK] using h
  exact hr
 | _=>cases h
theorem ordered(F:RegF ops ms)(hdom:∀ n,D n→n<h0.length){i k n:Nat}(hi:i<ops.size)(hk:k<ops.size)(hne:k≠i)(hw:wrK (T.kd k)=some n)(hs:eF (fU (T.kd i)) n=true∨(T.kd i = .all∧Dm T D i n∧n<T.ln i))(hb:T.bs i≤k) :
 (aC ms i).testBit k=true∨(aC ms k).testBit i=true:=by
 have hil:T.kd i ≠ .q:=by
  rcases hs with h|h
  ·intro hq;rw[hq] at h;cases h
  ·rw[h.1];simp
 have hic:T.kd i ≠ .ch:=by
  rcases hs with h|h
  ·intro hq;rw[hq] at h;cases h
  ·rw[h.1];simp
 have hkq:T.kd k ≠ .q:=by intro hq;rw[hq] at hw;cases hw
 have hkT:wrT (fU (T.kd k))=some n:=by rw[Bp];exact hw
 rcases d4 k i with hlt|hge
 ·left
  obtain⟨_,hbb,hrec⟩:=T.recs (i:=i) (by omega)
  obtain⟨_,hm⟩:=hrec k hb hlt hkq
  rcases hs with h|⟨h,hd,hn⟩
  ·have:=a8.1 (zY hi h) _ hm
   simpa [hkT] using this
  ·have hkp:=T.kp i _ (c9 hi)
   rw[h] at hkp
   cases hkp with
   | all h1 w1 hw' hx hb' hg hl hr hs' =>
    have:=a8.1 hr _ hm
    simp only[hkT,Bool.or_eq_true] at this
    rcases this with h'|h'
    ·exact absurd hd (yH F hdom hi (by omega) (a9 _) hn h')
    ·exact h'
 ·right
  have hik:i<k:=by omega
  rcases d4 i (T.bs k) with hbs|hbs
  ·rcases (T.recs (i:=k) (by omega)).1 with h|⟨q,h1,h2,h3,h4⟩
   ·omega
   ·have hq:=T.bar_waits hk hkq h1
    have hqi:q≠i:=fun e=>hic (e ▸ h3)
    exact F.trans k q i hq (T.chain_waits F (by omega) h3 i (by omega) hil)
  ·obtain⟨_,hbb,hrec⟩:=T.recs (i:=k) (by omega)
   obtain⟨_,hm⟩:=hrec i hbs hik hil
   have this:=a8.1 (xU hk hw) _ hm
   rcases hs with h|⟨h,hd,hn⟩
   ·generalize T.kd i=kk at h this
    cases kk with
    | q=>cases h
    | mk=>cases h
    | all=>cases h
    | ch=>cases h
    | rd n'=>simp only[fU] at h this;rw[h] at this;simpa using this
    | wr n'=>simp only[fU] at h this;rw[h] at this;simpa using this
    | ap n' n2=>simp only[fU] at h this;rw[h] at this;simpa using this
   ·simp only[h,fU,Bool.or_eq_true] at this
    rcases this with h'|h'
    ·exact absurd hd (yH F hdom hi (by omega) (by omega) hn h')
    ·exact h'
theorem Ao(b n:Nat):∀ i,(∃ j,b≤j∧j<i∧T.Tch j n∧∀ k,j<k→k<i→¬ T.Tch k n)∨(∀ k,b≤k→k<i→¬ T.Tch k n)
 | 0=>.inr fun k _ h=>by omega
 | i+1=>by
  by_cases h:b≤i∧T.Tch i n
  ·exact .inl ⟨i,h.1,by omega,h.2,fun k h1 h2=>by omega⟩
  ·rcases Ao b n i with⟨j,h1,h2,h3,h4⟩|h1
   ·refine .inl ⟨j,h1,by omega,h3,fun k h5 h6=>?_⟩
    by_cases e:k=i
    ·subst e;exact fun h'=>h ⟨by omega,h'⟩
    ·exact h4 k h5 (by omega)
   ·refine .inr fun k h2 h3=>?_
    by_cases e:k=i
    ·subst e;exact fun h'=>h ⟨h2,h'⟩
    ·exact h1 k h2 (by omega)
theorem sync{b i n:Nat}(hi:i≤ops.size)(hb:b≤i)(nc:∀ k,b≤k→k<i→T.kd k ≠ .ch)(t1:∀ k,b≤k→k<i→T.Tch k n→Ls listed k)(t2:∀ k,i≤k→k<ops.size→Ls listed k→¬ T.Tch k n)
 (hn:Dx D h0.length (T.ln b) n∨(T.ln b≤n∧n<T.ln i)) (hbl:∀ n,Dx D h0.length (T.ln b) n→n<T.ln b) {x:Blk} (hx:(T.St i).h[n]?=some x) :
 ∃ S,At T D b listed n x S∧(S=Dx D h0.length (T.ln b)∨∃ j,b≤j∧j<i∧T.Tch j n∧S=Dm T D j):=by
 rcases Ao (T:=T) b n i with⟨j,h1,h2,h3,h4⟩|h1
 ·have hlj : n < T.ln (j + 1) := by
    rcases h3 with h3|h3
    ·exact h3.2
    ·exact d7 (xN (by omega) h3) (T.ln_succ (c9 (show j<ops.size by omega)))
  refine⟨_,.cur j h1 (by omega) (t1 j h1 h2 h3) h3 (fun k hk hks hL ht=>?_) ?_,.inr ⟨j,h1,h2,h3,rfl⟩⟩
  ·rcases d4 j k with h|h
   ·rcases d4 k i with h'|h'
    ·exact absurd ht (h4 k h h')
    ·exact absurd ht (t2 k h' hks hL)
   ·exact h
  ·rw[← T.keeps (i:=j+1) (j:=i) (n:=n) h2 hi (fun k h5 h6=>nc k (by omega) h6) (fun k h5 h6=>h4 k (by omega) h6) hlj]
   exact hx
 ·have hd : Dx D h0.length (T.ln b) n := by
    rcases hn with h|⟨h2,h3⟩
    ·exact h
    ·obtain⟨j,h4,h5,h6⟩:=T.owner hb hi h2 h3
     exact absurd (.inl h6) (h1 j h4 h5)
  refine⟨_,.old hd (fun k hk hks hL=>?_) ?_,.inl rfl⟩
  ·rcases d4 k i with h'|h'
   ·exact h1 k hk h'
   ·exact t2 k h' hks hL
  ·rw[← T.keeps (i:=b) (j:=i) (n:=n) hb hi nc h1 (hbl n hd)]
   exact hx
end
end Go.Rex.Free
namespace Go.Rex.Free
open Go.RowKit
section
variable {C:Ctx} {P:Program} {ops:Array Oper} {ms:List Nat} {tm0:List Value} {h0:List Blk} {T:Trace C P ops ms tm0 h0} {B lo:Nat} {D:Nat→Prop} {m0:NMap} {w0:World} {a0:Act}
variable {listed:Array Bool} {a:Act} {w:World} {m:NMap} {b:Nat}
theorem At.unset{i n:Nat}{x:Blk}{S:Nat→Prop}(hsz:i<listed.size)(hT:¬ T.Tch i n)(h:At T D b (listed.setIfInBounds i true) n x S):At T D b listed n x S:=by
 cases h with
 | old h1 h2 h3=>exact .old h1 (fun k hk hks hL=>h2 k hk hks (.mk hsz (.inr hL))) h3
 | cur j h1 h2 h3 h4 h5 h6 =>
  rcases Ls.set h3 with rfl|h3
  ·exact absurd h4 hT
  ·exact .cur j h1 h2 h3 h4 (fun k hk hks hL=>h5 k hk hks (.mk hsz (.inr hL))) h6
theorem At.own{i n:Nat}{x:Blk}{S:Nat→Prop}(hsz:i<listed.size)(hs:listed.size=ops.size)(hbi:b≤i)(hT:T.Tch i n)(hmax:∀ k,b≤k→k<ops.size→Ls listed k→T.Tch k n→k≤i)(h:At T D b (listed.setIfInBounds i true) n x S):S=Dm T D i∧(T.St (i+1)).h[n]?=some x:=by
 cases h with
 | old h1 h2 h3=>exact absurd hT (h2 i hbi (by omega) (.mk hsz (.inl rfl)))
 | cur j h1 h2 h3 h4 h5 h6 =>
  have h7:=h5 i hbi (by omega) (.mk hsz (.inl rfl)) hT
  have h8:j≤i:=by
   rcases Ls.set h3 with rfl|h3
   ·exact a9 _
   ·exact hmax j h1 h2 h3 h4
  obtain rfl:j=i:=by omega
  exact⟨rfl,h6⟩
theorem HA.lnb(hA:HA T B lo D b listed w m):T.ln 0≤T.ln b:=T.ln_mono (f0 _) hA.bsz
theorem HA.below_b(hA:HA T B lo D b listed w m)(hdom:∀ n,D n→n<h0.length):∀ n,Dx D h0.length (T.ln b) n→n<T.ln b:=by
 rintro n (h|h)
 ·have:=hA.lnb;rw[Trace.ln0] at this;have:=hdom n h;omega
 ·exact h.2
theorem Inv.phase(F:RegF ops ms)(hI:Inv T B lo D m0 w0 a0 listed a w m)(hA:HA T B lo D b listed w m){i:Nat}(hil:i<ops.size)(hi:¬ Ls listed i)(hpre:∀ j,(aC ms i).testBit j=true→Ls listed j)(hl:T.kd i ≠ .q):T.bs i=b∧b≤i:=by
 have hb:b≤T.bs i:=by
  rcases hA.bar with h|⟨q,h1,h2,h3⟩
  ·omega
  ·have hne:q≠i:=fun e=>hi (e ▸ h3)
   have hqs:q<ops.size:=by have:=hA.bsz;omega
   rcases d4 q i with h|h
   ·have:=T.bs_ge h (by omega) h2;omega
   ·exact absurd (hI.down q i h3 (T.chain_waits F hqs h2 i (by omega) hl)) hi
 have hle:=T.bs_le (i:=i) (by omega)
 refine⟨?_,by omega⟩
 rcases (T.recs (i:=i) (by omega)).1 with h|⟨q,h1,h2,h3,h4⟩
 ·omega
 ·have hL:=hpre q (T.bar_waits hil hl h1)
  rcases d4 q b with h|h
  ·omega
  ·exact absurd h3 (hA.noc q h (by omega) hL)
theorem Inv.wait_lt(F:RegF ops ms)(hI:Inv T B lo D m0 w0 a0 listed a w m){i k:Nat}(hi:¬ Ls listed i)(hL:Ls listed k)(h:(aC ms i).testBit k=true∨(aC ms k).testBit i=true):(aC ms i).testBit k=true∧k<i:=by
 rcases h with h|h
 ·exact⟨h,F.lt i k h⟩
 ·exact absurd (hI.down k i hL h) hi
theorem Dm.big(F:RegF ops ms)(hA:HA T B lo D b listed w m){i:Nat}(hil:i<ops.size)(hbi:b≤i)(hl:T.kd i ≠ .q):∀ n,Dx D h0.length (T.ln b) n→Dp T D i n:=by
 rintro n (h|⟨h1,h2⟩)
 ·exact .inl h
 ·rw[← Trace.ln0 (T:=T)] at h1
  obtain⟨j,_,h3,h4⟩:=T.owner (f0 _) hA.bsz h1 h2
  refine .inr ⟨j,?_,h4⟩
  have hjl:=T.loud (n:=n) (show j<ops.size by omega) (.inl h4)
  rcases hA.bar with h|⟨q,h5,h6,h7⟩
  ·omega
  ·have hq:=T.after F (q:=q) (i:=i) (by omega) hil h6 hl
   rcases d4 j q with h|h
   ·exact F.trans i q j hq (T.chain_waits F (by omega) h6 j h hjl)
   ·obtain rfl:j=q:=by omega
    exact hq
theorem Inv.sees(F:RegF ops ms)(hdom:∀ n,D n→n<h0.length)(hI:Inv T B lo D m0 w0 a0 listed a w m)(hA:HA T B lo D b listed w m){i n:Nat}(hil:i<ops.size)(hi:¬ Ls listed i)(hpre:∀ j,(aC ms i).testBit j=true→Ls listed j)
 (hs:eF (fU (T.kd i)) n=true∨T.kd i = .all) (hd:Dp T D i n) {x:Blk} (hx:(T.St i).h[n]?=some x):∃ S,At T D b listed n x S∧∀ k,S k→Dp T D i k:=by
 have hl:T.kd i ≠ .q:=by
  rcases hs with h|h
  ·intro hq;rw[hq] at h;cases h
  ·rw[h];simp
 obtain⟨hbs,hbi⟩:=hI.phase F hA hil hi hpre hl
 have hrec:=(T.recs (i:=i) (by omega)).2.2
 rw[hbs] at hrec
 have nc:∀ k,b≤k→k<i→T.kd k ≠ .ch:=fun k h1 h2 hc=>(hrec k h1 h2 (by rw[hc];simp)).1 hc
 have hni:n<T.ln i:=by
  have:=(a7.1 hx).1;exact this
 have hs':eF (fU (T.kd i)) n=true∨(T.kd i = .all∧Dm T D i n∧n<T.ln i):=by
  rcases hs with h|h
  ·exact .inl h
  ·exact .inr ⟨h,hd.dm,hni⟩
 have hln0:h0.length≤T.ln b:=by have:=hA.lnb;rwa [Trace.ln0] at this
 have mkr:∀ k,b≤k→k<ops.size→T.ln k≤n→n<T.ln (k+1)→(aC ms i).testBit k=true:=by
  intro k h1 h2 h3 h4
  rcases hd with h|⟨j,h5,h6⟩
  ·have:=hdom n h
   have:=T.ln_mono (i:=b) (j:=k) h1 (by omega)
   omega
  ·rw[T.one_owner (by omega) (by have:=F.lt i j h5;omega) ⟨h3,h4⟩ h6]
   exact h5
 have hord:∀ k,b≤k→k<ops.size→k≠i→T.Tch k n→(aC ms i).testBit k=true∨(aC ms k).testBit i=true:=by
  intro k h1 h2 h3 h4
  rcases h4 with⟨h4,h5⟩|h4
  ·exact .inl (mkr k h1 h2 h4 h5)
  ·exact ordered F hdom hil h2 h3 h4 hs' (by omega)
 obtain ⟨S, h1, h2⟩ := sync (T := T) (D := D) (listed := listed) (b := b) (i := i) (n := n) (by omega) hbi nc (fun k h1 h2 h3 => by
     rcases hord k h1 (by omega) (by omega) h3 with h|h
     ·exact hpre k h
     ·have:=F.lt k i h;omega) (fun k h1 h2 hL h3=>by
     have hne:k≠i:=fun e=>hi (e ▸ hL)
     have:=(hI.wait_lt F hi hL (hord k (by omega) h2 hne h3)).2
     omega) (by
     rcases hd with h|⟨j,h5,h6,h7⟩
     ·exact .inl (.inl h)
     ·rcases d4 n (T.ln b) with h|h
      ·refine .inl (.inr ⟨?_,h⟩)
       rw[← Trace.ln0 (T:=T)]
       exact e6 (T.ln_mono (f0 _) (by have:=F.lt i j h5;omega)) h6
      ·exact .inr ⟨h,hni⟩) (hA.below_b hdom) hx
 refine⟨S,h1,?_⟩
 rcases h2 with rfl|⟨j,h3,h4,h5,rfl⟩
 ·exact Dm.big F hA hil hbi hl
 ·intro k hk
  have hj:(aC ms i).testBit j=true:=by
   rcases hord j h3 (by omega) (by omega) h5 with h|h
   ·exact h
   ·have:=F.lt j i h;omega
  exact hk.of_pred F hj
theorem Inv.full(F:RegF ops ms)(hr0:Rel B lo D m0 h0 w0)(_hlo:lo≤h0.length)(hI:Inv T B lo D m0 w0 a0 listed a w m)(hA:HA T B lo D b listed w m){i:Nat}(hil:i≤ops.size)(hbi:b≤i)(t1:∀ k,k<i→T.kd k ≠ .q→Ls listed k)(t2:∀ k,i≤k→k<ops.size→Ls listed k→T.kd k = .q) :
 Rel B lo (Dx D h0.length (T.ln i)) m (T.St i).h w:=by
 have hdom:=hr0.dom
 have hln0:h0.length≤T.ln b:=by have:=hA.lnb;rwa [Trace.ln0] at this
 have hlni:T.ln b≤T.ln i:=T.ln_mono hbi hil
 have key:∀ n x,Dx D h0.length (T.ln i) n→(T.St i).h[n]?=some x→∃ S,At T D b listed n x S∧∀ k,S k→Dx D h0.length (T.ln i) k:=by
  intro n x hn hx
  obtain⟨S,h1,h2⟩:=sync (T:=T) (D:=D) (listed:=listed) (b:=b) (i:=i) (n:=n) hil hbi (fun k h1 h2 hc=>hA.noc k h1 (by omega) (t1 k h2 (by rw[hc];simp)) hc) (fun k h1 h2 h3=>t1 k h2 (T.loud (by omega) h3))
   (fun k h1 h2 hL h3=>T.loud h2 h3 (t2 k h1 h2 hL)) (by
    rcases hn with h|h
    ·exact .inl (.inl h)
    ·rcases d4 n (T.ln b) with h'|h'
     ·exact .inl (.inr ⟨h.1,h'⟩)
     ·exact .inr ⟨h',h.2⟩) (hA.below_b hdom) hx
  refine⟨S,h1,?_⟩
  rcases h2 with rfl|⟨j,h3,h4,h5,rfl⟩
  ·rintro k (h|h)
   ·exact .inl h
   ·exact .inr ⟨h.1,by omega⟩
  ·rintro k (h|⟨l,h6,h7,h8⟩)
   ·exact .inl h
   ·have hlj : l ≤ j := by
      rcases h6 with rfl|h6
      ·exact a9 _
      ·exact Nat.le_of_lt (F.lt j l h6)
    refine .inr ⟨?_,d7 h8 (T.ln_mono (by omega) hil)⟩
    rw[← Trace.ln0 (T:=T)]
    exact e6 (T.ln_mono (f0 _) (by omega)) h7
 refine⟨e6 hr0.le hI.below.size,?_,?_,?_,?_,?_,?_,?_,(hr0.gl.mono (fun _ h=>h) hI.agree (a9 _) hI.below).mono (fun _=>.inl) (fun _ _=>rfl)⟩
 ·rintro n (h|h)
  ·have:=hdom n h
   unfold Trace.ln at hln0 hlni
   omega
  ·exact h.2
 ·intro n x hn hx
  obtain⟨S,h1,h2⟩:=key n x hn hx
  exact (hA.ok n x S h1).mono h2 (fun _ _=>rfl) rfl
 ·intro n x hn hx
  obtain⟨S,h1,_⟩:=key n x hn hx
  exact hA.lt n x S h1
 ·intro n x hn hl hx
  obtain⟨S,h1,_⟩:=key n x hn hx
  exact hA.base n x S h1 hl
 ·intro n x hn hl hx
  obtain⟨S,h1,_⟩:=key n x hn hx
  exact hA.low n x S h1 hl
 ·intro n x hn hl hx
  obtain⟨S,h1,_⟩:=key n x hn hx
  exact hA.own n x S h1 hl
 ·intro n n' x x' hn hn' hl hl' hx hx'
  obtain⟨S,h1,_⟩:=key n x hn hx
  obtain⟨S',h1',_⟩:=key n' x' hn' hx'
  exact hA.inj n x S n' x' S' h1 h1' hl hl'
theorem Inv.quiet(F:RegF ops ms)(hI:Inv T B lo D m0 w0 a0 listed a w m){i:Nat}{o:Oper}(ho:ops[i]?=some o)(hpre:∀ j,(aC ms i).testBit j=true→Ls listed j)(hk:T.kd i = .q){v':Value}(hv:VR (Dm T D i) m (T.V i) v') :
 Inv T B lo D m0 w0 a0 (listed.setIfInBounds i true) (a.put o.dst v') w m:=by
 have hil:=aT ho
 have hsz:i<listed.size:=by rw[hI.size];exact hil
 have hno:∀ n,¬ T.Tch i n:=fun n h=>T.loud hil h hk
 obtain⟨b,hA⟩:=hI.heap
 refine⟨by simp[hI.size],eW hI.down hsz hpre,hI.agree,hI.tmps.put F ho hI.size hv (fun _ _=>rfl) (fun _ _ _ _ _=>rfl),hI.below,fun k n hks hL h=>?_,b,⟨hA.bsz,?_,fun j hb hj hL=>?_,?_,?_,?_,?_,?_,?_⟩⟩
 ·rcases Ls.set hL with rfl|hL
  ·rw[hk] at h;cases h
  ·exact hI.wrd k n hks hL h
 ·rcases hA.bar with h|⟨q,h1,h2,h3⟩
  ·exact .inl h
  ·exact .inr ⟨q,h1,h2,.mk hsz (.inr h3)⟩
 ·rcases Ls.set hL with rfl|hL
  ·rw[hk];simp
  ·exact hA.noc j hb hj hL
 ·exact fun n x S h=>hA.ok n x S (h.unset hsz (hno n))
 ·exact fun n x S h=>hA.lt n x S (h.unset hsz (hno n))
 ·exact fun n x S h=>hA.base n x S (h.unset hsz (hno n))
 ·exact fun n x S h=>hA.low n x S (h.unset hsz (hno n))
 ·exact fun n x S h=>hA.own n x S (h.unset hsz (hno n))
 ·exact fun n x S n' x' S' h h'=>hA.inj n x S n' x' S' (h.unset hsz (hno n)) (h'.unset hsz (hno n'))
theorem Inv.made(F:RegF ops ms)(hr0:Rel B lo D m0 h0 w0)(_hlo:lo≤h0.length)(hI:Inv T B lo D m0 w0 a0 listed a w m){i:Nat}{o:Oper}(ho:ops[i]?=some o)(hi:¬ Ls listed i)(hpre:∀ j,(aC ms i).testBit j=true→Ls listed j)
 (hl:T.kd i ≠ .q) (hc:T.kd i ≠ .ch) (hw:wrK (T.kd i)=none) (hA:HA T B lo D b listed w m)
 {hX h1:List Blk} {v':Value} {w':World} {m':NMap} (hX0:hX.length=T.ln i) (hln:T.ln (i+1)=h1.length) (hget:∀ n,T.ln i≤n→(T.St (i+1)).h[n]?=h1[n]?)
 (hp:Post w.heap.size (T.ln i) (Dp T D i) m hX w m' h1 w') (hv:VR (Dx (Dp T D i) hX.length h1.length) m' (T.V i) v') :
 ∃ m'',Inv T B lo D m0 w0 a0 (listed.setIfInBounds i true) (a.put o.dst v') w' m'':=by
 have hdom:=hr0.dom
 have hil:=aT ho
 have hsz:i<listed.size:=by rw[hI.size];exact hil
 obtain⟨hbs,hbi⟩:=hI.phase F hA hil hi hpre hl
 have hwsz:B≤w.heap.size:=e6 hr0.le hI.below.size
 have hln0:h0.length≤T.ln b:=by have:=hA.lnb;rwa [Trace.ln0] at this
 have hlnb:T.ln b≤T.ln i:=T.ln_mono hbi (by omega)
 have hgr:T.ln i≤h1.length:=by rw[← hX0];exact hp.grow
 rw[hX0] at hv
 have hDp:∀ n,Dp T D i n→n<T.ln i:=by
  rintro n (hn|⟨j,h2,h3,h4⟩)
  ·have:=hdom n hn;omega
  ·exact d7 h4 (T.ln_mono (F.lt i j h2) (by omega))
 let m'':NMap:=fun n=>if T.ln i≤n∧n<T.ln (i+1) then m' n else m n
 have e0:∀ n,¬(T.ln i≤n∧n<T.ln (i+1))→m'' n=m n:=fun n hn=>d5 hn
 have e1:∀ n,D n→m'' n=m n:=fun n hn=>e0 n (by have:=hdom n hn;omega)
 have e2:∀ j n,j<ops.size→Ls listed j→Dm T D j n→m'' n=m n:=by
  rintro j n hj hL (hn|⟨k,h2,h3,h4⟩)
  ·exact e1 n hn
  ·have hLk : Ls listed k := by
     rcases h2 with rfl|h2
     ·exact hL
     ·exact hI.down j k hL h2
   have hkj:k≤j:=by
    rcases h2 with rfl|h2
    ·exact a9 _
    ·exact Nat.le_of_lt (F.lt j k h2)
   have hne:k≠i:=fun e=>hi (e ▸ hLk)
   exact e0 n fun h=>hne (T.one_owner (by omega) hil ⟨h3,h4⟩ h)
 have e2b:∀ n,n<T.ln i→m'' n=m n:=fun n hn=>e0 n (by omega)
 have e3:∀ n,Dx (Dp T D i) (T.ln i) h1.length n→m'' n=m' n:=by
  rintro n (hn|hn)
  ·rw[e0 n (by have:=hDp n hn;omega),hp.agree n hn]
  ·exact b8 ⟨hn.1,by rw[hln];exact hn.2⟩
 have sub:∀ n,Dx (Dp T D i) (T.ln i) h1.length n→Dm T D i n:=by
  rintro n (hn|hn)
  ·exact hn.dm
  ·exact .inr ⟨i,.inl rfl,hn.1,by rw[hln];exact hn.2⟩
 have hb:=hp.below
 have hT:∀ n,T.Tch i n↔(T.ln i≤n∧n<T.ln (i+1)):=fun n=>⟨fun h=>h.resolve_right (by rw[hw];simp),.inl⟩
 have hmax:∀ n,T.Tch i n→∀ k,b≤k→k<ops.size→Ls listed k→T.Tch k n→k≤i:=by
  intro n hn k hk hks hL ht
  have hn':=(hT n).1 hn
  rcases ht with ht|ht
  ·rw[T.one_owner hks hil ht hn'];exact a9 _
  ·rcases hI.wrd k n hks hL ht with h|⟨j,h2,h3⟩
   ·have:=hdom n h;omega
   ·have hji:=T.one_owner (by have:=F.lt k j h2;omega) hil h3 hn'
    rw[hji] at h2
    exact absurd (hI.down k i hL h2) hi
 have parts:∀ n x S,At T D b (listed.setIfInBounds i true) n x S→(T.ln i≤n∧n<T.ln (i+1)∧S=Dm T D i∧h1[n]?=some x)∨(¬(T.ln i≤n∧n<T.ln (i+1))∧At T D b listed n x S):=by
  intro n x S h
  by_cases ht:T.Tch i n
  ·obtain⟨h2,h3⟩:=h.own hsz hI.size hbi ht (hmax n ht)
   obtain⟨h4,h5⟩:=(hT n).1 ht
   rw[hget n h4] at h3
   exact .inl ⟨h4,h5,h2,h3⟩
  ·exact .inr ⟨fun hc=>ht ((hT n).2 hc),h.unset hsz ht⟩
 have hS:∀ n x S,At T D b listed n x S→∀ k,S k→m'' k=m k:=by
  intro n x S h k hk
  cases h with
  | old h1' h2 h3=>exact e2b k (d7 (hA.below_b hdom k hk) hlnb)
  | cur j h1' h2 h3 h4 h5 h6=>exact e2 j k h2 h3 hk
 have hnm:∀ n x S,At T D b listed n x S→¬(T.ln i≤n∧n<T.ln (i+1))→m'' n=m n:=fun n x S _ hn=>e0 n hn
 have hnew:∀ n,T.ln i≤n→n<T.ln (i+1)→Dx (Dp T D i) hX.length h1.length n:=fun n h2 h3=>.inr ⟨by omega,by omega⟩
 have hnewm:∀ n,T.ln i≤n→n<T.ln (i+1)→m'' n=m' n:=fun n h2 h3=>b8 ⟨h2,h3⟩
 refine⟨m'',by simp[hI.size],eW hI.down hsz hpre,fun n hn=>(e1 n hn).trans (hI.agree n hn),?_,hI.below.trans (hb.mono hwsz),fun k n hks hL h=>?_,b,⟨hA.bsz,?_,fun j hbj hj hL=>?_,?_,?_,?_,?_,?_,?_⟩⟩
 ·exact hI.tmps.put F ho hI.size (hv.mono sub e3) e1 e2
 ·rcases Ls.set hL with rfl|hL
  ·rw[hw] at h;cases h
  ·exact hI.wrd k n hks hL h
 ·rcases hA.bar with h|⟨q,h1',h2,h3⟩
  ·exact .inl h
  ·exact .inr ⟨q,h1',h2,.mk hsz (.inr h3)⟩
 ·rcases Ls.set hL with rfl|hL
  ·exact hc
  ·exact hA.noc j hbj hj hL
 ·intro n x S h
  rcases parts n x S h with⟨h2,h3,rfl,h5⟩|⟨hn,h⟩
  ·have hd:=hnew n h2 h3
   have hd':Dx (Dp T D i) (T.ln i) h1.length n:=by rw[hX0] at hd;exact hd
   have:=hp.rel.ok n x hd h5
   rw[hX0] at this
   exact this.mono sub e3 (e3 n hd')
  ·by_cases hdead:x = .dead
   ·subst hdead;trivial
   ·exact ((hA.ok n x S h).keep fun hd=>hb.block _ (hA.lt n x S h hd)).mono (fun _ h=>h) (hS n x S h) (hnm n x S h hn)
 ·intro n x S h hne
  rcases parts n x S h with⟨h2,h3,rfl,h5⟩|⟨hn,h⟩
  ·rw[hnewm n h2 h3];exact hp.rel.lt n x (hnew n h2 h3) h5 hne
  ·rw[hnm n x S h hn];exact d7 (hA.lt n x S h hne) hb.size
 ·intro n x S h hlon hne
  rcases parts n x S h with⟨h2,h3,rfl,h5⟩|⟨hn,h⟩
  ·rw[hnewm n h2 h3];exact e6 hwsz (hp.rel.base n x (hnew n h2 h3) h2 h5 hne)
  ·rw[hnm n x S h hn];exact hA.base n x S h hlon hne
 ·intro n x S h hlon hne
  rcases parts n x S h with⟨h2,h3,rfl,h5⟩|⟨hn,h⟩
  ·omega
  ·rw[hnm n x S h hn];exact hA.low n x S h hlon hne
 ·intro n x S h hlon
  rcases parts n x S h with⟨h2,h3,rfl,h5⟩|⟨hn,h⟩
  ·exact (hp.rel.own n x (hnew n h2 h3) h2 h5).congr (hnewm n h2 h3)
  ·exact ((hA.own n x S h hlon).keep fun hd=>hb.block _ (hA.lt n x S h hd)).congr (hnm n x S h hn)
 ·intro n x S n' x' S' h h' hlon hlon' hd hd' he
  rcases parts n x S h with⟨h2,h3,rfl,h5⟩|⟨hn,h⟩<;>rcases parts n' x' S' h' with⟨h2',h3',rfl,h5'⟩|⟨hn',h'⟩
  ·rw[hnewm n h2 h3,hnewm n' h2' h3'] at he
   exact hp.rel.inj n n' x x' (hnew n h2 h3) (hnew n' h2' h3') h2 h2' h5 h5' hd hd' he
  ·rw[hnewm n h2 h3,hnm n' x' S' h' hn'] at he
   have x1:=hp.rel.base n x (hnew n h2 h3) h2 h5 hd
   have x2:=hA.lt n' x' S' h' hd'
   omega
  ·rw[hnm n x S h hn,hnewm n' h2' h3'] at he
   have x1:=hp.rel.base n' x' (hnew n' h2' h3') h2' h5' hd'
   have x2:=hA.lt n x S h hd
   omega
  ·rw[hnm n x S h hn,hnm n' x' S' h' hn'] at he
   exact hA.inj n x S n' x' S' h h' hlon hlon' hd hd' he
theorem Inv.write(F:RegF ops ms)(hr0:Rel B lo D m0 h0 w0)(hI:Inv T B lo D m0 w0 a0 listed a w m){i n:Nat}{o:Oper}(ho:ops[i]?=some o)(hi:¬ Ls listed i)(hpre:∀ j,(aC ms i).testBit j=true→Ls listed j)
 (hk:T.kd i = .wr n) (hA:HA T B lo D b listed w m) (hd:Dp T D i n) (hlon:lo≤n) {b0:Blk} {S0:Nat→Prop} (hat:At T D b listed n b0 S0) (hb0:b0 ≠ .dead)
 {x:Blk} {w':World} {v':Value} (hs:(T.St (i+1)).h[n]?=some x) (hon:Only (m n).block w w') (hok:BlkOk (Dp T D i) m w' n x) (hown:Owns m w' n x) (hv:VR (Dm T D i) m (T.V i) v') :
 Inv T B lo D m0 w0 a0 (listed.setIfInBounds i true) (a.put o.dst v') w' m:=by
 have hdom:=hr0.dom
 have hil:=aT ho
 have hsz:i<listed.size:=by rw[hI.size];exact hil
 have hl:T.kd i ≠ .q:=by rw[hk];simp
 obtain⟨hbs,hbi⟩:=hI.phase F hA hil hi hpre hl
 have hTn:T.Tch i n:=.inr (by rw[hk];rfl)
 have hToth:∀ k,k≠n→¬ T.Tch i k:=fun k hk' h=>hk' (Bx hil hk h)
 have hln0:h0.length≤T.ln b:=by have:=hA.lnb;rwa [Trace.ln0] at this
 have hni:n<T.ln i:=xN hil (by rw[hk];rfl)
 have hmax:∀ k,b≤k→k<ops.size→Ls listed k→T.Tch k n→k≤i:=by
  intro k h1 h2 hL h3
  have hne:k≠i:=fun e=>hi (e ▸ hL)
  rcases h3 with⟨h3,h4⟩|h3
  ·rcases d4 i k with h|h
   ·have:=T.ln_mono (i:=i) (j:=k) (by omega) (by omega)
    omega
   ·exact h
  ·exact Nat.le_of_lt (hI.wait_lt F hi hL (ordered F hdom hil h2 hne h3 (.inl (by rw[hk];simp[fU,eF])) (by omega))).2
 obtain⟨s1,s2,s3,s4,s5⟩:=hon
 have hbase:=hA.base n b0 S0 hat hlon hb0
 have apart:∀ k y S,At T D b listed k y S→k≠n→y ≠ .dead→(m k).block≠(m n).block:=by
  intro k y S h hne hy he
  rcases d4 k lo with h'|h'
  ·have:=hA.low k y S h h' hy;omega
  ·exact hne (hA.inj k y S n b0 S0 h hat h' hlon hy hb0 he)
 have parts:∀ k y S,At T D b (listed.setIfInBounds i true) k y S→(k=n∧S=Dm T D i∧y=x)∨(k≠n∧At T D b listed k y S):=by
  intro k y S h
  by_cases e:k=n
  ·subst e
   obtain⟨h2,h3⟩:=h.own hsz hI.size hbi hTn hmax
   rw[hs] at h3
   exact .inl ⟨rfl,h2,(a6 h3).symm⟩
  ·exact .inr ⟨e,h.unset hsz (hToth k e)⟩
 refine⟨by simp[hI.size],eW hI.down hsz hpre,hI.agree,hI.tmps.put F ho hI.size hv (fun _ _=>rfl) (fun _ _ _ _ _=>rfl),?_,fun k n' hks hL h=>?_,b,⟨hA.bsz,?_,fun j hb hj hL=>?_,?_,?_,?_,?_,?_,?_⟩⟩
 ·exact hI.below.trans ⟨s1,s2,s3,by omega,fun k hk'=>s5 k (by omega)⟩
 ·rcases Ls.set hL with rfl|hL
  ·rw[hk] at h;cases h;exact hd
  ·exact hI.wrd k n' hks hL h
 ·rcases hA.bar with h|⟨q,h1,h2,h3⟩
  ·exact .inl h
  ·exact .inr ⟨q,h1,h2,.mk hsz (.inr h3)⟩
 ·rcases Ls.set hL with rfl|hL
  ·rw[hk];simp
  ·exact hA.noc j hb hj hL
 ·intro k y S h
  rcases parts k y S h with⟨rfl,rfl,rfl⟩|⟨hne,h⟩
  ·exact hok.mono (fun _ h=>h.dm) (fun _ _=>rfl) rfl
  ·exact (hA.ok k y S h).keep fun hy=>s5 _ (apart k y S h hne hy)
 ·intro k y S h hy
  rw[s4]
  rcases parts k y S h with⟨rfl,rfl,rfl⟩|⟨hne,h⟩
  ·exact hA.lt _ b0 S0 hat hb0
  ·exact hA.lt k y S h hy
 ·intro k y S h hlk hy
  rcases parts k y S h with⟨rfl,rfl,rfl⟩|⟨hne,h⟩
  ·exact hbase
  ·exact hA.base k y S h hlk hy
 ·intro k y S h hlk hy
  rcases parts k y S h with⟨rfl,rfl,rfl⟩|⟨hne,h⟩
  ·omega
  ·exact hA.low k y S h hlk hy
 ·intro k y S h hlk
  rcases parts k y S h with⟨rfl,rfl,rfl⟩|⟨hne,h⟩
  ·exact hown
  ·exact (hA.own k y S h hlk).keep fun hy=>s5 _ (apart k y S h hne hy)
 ·intro k y S k' y' S' h h' hlk hlk' hy hy' he
  rcases parts k y S h with⟨rfl,rfl,rfl⟩|⟨hne,h⟩<;>rcases parts k' y' S' h' with⟨rfl,rfl,rfl⟩|⟨hne',h'⟩
  ·rfl
  ·exact absurd he.symm (apart k' y' S' h' hne' hy')
  ·exact absurd he (apart k y S h hne hy)
  ·exact hA.inj k y S k' y' S' h h' hlk hlk' hy hy' he
theorem Inv.append(F:RegF ops ms)(hr0:Rel B lo D m0 h0 w0)(hlo:lo≤h0.length)(hI:Inv T B lo D m0 w0 a0 listed a w m){i n n2:Nat}{o:Oper}(ho:ops[i]?=some o)(hi:¬ Ls listed i)(hpre:∀ j,(aC ms i).testBit j=true→Ls listed j)
 (hk:T.kd i = .ap n n2) (hA:HA T B lo D b listed w m) (hd:Dp T D i n) (hlon:lo≤n) {b0:Blk} {S0:Nat→Prop} (hat:At T D b listed n b0 S0) (hb0:b0 ≠ .dead)
 {hX h1:List Blk} {v':Value} {w':World} {m':NMap} (hX0:hX.length=T.ln i) (hln:T.ln (i+1)=h1.length) (hget:∀ k,T.ln i≤k→(T.St (i+1)).h[k]?=h1[k]?) (hgetn:(T.St (i+1)).h[n]?=h1[n]?)
 (hp:Post B lo (Dp T D i) m hX w m' h1 w') (hv:VR (Dx (Dp T D i) hX.length h1.length) m' (T.V i) v')
 (htc:Touch (m n).block w w') (hnb:∀ k,hX.length≤k→k<h1.length→(m' k).block=(m n).block∨w.heap.size≤(m' k).block) :
 ∃ m'',Inv T B lo D m0 w0 a0 (listed.setIfInBounds i true) (a.put o.dst v') w' m'':=by
 have hdom:=hr0.dom
 have hil:=aT ho
 have hsz:i<listed.size:=by rw[hI.size];exact hil
 have hl:T.kd i ≠ .q:=by rw[hk];simp
 have hwk:wrK (T.kd i)=some n:=by rw[hk];rfl
 obtain⟨hbs,hbi⟩:=hI.phase F hA hil hi hpre hl
 have hln0:h0.length≤T.ln b:=by have:=hA.lnb;rwa [Trace.ln0] at this
 have hlnb:T.ln b≤T.ln i:=T.ln_mono hbi (by omega)
 have hgr:T.ln i≤h1.length:=by rw[← hX0];exact hp.grow
 rw[hX0] at hv
 have hni:n<T.ln i:=xN hil hwk
 have hDp:∀ n,Dp T D i n→n<T.ln i:=by
  rintro n (hn|⟨j,h2,h3,h4⟩)
  ·have:=hdom n hn;omega
  ·exact d7 h4 (T.ln_mono (F.lt i j h2) (by omega))
 let m'':NMap:=fun n=>if T.ln i≤n∧n<T.ln (i+1) then m' n else m n
 have e0:∀ n,¬(T.ln i≤n∧n<T.ln (i+1))→m'' n=m n:=fun n hn=>d5 hn
 have e1:∀ n,D n→m'' n=m n:=fun n hn=>e0 n (by have:=hdom n hn;omega)
 have e2:∀ j n,j<ops.size→Ls listed j→Dm T D j n→m'' n=m n:=by
  rintro j n hj hL (hn|⟨k,h2,h3,h4⟩)
  ·exact e1 n hn
  ·have hLk : Ls listed k := by
     rcases h2 with rfl|h2
     ·exact hL
     ·exact hI.down j k hL h2
   have hkj:k≤j:=by
    rcases h2 with rfl|h2
    ·exact a9 _
    ·exact Nat.le_of_lt (F.lt j k h2)
   have hne:k≠i:=fun e=>hi (e ▸ hLk)
   exact e0 n fun h=>hne (T.one_owner (by omega) hil ⟨h3,h4⟩ h)
 have e2b:∀ n,n<T.ln i→m'' n=m n:=fun n hn=>e0 n (by omega)
 have e3:∀ n,Dx (Dp T D i) (T.ln i) h1.length n→m'' n=m' n:=by
  rintro n (hn|hn)
  ·rw[e0 n (by have:=hDp n hn;omega),hp.agree n hn]
  ·exact b8 ⟨hn.1,by rw[hln];exact hn.2⟩
 have sub:∀ n,Dx (Dp T D i) (T.ln i) h1.length n→Dm T D i n:=by
  rintro n (hn|hn)
  ·exact hn.dm
  ·exact .inr ⟨i,.inl rfl,hn.1,by rw[hln];exact hn.2⟩
 have hT:∀ k,T.Tch i k↔(T.ln i≤k∧k<T.ln (i+1))∨k=n:=fun k=>⟨fun h=>by
  rcases h with h|h
  ·exact .inl h
  ·rw[hwk] at h;exact .inr (a6 h).symm,fun h=>by
  rcases h with h|rfl
  ·exact .inl h
  ·exact .inr hwk⟩
 have hmax:∀ n',T.Tch i n'→∀ k,b≤k→k<ops.size→Ls listed k→T.Tch k n'→k≤i:=by
  intro n' hn k hk' hks hL ht
  have hne:k≠i:=fun e=>hi (e ▸ hL)
  rcases (hT n').1 hn with hn'|rfl
  ·rcases ht with ht|ht
   ·rw[T.one_owner hks hil ht hn'];exact a9 _
   ·rcases hI.wrd k n' hks hL ht with h|⟨j,h2,h3⟩
    ·have:=hdom n' h;omega
    ·have hji:=T.one_owner (by have:=F.lt k j h2;omega) hil h3 hn'
     rw[hji] at h2
     exact absurd (hI.down k i hL h2) hi
  ·rcases ht with⟨h3,h4⟩|h3
   ·rcases d4 i k with h|h
    ·have:=T.ln_mono (i:=i) (j:=k) (by omega) (by omega)
     omega
    ·exact h
   ·exact Nat.le_of_lt (hI.wait_lt F hi hL (ordered F hdom hil hks hne h3 (.inl (by rw[hk];simp[fU,eF])) (by omega))).2
 have parts:∀ k x S,At T D b (listed.setIfInBounds i true) k x S→((T.ln i≤k∧k<T.ln (i+1))∧S=Dm T D i∧h1[k]?=some x)∨(k=n∧S=Dm T D i∧h1[n]?=some x)∨(¬(T.ln i≤k∧k<T.ln (i+1))∧k≠n∧At T D b listed k x S):=by
  intro k x S h
  by_cases ht:T.Tch i k
  ·obtain⟨h2,h3⟩:=h.own hsz hI.size hbi ht (hmax k ht)
   rcases (hT k).1 ht with h4|rfl
   ·rw[hget k h4.1] at h3
    exact .inl ⟨h4,h2,h3⟩
   ·rw[hgetn] at h3
    exact .inr (.inl ⟨rfl,h2,h3⟩)
  ·exact .inr (.inr ⟨fun hc=>ht ((hT k).2 (.inl hc)),fun e=>ht ((hT k).2 (.inr e)),h.unset hsz ht⟩)
 have hS:∀ n x S,At T D b listed n x S→∀ k,S k→m'' k=m k:=by
  intro n x S h k hk
  cases h with
  | old h1' h2 h3=>exact e2b k (d7 (hA.below_b hdom k hk) hlnb)
  | cur j h1' h2 h3 h4 h5 h6=>exact e2 j k h2 h3 hk
 have hnew:∀ n,(T.ln i≤n∧n<T.ln (i+1))→Dx (Dp T D i) hX.length h1.length n:=fun n h2=>.inr ⟨by omega,by omega⟩
 have hnewm:∀ n,(T.ln i≤n∧n<T.ln (i+1))→m'' n=m' n:=fun n h2=>b8 h2
 have hold:Dx (Dp T D i) hX.length h1.length n:=.inl hd
 have hmn:m'' n=m n:=e2b n hni
 have hmn':m' n=m n:=hp.agree n hd
 have hbase:=hA.base n b0 S0 hat hlon hb0
 have apart:∀ k y S,At T D b listed k y S→k≠n→y ≠ .dead→(m k).block≠(m n).block:=by
  intro k y S h hne hy he
  rcases d4 k lo with h'|h'
  ·have:=hA.low k y S h h' hy;omega
  ·exact hne (hA.inj k y S n b0 S0 h hat h' hlon hy hb0 he)
 have keep:∀ k y S,At T D b listed k y S→k≠n→y ≠ .dead→w'.heap[(m k).block]?=w.heap[(m k).block]?:=fun k y S h hne hy=>htc.2 _ (hA.lt k y S h hy) (apart k y S h hne hy)
 have clash:∀ k k' y' S',(T.ln i≤k∧k<T.ln (i+1))→At T D b listed k' y' S'→k'≠n→y' ≠ .dead→(m' k).block≠(m k').block:=by
  intro k k' y' S' hk1 h' hne hy he
  rcases hnb k (by omega) (by omega) with h2|h2
  ·exact apart k' y' S' h' hne hy (by rw[← he,h2])
  ·have:=hA.lt k' y' S' h' hy;omega
 refine⟨m'',by simp[hI.size],eW hI.down hsz hpre,fun n hn=>(e1 n hn).trans (hI.agree n hn),?_,hI.below.trans hp.below,fun k n' hks hL h=>?_,b,⟨hA.bsz,?_,fun j hbj hj hL=>?_,?_,?_,?_,?_,?_,?_⟩⟩
 ·exact hI.tmps.put F ho hI.size (hv.mono sub e3) e1 e2
 ·rcases Ls.set hL with rfl|hL
  ·rw[hwk] at h;cases h;exact hd
  ·exact hI.wrd k n' hks hL h
 ·rcases hA.bar with h|⟨q,h1',h2,h3⟩
  ·exact .inl h
  ·exact .inr ⟨q,h1',h2,.mk hsz (.inr h3)⟩
 ·rcases Ls.set hL with rfl|hL
  ·rw[hk];simp
  ·exact hA.noc j hbj hj hL
 ·intro k y S h
  rcases parts k y S h with⟨h2,rfl,h5⟩|⟨rfl,rfl,h5⟩|⟨hn,hne,h⟩
  ·have hd':=hnew k h2
   have:=hp.rel.ok k y hd' h5
   rw[hX0] at this hd'
   exact this.mono sub e3 (e3 k hd')
  ·have:=hp.rel.ok k y hold h5
   have hd':=hold
   rw[hX0] at this hd'
   exact this.mono sub e3 (e3 k hd')
  ·by_cases hdead:y = .dead
   ·subst hdead;trivial
   ·exact ((hA.ok k y S h).keep fun hy=>keep k y S h hne hy).mono (fun _ h=>h) (hS k y S h) (e0 k hn)
 ·intro k y S h hy
  rcases parts k y S h with⟨h2,rfl,h5⟩|⟨rfl,rfl,h5⟩|⟨hn,hne,h⟩
  ·rw[hnewm k h2];exact hp.rel.lt k y (hnew k h2) h5 hy
  ·have:=hp.rel.lt k y hold h5 hy
   rw[hmn'] at this
   rw[hmn];exact this
  ·rw[e0 k hn];exact d7 (hA.lt k y S h hy) htc.1.size
 ·intro k y S h hlk hy
  rcases parts k y S h with⟨h2,rfl,h5⟩|⟨rfl,rfl,h5⟩|⟨hn,hne,h⟩
  ·rw[hnewm k h2];exact hp.rel.base k y (hnew k h2) hlk h5 hy
  ·rw[hmn];exact hbase
  ·rw[e0 k hn];exact hA.base k y S h hlk hy
 ·intro k y S h hlk hy
  rcases parts k y S h with⟨h2,rfl,h5⟩|⟨rfl,rfl,h5⟩|⟨hn,hne,h⟩
  ·omega
  ·omega
  ·rw[e0 k hn];exact hA.low k y S h hlk hy
 ·intro k y S h hlk
  rcases parts k y S h with⟨h2,rfl,h5⟩|⟨rfl,rfl,h5⟩|⟨hn,hne,h⟩
  ·exact (hp.rel.own k y (hnew k h2) hlk h5).congr (hnewm k h2)
  ·exact (hp.rel.own k y hold hlk h5).congr (hmn.trans hmn'.symm)
  ·exact ((hA.own k y S h hlk).keep fun hy=>keep k y S h hne hy).congr (e0 k hn)
 ·intro k y S k' y' S' h h' hlk hlk' hy hy' he
  rcases parts k y S h with⟨h2,rfl,h5⟩|⟨rfl,rfl,h5⟩|⟨hn,hne,h⟩<;>rcases parts k' y' S' h' with⟨h2',rfl,h5'⟩|⟨rfl,rfl,h5'⟩|⟨hn',hne',h'⟩
  ·rw[hnewm k h2,hnewm k' h2'] at he
   exact hp.rel.inj k k' y y' (hnew k h2) (hnew k' h2') hlk hlk' h5 h5' hy hy' he
  ·rw[hnewm k h2,hmn,← hmn'] at he
   exact hp.rel.inj k k' y y' (hnew k h2) hold hlk hlk' h5 h5' hy hy' he
  ·rw[hnewm k h2,e0 k' hn'] at he
   exact absurd he (clash k k' y' S' h2 h' hne' hy')
  ·rw[hnewm k' h2',hmn,← hmn'] at he
   exact hp.rel.inj k k' y y' hold (hnew k' h2') hlk hlk' h5 h5' hy hy' he
  ·rfl
  ·rw[hmn,e0 k' hn'] at he
   exact absurd he.symm (apart k' y' S' h' hne' hy')
  ·rw[e0 k hn,hnewm k' h2'] at he
   exact absurd he.symm (clash k' k y S h2' h hne hy)
  ·rw[e0 k hn,hmn] at he
   exact absurd he (apart k y S h hne hy)
  ·rw[e0 k hn,e0 k' hn'] at he
   exact hA.inj k y S k' y' S' h h' hlk hlk' hy hy' he
theorem Inv.barrier(F:RegF ops ms)(hr0:Rel B lo D m0 h0 w0)(_hlo:lo≤h0.length)(hI:Inv T B lo D m0 w0 a0 listed a w m){i:Nat}{o:Oper}(ho:ops[i]?=some o)(hi:¬ Ls listed i)(hpre:∀ j,(aC ms i).testBit j=true→Ls listed j)
 (hk:T.kd i = .ch) {h1:List Blk} {v':Value} {w':World} {m':NMap} (hs:(T.St (i+1)).h=h1) (hp:Post B lo (Dx D h0.length (T.ln i)) m (T.St i).h w m' h1 w') (hv:VR (Dx (Dx D h0.length (T.ln i)) (T.ln i) h1.length) m' (T.V i) v') :
 Inv T B lo D m0 w0 a0 (listed.setIfInBounds i true) (a.put o.dst v') w' m':=by
 have hdom:=hr0.dom
 have hil:=aT ho
 have hsz:i<listed.size:=by rw[hI.size];exact hil
 have hl:T.kd i ≠ .q:=by rw[hk];simp
 have hgr:T.ln i≤h1.length:=hp.grow
 have hln:T.ln (i+1)=h1.length:=by unfold Trace.ln;rw[hs]
 have h0l:h0.length≤T.ln i:=by rw[← Trace.ln0 (T:=T)];exact T.ln_mono (f0 _) (by omega)
 have before:∀ k,k<ops.size→Ls listed k→T.kd k ≠ .q→k<i:=by
  intro k hks hL hq
  have hne:k≠i:=fun e=>hi (e ▸ hL)
  rcases d4 k i with h|h
  ·exact h
  ·exact absurd (hI.down k i hL (T.after F (by omega) hks hk hq)) hi
 have hnew:∀ j n,j<ops.size→Ls listed j→Dm T D j n→m' n=m n:=by
  rintro j n hj hL (hn|⟨k,h2,h3,h4⟩)
  ·exact hp.agree n (.inl hn)
  ·have hLk : Ls listed k := by
     rcases h2 with rfl|h2
     ·exact hL
     ·exact hI.down j k hL h2
   have hkj:k≤j:=by
    rcases h2 with rfl|h2
    ·exact a9 _
    ·exact Nat.le_of_lt (F.lt j k h2)
   have hki:=before k (by omega) hLk (T.loud (by omega) (.inl ⟨h3,h4⟩))
   refine hp.agree n (.inr ⟨?_,d7 h4 (T.ln_mono hki (by omega))⟩)
   rw[← Trace.ln0 (T:=T)]
   exact e6 (T.ln_mono (f0 _) (by omega)) h3
 have hfull:Dx (Dx D h0.length (T.ln i)) (T.ln i) h1.length=Dx D h0.length (T.ln (i+1)):=by rw[hln];exact Dx.trans h0l hgr
 have sub:∀ n,Dx D h0.length (T.ln (i+1)) n→Dm T D i n:=by
  rintro n (hn|hn)
  ·exact .inl hn
  ·obtain⟨j,_,h2,h3,h4⟩:=T.owner (a:=0) (i:=i+1) (by omega) (by omega) (by rw[Trace.ln0];exact hn.1) hn.2
   refine .inr ⟨j,?_,h3,h4⟩
   rcases d4 j i with h|h
   ·exact .inr (T.chain_waits F hil hk j h (T.loud (by omega) (.inl ⟨h3,h4⟩)))
   ·exact .inl (by omega)
 have hrel:Rel B lo (Dx D h0.length (T.ln (i+1))) m' (T.St (i+1)).h w':=by
  have:=hp.rel
  unfold Trace.ln at hfull
  rw[hs] at hfull ⊢
  unfold Trace.ln
  rw[hs]
  rwa [hfull] at this
 have noT:∀ k n,i+1≤k→k<ops.size→Ls (listed.setIfInBounds i true) k→¬ T.Tch k n:=by
  intro k n h1' h2 hL ht
  rcases Ls.set hL with rfl|hL
  ·omega
  ·have:=before k h2 hL (T.loud h2 ht);omega
 have at':∀ n x S,At T D (i+1) (listed.setIfInBounds i true) n x S→S=Dx D h0.length (T.ln (i+1))∧Dx D h0.length (T.ln (i+1)) n∧(T.St (i+1)).h[n]?=some x:=by
  intro n x S h
  cases h with
  | old h1' h2 h3=>exact⟨rfl,h1',h3⟩
  | cur j h1' h2 h3 h4 h5 h6=>exact absurd h4 (noT j n h1' h2 h3)
 refine⟨by simp[hI.size],eW hI.down hsz hpre,fun n hn=>(hp.agree n (.inl hn)).trans (hI.agree n hn),?_,hI.below.trans hp.below,fun k n hks hL h=>?_,i+1,⟨by omega,.inr ⟨i,rfl,hk,.mk hsz (.inl rfl)⟩,fun j hb hj hL hc=>?_,?_,?_,?_,?_,?_,?_⟩⟩
 ·exact hI.tmps.put F ho hI.size (by rw[hfull] at hv;exact hv.mono sub (fun _ _=>rfl)) (fun n hn=>hp.agree n (.inl hn)) hnew
 ·rcases Ls.set hL with rfl|hL
  ·rw[hk] at h;cases h
  ·exact hI.wrd k n hks hL h
 ·rcases Ls.set hL with rfl|hL
  ·omega
  ·have:=before j hj hL (by rw[hc];simp);omega
 ·intro n x S h
  obtain⟨rfl,h2,h3⟩:=at' n x S h
  exact hrel.ok n x h2 h3
 ·intro n x S h
  obtain⟨rfl,h2,h3⟩:=at' n x S h
  exact hrel.lt n x h2 h3
 ·intro n x S h hl'
  obtain⟨rfl,h2,h3⟩:=at' n x S h
  exact hrel.base n x h2 hl' h3
 ·intro n x S h hl'
  obtain⟨rfl,h2,h3⟩:=at' n x S h
  exact hrel.low n x h2 hl' h3
 ·intro n x S h hl'
  obtain⟨rfl,h2,h3⟩:=at' n x S h
  exact hrel.own n x h2 hl' h3
 ·intro n x S n' x' S' h h' hl1 hl2
  obtain⟨rfl,h2,h3⟩:=at' n x S h
  obtain⟨rfl,h2',h3'⟩:=at' n' x' S' h'
  exact hrel.inj n n' x x' h2 h2' hl1 hl2 h3 h3'
end
end Go.Rex.Free
namespace Go.Rex.Free
open Go.RowKit
section
variable {C:Ctx} {P:Program} {ops:Array Oper} {ms:List Nat} {tm0:List Value} {h0:List Blk} {T:Trace C P ops ms tm0 h0} {B lo:Nat} {D:Nat→Prop} {m0:NMap} {w0:World} {a0:Act}
variable {listed:Array Bool} {a:Act} {w:World} {m:NMap} {b:Nat}
theorem Inv.done(F:RegF ops ms)(hr0:Rel B lo D m0 h0 w0)(hlo:lo≤h0.length)(hI:Inv T B lo D m0 w0 a0 listed a w m)(hall:∀ i,i<ops.size→Ls listed i) :
 Post B lo D m0 h0 w0 m (T.St ops.size).h w∧VRs (Dx D h0.length (T.ln ops.size)) m (T.St ops.size).tm a.tmps.toList∧a.defers=a0.defers:=by
 have h0l:h0.length≤T.ln ops.size:=by rw[← Trace.ln0 (T:=T)];exact T.ln_mono (f0 _) (a9 _)
 obtain⟨b,hA⟩:=hI.heap
 have hrel:Rel B lo (Dx D h0.length (T.ln ops.size)) m (T.St ops.size).h w:=hI.full F hr0 hlo hA (a9 _) hA.bsz (fun k hk _=>hall k hk) (fun k h1 h2=>by omega)
 refine⟨⟨hI.agree,hrel,hI.below,h0l⟩,⟨by rw[hI.tmps.len,T.tm_len (a9 _)],fun t v v' hv hv'=>?_⟩,hI.tmps.df⟩
 have hlen:=T.tm_len (i:=ops.size) (a9 _)
 have htl:t<tm0.length:=by
  obtain⟨h1,_⟩:=a7.1 hv
  rw[hlen] at h1
  exact h1
 by_cases hw:∃(j:Nat) (p:Oper),ops[j]?=some p∧p.dst=some t
 ·obtain⟨j,p,hp,hd⟩:=hw
  have hj:=aT hp
  rw[T.tm_new F hj (a9 _) hp hd htl] at hv
  obtain rfl:=a6 hv
  refine (hI.tmps.new j p t v' hp (hall j hj) hd hv').mono ?_ (fun _ _=>rfl)
  rintro n (hn|⟨k,h2,h3,h4⟩)
  ·exact .inl hn
  ·have hkj : k ≤ j := by
     rcases h2 with rfl|h2
     ·exact a9 _
     ·exact Nat.le_of_lt (F.lt j k h2)
   refine .inr ⟨?_,d7 h4 (T.ln_mono (by omega) (a9 _))⟩
   rw[← Trace.ln0 (T:=T)]
   exact e6 (T.ln_mono (f0 _) (by omega)) h3
 ·rw[T.tm_old (a9 _) fun k o _ ho hd=>hw ⟨k,o,ho,hd⟩] at hv
  exact (hI.tmps.old t v v' (fun k o ho _ hd=>hw ⟨k,o,ho,hd⟩) hv hv').mono (fun _=>.inl) (fun _ _=>rfl)
theorem Inv.pre(F:RegF ops ms)(hI:Inv T B lo D m0 w0 a0 listed a w m){i:Nat}{o:Oper}(ho:ops[i]?=some o)(h:∀ e∈o.after,Region.binds .any e=true→Ls listed e.on):∀ j,(aC ms i).testBit j=true→Ls listed j:=by
 intro j hj
 obtain⟨e,he,hb,h2⟩:=(F.wait i o ho j).1 hj
 rcases h2 with rfl|h2
 ·exact h e he hb
 ·exact hI.down e.on j (h e he hb) h2
theorem qX{S:Nat→Prop}{m:NMap}{v v':Value}{n:Nat}(h:VR S m v v')(hp:aB v=some n):S n:=by
 cases h<;>simp only[aB] at hp<;>first
  | (cases hp;done)
  | (cases hp;assumption)
theorem oS{ρ:Operand→Value}{o:Oper}{h:List Blk}{r:Value×List Blk×Option Nat}(hx:hop P ρ o h=some r):xop C P ρ o h=some r:=by
 unfold xop;rw[hx]
theorem Inv.all(hC:CtxOk P C)(F:RegF ops ms)(hr0:Rel B lo D m0 h0 w0)(hlo:lo≤h0.length)(hwr:WrOk lo (T.St ops.size).wr){ro:Option Nat}{n:Nat}{Q:Exit→Act→World→Prop}
 (hQ:∀ a' w' m',Post B lo D m0 h0 w0 m' (T.St ops.size).h w'→VRs (Dx D h0.length (T.ln ops.size)) m' (T.St ops.size).tm a'.tmps.toList→a'.defers=a0.defers→Q .normal a' w') :
 ∀(fuel:Nat) (listed:Array Bool) (a:Act) (w:World) (m:NMap),Inv T B lo D m0 w0 a0 listed a w m→listed.toList.count false≤fuel→wpAnyIn (Fw ro) n P .any ops Q fuel listed a w:=by
 intro fuel
 induction fuel with
 | zero =>
  intro listed a w m hI hc
  have hno:Region.ready .any ops listed=[]:=by
   cases hr:Region.ready .any ops listed with
   | nil=>rfl
   | cons i l =>
    obtain⟨h1,h2,_⟩:=kT hI.size (hr ▸ List.mem_cons_self:i∈Region.ready .any ops listed)
    have:=count_set (by rw[hI.size];exact h1) h2
    omega
  obtain⟨h1,h2,h3⟩:=hI.done F hr0 hlo (hH F hI.size hno)
  exact⟨hno,hQ a w m h1 h2 h3⟩
 | succ fuel ih =>
  intro listed a w m hI hc
  refine⟨fun hno=>?_,fun i hir=>?_⟩
  ·obtain⟨h1,h2,h3⟩:=hI.done F hr0 hlo (hH F hI.size hno)
   exact hQ a w m h1 h2 h3
  ·obtain⟨hil,hi,o,ho,hedge⟩:=kT hI.size hir
   have hpre:=hI.pre F ho hedge
   have hcnt:=count_set (listed:=listed) (by rw[hI.size];exact hil) hi
   have hgl:=hr0.gl.mono (fun _ h=>h) hI.agree (a9 _) hI.below
   have hgq:Gl B (Dp T D i) m w:=hgl.mono (fun _=>.inl) (fun _ _=>rfl)
   have hBw:B≤w.heap.size:=e6 hr0.le hI.below.size
   have hgp:Gl w.heap.size (Dp T D i) m w:=hgq.mono (fun _ h=>h) (fun _ _=>rfl) hBw
   have hρ:=hI.tmps.operands hgl F hI.down ho hi hpre
   have hwant:=hI.tmps.wanted F hI.down ho hi hpre
   have hdom:=hr0.dom
   obtain⟨b,hA⟩:=hI.heap
   have h0l:h0.length≤T.ln i:=by rw[← Trace.ln0 (T:=T)];exact T.ln_mono (f0 _) (by omega)
   have hDp:∀ k,Dp T D i k→k<T.ln i:=by
    rintro k (hk|⟨j,h2,h3,h4⟩)
    ·have:=hdom k hk;omega
    ·exact d7 h4 (T.ln_mono (F.lt i j h2) (by omega))
   unfold wpOpIn
   rw[ho]
   simp only
   rw[hwant]
   have hkp:=T.kp i o ho
   generalize hkd:T.kd i=kk at hkp
   cases hkp with
   | skip vv hw hs =>
    rw[d5 (by rw[hw];simp)]
    refine⟨fun _ _=>trivial,?_⟩
    exact ih _ _ _ m (hI.quiet F ho hpre hkd (by rw[vv];exact VR.undef)) (by omega)
   | pure hw hp hs =>
    rw[b8 hw]
    obtain⟨v',w',h1,hst,h2⟩:=lX hρ hp w
    refine⟨fun _ _=>trivial,?_⟩
    show o.uponIn (Fw ro) n P a _ Q ((o.semAt ro a.eval).run P w)
    rw[Oper.semAt_eq _ _ _ (iS hp),h1]
    exact ih _ _ _ m ((hI.quiet F ho hpre hkd (h2.mono (fun _ h=>h.dm) (fun _ _=>rfl))).still hst) (by omega)
   | mk nb hw hx ht hb hs =>
    rw[b8 hw]
    obtain⟨_,nb',hnb,hall⟩:=uW ht hx
    obtain rfl:=List.append_cancel_left hnb
    have hx':=hall (lone (T.ln i) 0 .dead) (bH _ _ _)
    have hR:Rel w.heap.size (T.ln i) (Dp T D i) m (lone (T.ln i) 0 .dead) w:=Rel.lone hgp hDp trivial fun h=>absurd rfl h
    refine xop_in' hC hR (by rw[bH];exact a9 _) hρ (oS (C:=C) hx') (fun _ h=>by cases h) _ fun v' w' m' hp hv=>?_
    have hlen:T.ln (i+1)=(lone (T.ln i) 0 .dead++nb).length:=by unfold Trace.ln;rw[hs];simp[bH]
    obtain⟨m'',hI'⟩:=hI.made F hr0 hlo ho hi hpre (by rw[hkd];simp) (by rw[hkd];simp) (by rw[hkd];rfl) hA (bH _ _ _) hlen (fun k hk=>by
     rw[hs]
     simp only
     rw[b7 hk,b7 (by rw[bH];exact hk),bH]) hp hv
    exact ih _ _ _ m'' hI' (by omega)
   | rd n' nb hw hx ht hb hr hs =>
    rw[b8 hw]
    obtain⟨nb',hnb,_,hall,y,hy,hyn⟩:=uF ht hx
    obtain rfl:=List.append_cancel_left hnb
    have hd:Dp T D i n':=qX (hρ y hy) hyn
    have hni:=hDp n' hd
    obtain⟨x,hxn⟩:∃ x,(T.St i).h[n']?=some x:=⟨_,b5 hni⟩
    obtain⟨S,hat,hS⟩:=hI.sees F hdom hA hil hi hpre (.inl (by rw[hkd];simp[fU,eF])) hd hxn
    have hR:Rel w.heap.size (T.ln i) (Dp T D i) m (lone (T.ln i) n' x) w:=Rel.lone hgp hDp ((hA.ok n' x S hat).mono hS (fun _ _=>rfl) rfl) (hA.lt n' x S hat)
    have hx':=hall (lone (T.ln i) n' x) (bH _ _ _) (by rw[rR hni,hxn])
    refine xop_in' hC hR (by rw[bH];exact a9 _) hρ (oS (C:=C) hx') (fun _ h=>by cases h) _ fun v' w' m' hp hv=>?_
    have hlen:T.ln (i+1)=(lone (T.ln i) n' x++nb).length:=by unfold Trace.ln;rw[hs];simp[bH]
    obtain⟨m'',hI'⟩:=hI.made F hr0 hlo ho hi hpre (by rw[hkd];simp) (by rw[hkd];simp) (by rw[hkd];rfl) hA (bH _ _ _) hlen (fun k hk=>by
     rw[hs]
     simp only
     rw[b7 hk,b7 (by rw[bH];exact hk),bH]) hp hv
    exact ih _ _ _ m'' hI' (by omega)
   | ap n' n2 x nb hw hx ht hb hr hr2 hs =>
    rw[b8 hw]
    obtain⟨_,hne,⟨b0,hb0,hnd⟩,⟨x',nb',hxx,hall⟩,a1,a2,_,_,_,_,_,_,hoe,hy1,hy2⟩:=qF ht hx
    have hd:Dp T D i n':=qX (hρ a1 (by rw[hoe];simp[Op.operands,Call.operands])) hy1
    have hd2:Dp T D i n2:=qX (hρ a2 (by rw[hoe];simp[Op.operands,Call.operands])) hy2
    have hni:=hDp n' hd
    have hni2:=hDp n2 hd2
    have hlon:lo≤n':=by
     have:=T.wr_le (i:=i+1) (j:=ops.size) hil (a9 _) hwr
     rw[hs] at this
     exact this.min.2 n' rfl
    obtain⟨x2,hxn2⟩:∃ x,(T.St i).h[n2]?=some x:=⟨_,b5 hni2⟩
    obtain⟨S,hat,hS⟩:=hI.sees F hdom hA hil hi hpre (.inl (by rw[hkd];simp[fU,eF])) hd hb0
    obtain⟨S2,hat2,hS2⟩:=hI.sees F hdom hA hil hi hpre (.inl (by rw[hkd];simp[fU,eF])) hd2 hxn2
    have hR:Rel B lo (Dp T D i) m (iF (T.ln i) n' b0 n2 x2) w:=by
     refine⟨e6 hr0.le hI.below.size,fun k hk=>by rw[dV];exact hDp k hk,?_,?_,?_,?_,?_,?_,hgq⟩
     ·intro k y hk hy
      rcases gN hy with⟨rfl,rfl⟩|⟨rfl,rfl⟩|rfl
      ·exact (hA.ok _ _ S hat).mono hS (fun _ _=>rfl) rfl
      ·exact (hA.ok _ _ S2 hat2).mono hS2 (fun _ _=>rfl) rfl
      ·trivial
     ·intro k y hk hy hyd
      rcases gN hy with⟨rfl,rfl⟩|⟨rfl,rfl⟩|rfl
      ·exact hA.lt _ _ S hat hyd
      ·exact hA.lt _ _ S2 hat2 hyd
      ·exact absurd rfl hyd
     ·intro k y hk hl hy hyd
      rcases gN hy with⟨rfl,rfl⟩|⟨rfl,rfl⟩|rfl
      ·exact hA.base _ _ S hat hl hyd
      ·exact hA.base _ _ S2 hat2 hl hyd
      ·exact absurd rfl hyd
     ·intro k y hk hl hy hyd
      rcases gN hy with⟨rfl,rfl⟩|⟨rfl,rfl⟩|rfl
      ·exact hA.low _ _ S hat hl hyd
      ·exact hA.low _ _ S2 hat2 hl hyd
      ·exact absurd rfl hyd
     ·intro k y hk hl hy
      rcases gN hy with⟨rfl,rfl⟩|⟨rfl,rfl⟩|rfl
      ·exact hA.own _ _ S hat hl
      ·exact hA.own _ _ S2 hat2 hl
      ·trivial
     ·intro k k' y y' hk hk' hl hl' hy hy' hyd hyd' he
      have hc:∀ k y,(iF (T.ln i) n' b0 n2 x2)[k]?=some y→y ≠ .dead→∃ S,At T D b listed k y S:=by
       intro k y hy hyd
       rcases gN hy with⟨rfl,rfl⟩|⟨rfl,rfl⟩|rfl
       ·exact⟨S,hat⟩
       ·exact⟨S2,hat2⟩
       ·exact absurd rfl hyd
      obtain⟨_,g1⟩:=hc k y hy hyd
      obtain⟨_,g2⟩:=hc k' y' hy' hyd'
      exact hA.inj k y _ k' y' _ g1 g2 hl hl' hyd hyd' he
    have hx':=hall (iF (T.ln i) n' b0 n2 x2) (dV _ _ _ _ _) (by rw[zR hni hne,hb0]) (by rw[xT (by exact hni2),hxn2])
    obtain⟨v',w',m',h1,h2,h3,h4,h5⟩:=Bn hR (by rw[dV];omega) hρ ht hx' hlon
    have hlx:(T.St i).h.length=T.ln i:=rfl
    have hxe:nb'=nb∧x'=x:=by
     have e1:((T.St i).h.set n' x'++nb').length=((T.St i).h.set n' x++nb).length:=by rw[hxx]
     obtain⟨e2,e3⟩:=List.append_inj hxx.symm (by simp)
     refine⟨e3,?_⟩
     have e4:((T.St i).h.set n' x')[n']?=some x':=d8 hni
     rw[e2,d8 hni] at e4
     exact (a6 e4).symm
    obtain⟨rfl,rfl⟩:=hxe
    have hlen:T.ln (i+1)=((iF (T.ln i) n' b0 n2 x2).set n' x'++nb').length:=by unfold Trace.ln;rw[hs];simp[dV]
    obtain⟨m'',hI'⟩:=hI.append F hr0 hlo ho hi hpre hkd hA hd hlon hat hnd (dV _ _ _ _ _) hlen (fun k hk=>by
     rw[hs]
     simp only
     rw[b7 (by rw[i8];exact hk),b7 (by rw[i8,dV];exact hk),i8,i8,dV]) (by
     rw[hs]
     simp only
     rw[b4 (by rw[i8];exact hni),b4 (by rw[i8,dV];exact hni),d8 hni,d8 (by rw[dV];exact hni)]) h2 h3 h4 h5
    refine⟨fun _ _=>trivial,?_⟩
    show o.uponIn (Fw ro) n P a _ Q ((o.semAt ro a.eval).run P w)
    rw[Oper.semAt_eq _ _ _ (iN hx),h1]
    exact ih _ _ _ m'' hI' (by omega)
   | wr n' x hw hx ht hb hr hs =>
    rw[b8 hw]
    obtain⟨_,hvu,⟨b0,hb0,hnd⟩,⟨x',hxx,hall⟩,y,hy,hyn⟩:=uR ht hx
    have hd:Dp T D i n':=qX (hρ y hy) hyn
    have hni:=hDp n' hd
    have hlon:lo≤n':=by
     have:=T.wr_le (i:=i+1) (j:=ops.size) hil (a9 _) hwr
     rw[hs] at this
     exact this.min.2 n' rfl
    obtain⟨S,hat,hS⟩:=hI.sees F hdom hA hil hi hpre (.inl (by rw[hkd];simp[fU,eF])) hd hb0
    have hR:Rel B lo (Dp T D i) m (lone (T.ln i) n' b0) w:=Rel.loneW hgq hBw hDp ((hA.ok n' b0 S hat).mono hS (fun _ _=>rfl) rfl) (hA.lt n' b0 S hat) hlon (hA.base n' b0 S hat hlon) (hA.own n' b0 S hat hlon)
    have hx':=hall (lone (T.ln i) n' b0) (by rw[rR hni,hb0])
    obtain⟨w',h1,h2,h3⟩:=Bs hR hρ ht hx' hlon
    have hset:(T.St (i+1)).h[n']?=some x:=by rw[hs];exact d8 hni
    have hxe:x'=x:=by
     have e1:((T.St i).h.set n' x')[n']?=some x':=d8 hni
     rw[← hxx,d8 hni] at e1
     exact (a6 e1).symm
    have hget:((lone (T.ln i) n' b0).set n' x')[n']?=some x:=by rw[d8 (by rw[bH];exact hni),hxe]
    have hdx:Dx (Dp T D i) (lone (T.ln i) n' b0).length ((lone (T.ln i) n' b0).set n' x').length=Dp T D i:=by rw[i8,Dx.refl]
    have hok:=h2.rel.ok n' x (.inl hd) hget
    have hown:=h2.rel.own n' x (.inl hd) hlon hget
    rw[hdx] at hok
    refine⟨fun _ _=>trivial,?_⟩
    show o.uponIn (Fw ro) n P a _ Q ((o.semAt ro a.eval).run P w)
    rw[Oper.semAt_eq _ _ _ (iN hx),h1]
    exact ih _ _ _ m (hI.write F hr0 ho hi hpre hkd hA hd hlon hat hnd hset h3 hok hown (v':=undef) (by rw[hvu];exact VR.undef)) (by omega)
   | all h1 w1 hw hx hb hg hl hr hs =>
    rw[b8 hw]
    have key:∀ k x,Dp T D i k→(T.St i).h[k]?=some x→∃ S,At T D b listed k x S∧∀ j,S j→Dp T D i j:=fun k x hk hx=>hI.sees F hdom hA hil hi hpre (.inr hkd) hk hx
    have hR:Rel w.heap.size (T.ln i) (Dp T D i) m (T.St i).h w:=by
     refine⟨a9 _,hDp,?_,?_,?_,?_,?_,?_,hgp⟩
     ·intro k x hk hx
      obtain⟨S,h1,h2⟩:=key k x hk hx
      exact (hA.ok k x S h1).mono h2 (fun _ _=>rfl) rfl
     ·intro k x hk hx
      obtain⟨S,h1,h2⟩:=key k x hk hx
      exact hA.lt k x S h1
     ·intro k x hk hl;have:=hDp k hk;omega
     ·intro k x hk _ hx
      obtain⟨S,h1,h2⟩:=key k x hk hx
      exact hA.lt k x S h1
     ·intro k x hk hl;have:=hDp k hk;omega
     ·intro k k' x x' hk hk' hl;have:=hDp k hk;omega
    refine xop_in' hC hR (a9 _) hρ hx (rH hg) _ fun v' w' m' hp hv=>?_
    have hlen:T.ln (i+1)=h1.length:=by unfold Trace.ln;rw[hs];simp;omega
    obtain⟨m'',hI'⟩:=hI.made F hr0 hlo ho hi hpre (by rw[hkd];simp) (by rw[hkd];simp) (by rw[hkd];rfl) hA rfl hlen (fun k hk=>by
     rw[hs]
     simp only
     rw[b7 hk,g7]
     congr 1
     unfold Trace.ln at hk
     omega) hp hv
    exact ih _ _ _ m'' hI' (by omega)
   | ch h1 w1 hw hx hb hn hl hs =>
    rw[b8 hw]
    obtain⟨_,hbi⟩:=hI.phase F hA hil hi hpre (by rw[hkd];simp)
    have hR:Rel B lo (Dx D h0.length (T.ln i)) m (T.St i).h w:=by
     refine hI.full F hr0 hlo hA (by omega) hbi (fun k hk hq=>hpre k (T.chain_waits F hil hkd k hk hq)) fun k h1 h2 hL=>?_
     by_cases hq:T.kd k = .q
     ·exact hq
     ·have hne:k≠i:=fun e=>hi (e ▸ hL)
      exact absurd (hI.down k i hL (T.after F (by omega) h2 hkd hq)) hi
    have hw1:WrOk lo w1:=by
     have:=T.wr_le (i:=i+1) (j:=ops.size) hil (a9 _) hwr
     rw[hs] at this
     exact this.min.2
    refine xop_in' hC hR (e6 hlo h0l) (fun x hx'=>(hρ x hx').mono ?_ (fun _ _=>rfl)) hx hw1 _ fun v' w' m' hp hv=>?_
    ·rintro k (hk|⟨j,h2,h3,h4⟩)
     ·exact .inl hk
     ·have hji:=F.lt i j h2
      refine .inr ⟨?_,d7 h4 (T.ln_mono hji (by omega))⟩
      rw[← Trace.ln0 (T:=T)]
      exact e6 (T.ln_mono (f0 _) (by omega)) h3
    ·exact ih _ _ _ m' (hI.barrier F hr0 hlo ho hi hpre hkd (h1:=h1) (by rw[hs]) hp hv) (by omega)
end
theorem freeSound{P:Program}{C:Ctx}(hC:CtxOk P C)(hm:P.follows .mixedOrders=true){id:Nat}{ops:Array Oper}{tm tm':List Value}{h h':List Blk}{wr:Option Nat}(hv:dY C P ops tm h=some (tm',h',wr))
 {ro':Option Nat} {n B lo:Nat} {D:Nat→Prop} {m:NMap} {w:World} {a:Act} {Q:Exit→Act→World→Prop} (hr:Rel B lo D m h w) (hlo:lo≤h.length) (hA:VRs D m tm a.tmps.toList) (hw:WrOk lo wr)
 (hQ:∀ a' w' m',Post B lo D m h w m' h' w'→VRs (Dx D h.length h'.length) m' tm' a'.tmps.toList→a'.defers=a.defers→Q .normal a' w'):(Code.region id ops true).wpIn (Fw ro') n P Q a w:=by
 unfold dY at hv
 split at hv
 ·rename_i hok
  have F:=qD hok
  cases hx:aU C P ops (masks ops.toList []) ops.toList 0 { tm,h,rs:=[],b:=h.length,bar:=none,wr:=none } with
  | none=>rw[hx] at hv;cases hv
  | some s =>
   rw[hx] at hv
   obtain⟨rfl,rfl,rfl⟩:s.tm=tm'∧s.h=h'∧s.wr=wr:=by simpa using hv
   obtain⟨T,hT⟩:=oP hx
   have hrd:=hr.frame (w':=w.drew) ((Below.refl _ _).drew)
   have hno:∀ i,¬ Ls (Array.replicate ops.size false) i:=by
    intro i hi
    unfold Ls at hi
    simp only[Array.getD_eq_getD_getElem?,Array.getElem?_replicate] at hi
    split at hi<;>simp at hi
   have hat:∀ n x S,At T D 0 (Array.replicate ops.size false) n x S→S=D∧D n∧h[n]?=some x:=by
    intro n x S hx
    cases hx with
    | old h1 h2 h3 =>
     have e:Dx D h.length (T.ln 0)=D:=by rw[Trace.ln0,Dx.refl]
     rw[e] at h1
     rw[T.st0] at h3
     exact⟨e,h1,h3⟩
    | cur j h1 h2 h3=>exact absurd h3 (hno j)
   refine wpIn_region_any hm ?_
   refine Inv.all (T:=T) (m0:=m) (w0:=w.drew) (a0:=a) hC F hrd hlo (by rw[hT];exact hw) ?_ ops.size _ a w.drew m ⟨by simp,fun i j hi=>absurd hi (hno i),fun _ _=>rfl,⟨rfl,hA.len,fun i o t v' _ hi=>absurd hi (hno i),fun t v v' _ h1 h2=>hA.at' t v v' h1 h2⟩,Below.refl _ _,
    fun k n _ hi=>absurd hi (hno k),0,⟨f0 _,.inl rfl,fun i _ _ hi=>absurd hi (hno i),?_,?_,?_,?_,?_,?_⟩⟩ ?_
   ·intro a' w' m' hp hvs hd
    unfold Trace.ln at hvs
    rw[hT] at hp hvs
    exact hQ a' w' m' ((Post.frame hr (w':=w.drew) ((Below.refl _ _).drew)).trans (by rw[Dx.refl];exact hp)) hvs hd
   ·intro n x S hx
    obtain⟨rfl,h1,h2⟩:=hat n x S hx
    exact hrd.ok n x h1 h2
   ·intro n x S hx
    obtain⟨rfl,h1,h2⟩:=hat n x S hx
    exact hrd.lt n x h1 h2
   ·intro n x S hx hl
    obtain⟨rfl,h1,h2⟩:=hat n x S hx
    exact hrd.base n x h1 hl h2
   ·intro n x S hx hl
    obtain⟨rfl,h1,h2⟩:=hat n x S hx
    exact hrd.low n x h1 hl h2
   ·intro n x S hx hl
    obtain⟨rfl,h1,h2⟩:=hat n x S hx
    exact hrd.own n x h1 hl h2
   ·intro n x S n' x' S' hx hx' hl hl'
    obtain⟨rfl,h1,h2⟩:=hat n x S hx
    obtain⟨rfl,h1',h2'⟩:=hat n' x' S' hx'
    exact hrd.inj n n' x x' h1 h1' hl hl' h2 h2'
   ·rw[Array.toList_replicate,List.count_replicate];simp
 ·cases hv
end Go.Rex.Free
namespace Go.Rex
theorem lT{P:Program}{C:Ctx}(hC:CtxOk P C)(hm:P.follows .mixedOrders=true){id:Nat}{ops:Array Oper}{tm tm':List Value}{h h':List Blk}{wr:Option Nat}(hv:cG C P ops tm h=some (tm',h',wr))
 {ro':Option Nat} {n B lo:Nat} {D:Nat→Prop} {m:NMap} {w:World} {a:Act} {Q:Exit→Act→World→Prop} (hr:Rel B lo D m h w) (hlo:lo≤h.length) (hA:VRs D m tm a.tmps.toList) (hw:WrOk lo wr)
 (hQ:∀ a' w' m',Post B lo D m h w m' h' w'→VRs (Dx D h.length h'.length) m' tm' a'.tmps.toList→a'.defers=a.defers→Q .normal a' w'):(Code.region id ops true).wpIn (Fw ro') n P Q a w:=by
 unfold cG at hv
 split at hv
 ·exact Free.freeSound hC hm hv hr hlo hA hw hQ
 ·exact uB hC hm hv hr hlo hA hw hQ
end Go.Rex
namespace Go.Rex
open Go.RowKit
theorem mA{P:Program}(hm:P.follows .mixedOrders=true)(k d:Nat):CtxOk P (ctx P k d):=
 oF (fun _ hC {_ _ _ _ _ _ _} hv {_ _ _ _ _ _ _ _ _} hr hlo hA hw hQ=>lT hC hm hv hr hlo hA hw hQ) k d
theorem nK{P:Program}(hm:P.follows .mixedOrders=true){k d:Nat}{f:FuncId}{args:List Value}{h h':List Blk}{v:Value}{wr:Option Nat}(hv:ecall P k d f args h=some (v,h',wr))
 {B lo:Nat} {D:Nat→Prop} {m:NMap} {w:World} {args':List Value} (hr:Rel B lo D m h w) (hlo:lo≤h.length) (hw:WrOk lo wr) (hargs:VRs D m args args'):Calls P f ⟨args'⟩ w (Good B lo D m h w v h'):=
 (mA hm k d).call hv hr hlo hw hargs
def gm:NMap:=fun g=>match GH[g]? with
 | some (.cells es c)=>⟨g,0,c.length,es⟩
 | _=>⟨g,0,0,0⟩
def ghB:Blk→Bool
 | .cells _ c=>c.all aP
 | _=>false
theorem Bv:GH.all ghB=true:=by decide +kernel
theorem pM(g:Nat):(gm g).block=g∧(gm g).off=0:=by unfold gm;split<;>exact⟨rfl,rfl⟩
theorem Rel.start(w:World)(hw:GW w)(hs:NG≤w.heap.size):Rel w.heap.size NG (fun n=>n<NG) gm GH w:=by
 refine⟨a9 _,fun n h=>h,fun n b hn hb=>?_,fun n b hn hb _=>?_,fun n b hn hl=>?_,fun n b hn _ hb _=>?_,fun n b hn hl=>?_,fun n n' b b' hn _ hl=>?_,⟨fun g hg=>⟨hg,pM g⟩,hs,hw⟩⟩
 ·have h1:=a8.1 Bv b (b6 hb)
  cases b with
  | cells es c =>
   refine⟨by unfold gm;rw[hb],fun i v hv=>?_⟩
   have h2:=hw n es c hb i v hv
   refine⟨v,?_,VR.of_clean depth v (a8.1 h1 v (b6 hv))⟩
   rw[(pM n).1,(pM n).2,g6]
   exact h2
  | _=>cases h1
 ·rw[(pM n).1];exact d7 hn hs
 ·have:n<NG:=hn;omega
 ·rw[(pM n).1];exact d7 hn hs
 ·have:n<NG:=hn;omega
 ·have:n<NG:=hn;omega
def nS:AOut→Bool
 | some (.bool true,_,none)=>true
 | _=>false
theorem oV{P:Program}(hm:P.follows .mixedOrders=true){k d:Nat}{f:FuncId}(hv:nS (ecall P k d f [] GH)=true)(w:World)(hgw:GW w)(hgs:NG≤w.heap.size) :
 Calls P f #[] w fun e w'=>e = .returned (.bool true)∧Below w.heap.size w w':=by
 unfold nS at hv
 split at hv
 ·rename_i h' hx
  refine (nK hm hx (Rel.start w hgw hgs) (a9 _) (fun n h=>by cases h) (args':=[]) VRs.nil).mono ?_
  rintro e w' ⟨v',m',rfl,hp,hvr⟩
  cases hvr
  exact⟨rfl,hp.below⟩
 ·cases hv
section
variable {P:Program} {C:Ctx} {ro:Option Nat}
theorem xD:∀(k:Nat) (c:Code) (a:AS) (h:List Blk) {r:Exit×AS×List Blk×Option Nat},exec C P ro k c a h=some r→∀ j,exec C P ro (k+j) c a h=some r:=by
 intro k
 induction k using Nat.strongRecOn with
 | _ k ih =>
 cases k with
 | zero=>intro c a h r hv;simp[exec] at hv
 | succ k =>
 intro c a h r hv j
 rw[show k+1+j=k+j+1 by omega]
 cases c with
 | seq x y =>
  simp only[exec] at hv ⊢
  cases hx:exec C P ro k x a h with
  | none=>rw[hx] at hv;cases hv
  | some r1 =>
   obtain⟨e1,a1,h1,w1⟩:=r1
   rw[hx] at hv
   rw[ih k (by omega) x a h hx j]
   cases e1 with
   | normal =>
    simp only at hv ⊢
    cases hy:exec C P ro k y a1 h1 with
    | none=>rw[hy] at hv;cases hv
    | some r2 =>
     rw[hy] at hv
     rw[ih k (by omega) y a1 h1 hy j]
     exact hv
   | _=>exact hv
 | cond x y z =>
  simp only[exec] at hv ⊢
  split at hv
  ·rename_i hc
   rw[b8 hc]
   split at hv
   ·rename_i t ht
    cases t with
    | true=>exact ih k (by omega) y a h hv j
    | false=>exact ih k (by omega) z a h hv j
   ·cases hv
  ·cases hv
 | block id b =>
  simp only[exec] at hv ⊢
  cases hx:exec C P ro k b a h with
  | none=>rw[hx] at hv;cases hv
  | some r1 =>
   rw[hx] at hv
   rw[ih k (by omega) b a h hx j]
   exact hv
 | loop b =>
  simp only[exec] at hv ⊢
  cases hx:exec C P ro k b a h with
  | none=>rw[hx] at hv;cases hv
  | some r1 =>
   obtain⟨e1,a1,h1,w1⟩:=r1
   rw[hx] at hv
   rw[ih k (by omega) b a h hx j]
   cases e1 with
   | normal =>
    simp only at hv ⊢
    cases hy:exec C P ro k (.loop b) a1 h1 with
    | none=>rw[hy] at hv;cases hv
    | some r2 =>
     rw[hy] at hv
     rw[ih k (by omega) (.loop b) a1 h1 hy j]
     exact hv
   | _=>exact hv
 | _=>simpa only[exec] using hv
theorem kE{k k':Nat}(hk:k≤k'){c:Code}{a:AS}{h:List Blk}{r:Exit×AS×List Blk×Option Nat}(hv:exec C P ro k c a h=some r):exec C P ro k' c a h=some r:=by
 have:=xD k c a h hv (k'-k)
 rwa [show k+(k'-k)=k' by omega] at this
end
def Evt(p:Nat→Nat→Prop):Prop:=∃ N,∀ k d,N≤k→N≤d→p k d
theorem Evt.all{p:Nat→Nat→Prop}(h:∀ k d,p k d):Evt p:=⟨0,fun k d _ _=>h k d⟩
theorem Evt.and{p q:Nat→Nat→Prop}(h:Evt p)(g:Evt q):Evt fun k d=>p k d∧q k d:=by
 obtain⟨a,ha⟩:=h
 obtain⟨b,hb⟩:=g
 exact⟨max a b,fun k d hk hd=>⟨ha k d (by omega) (by omega),hb k d (by omega) (by omega)⟩⟩
theorem Evt.mono{p q:Nat→Nat→Prop}(h:Evt p)(g:∀ k d,p k d→q k d):Evt q:=by
 obtain⟨a,ha⟩:=h
 exact⟨a,fun k d hk hd=>g k d (ha k d hk hd)⟩
open Classical in
noncomputable def lim(P:Program):Ctx:=
 ⟨fun f args h=>if hx:∃ r,Evt fun k d=>(ctx P k d).call f args h=some r then some (Classical.choose hx) else none,
  fun l args h=>if hx:∃ r,Evt fun k d=>(ctx P k d).round l args h=some r then some (Classical.choose hx) else none⟩
section
variable {P:Program}
theorem lim_call{f:FuncId}{args:List Value}{h:List Blk}{r:Value×List Blk×Option Nat}:(lim P).call f args h=some r↔Evt fun k d=>(ctx P k d).call f args h=some r:=by
 unfold lim
 simp only
 constructor
 ·intro hv
  split at hv
  ·rename_i hx
   obtain rfl:=a6 hv
   exact Classical.choose_spec hx
  ·cases hv
 ·intro hv
  have hx:∃ r,Evt fun k d=>(ctx P k d).call f args h=some r:=⟨r,hv⟩
  rw[dif_pos hx]
  obtain⟨N,hN⟩:=(Classical.choose_spec hx).and hv
  obtain⟨h1,h2⟩:=hN N N (a9 _) (a9 _)
  rw[← h1,h2]
theorem lim_round{l:Nat}{args:List Value}{h:List Blk}{r:Value×List Blk×Option Nat}:(lim P).round l args h=some r↔Evt fun k d=>(ctx P k d).round l args h=some r:=by
 unfold lim
 simp only
 constructor
 ·intro hv
  split at hv
  ·rename_i hx
   obtain rfl:=a6 hv
   exact Classical.choose_spec hx
  ·cases hv
 ·intro hv
  have hx:∃ r,Evt fun k d=>(ctx P k d).round l args h=some r:=⟨r,hv⟩
  rw[dif_pos hx]
  obtain⟨N,hN⟩:=(Classical.choose_spec hx).and hv
  obtain⟨h1,h2⟩:=hN N N (a9 _) (a9 _)
  rw[← h1,h2]
theorem rW{ρ:Operand→Value}{o:Oper}{h:List Blk}{r:Value×List Blk×Option Nat}(hv:xop (lim P) P ρ o h=some r):Evt fun k d=>xop (ctx P k d) P ρ o h=some r:=by
 unfold xop at hv ⊢
 split at hv
 ·rename_i r' hh
  exact .all fun k d=>hv
 ·split at hv
  ·rename_i c hc
   unfold xcall at hv ⊢
   split at hv
   ·rename_i f hf
    split at hv
    ·rename_i fn first captured hfv
     split at hv
     ·rename_i g
      split at hv
      ·rename_i fd hfd
       split at hv
       ·rename_i bd hbd
        split at hv
        ·rename_i hn
         simp only[if_pos hn]
         exact lim_call.1 hv
        ·cases hv
       ·rename_i hbd
        exact .all fun k d=>hv
      ·cases hv
     ·rename_i l
      exact lim_round.1 hv
     ·cases hv
    ·cases hv
   ·cases hv
  ·cases hv
theorem gZ{ops:Array Oper}:∀(l:List Oper) (tm:List Value) (h:List Blk) {r:List Value×List Blk×Option Nat},bL (lim P) P ops l tm h=some r→Evt fun k d=>bL (ctx P k d) P ops l tm h=some r
 | [],tm,h,r,hv=>.all fun k d=>hv
 | o::l,tm,h,r,hv=>by
  simp only[bL] at hv ⊢
  split at hv
  ·rename_i hw
   simp only[if_pos hw]
   split at hv
   ·rename_i v hp
    exact gZ l _ h hv
   ·rename_i hp
    split at hv
    ·rename_i v h1 w1 hx
     cases hr:bL (lim P) P ops l (aN tm o.dst v) h1 with
     | none=>rw[hr] at hv;cases hv
     | some r1 =>
      rw[hr] at hv
      exact ((rW hx).and (gZ l _ h1 hr)).mono fun k d ⟨e1,e2⟩=>by rw[e1];simp only;rw[e2];exact hv
    ·cases hv
  ·rename_i hw
   simp only[if_neg hw]
   exact gZ l _ h hv
theorem qW{ops:Array Oper}{m i:Nat}{o:Oper}{s s':Dr}(hv:bP (lim P) P ops m i o s=some s'):Evt fun k d=>bP (ctx P k d) P ops m i o s=some s':=by
 unfold bP at hv ⊢
 split at hv
 ·rename_i hw
  simp only[if_pos hw]
  split at hv
  ·rename_i v hp
   exact .all fun k d=>hv
  ·rename_i hp
   cases hx:xop (lim P) P (ev s.tm) o s.h with
   | none=>rw[hx] at hv;cases hv
   | some r =>
    rw[hx] at hv
    exact (rW hx).mono fun k d e=>by rw[e];exact hv
 ·rename_i hw
  simp only[if_neg hw]
  exact .all fun k d=>hv
theorem mS{ops:Array Oper}{ms:List Nat}:∀(l:List Oper) (i:Nat) (s:Dr) {s':Dr},aV (lim P) P ops ms l i s=some s'→Evt fun k d=>aV (ctx P k d) P ops ms l i s=some s'
 | [],i,s,s',hv=>.all fun k d=>hv
 | o::l,i,s,s',hv=>by
  simp only[aV] at hv ⊢
  split at hv
  ·rename_i s1 h1
   exact ((qW h1).and (mS l (i+1) s1 hv)).mono fun k d ⟨e1,e2⟩=>by rw[e1];exact e2
  ·cases hv
theorem rC{ops:Array Oper}{tm:List Value}{h:List Blk}{r:List Value×List Blk×Option Nat}(hv:dK (lim P) P ops tm h=some r):Evt fun k d=>dK (ctx P k d) P ops tm h=some r:=by
 unfold dK at hv ⊢
 split at hv
 ·rename_i hok
  simp only[if_pos hok]
  cases hx:aV (lim P) P ops (masks ops.toList []) ops.toList 0 { tm,h,np:=[],chain:=false,wr:=none } with
  | none=>rw[hx] at hv;cases hv
  | some s =>
   rw[hx] at hv
   exact (mS _ _ _ hx).mono fun k d e=>by rw[e];exact hv
 ·cases hv
theorem rE{ops:Array Oper}{ms:List Nat}{m i:Nat}{o:Oper}{s s':Fr}(hv:bN (lim P) P ops ms m i o s=some s'):Evt fun k d=>bN (ctx P k d) P ops ms m i o s=some s':=by
 unfold bN at hv ⊢
 split at hv
 ·rename_i hw
  simp only[if_pos hw]
  split at hv
  ·rename_i v hp
   exact .all fun k d=>hv
  ·rename_i hp
   cases hx:xop (lim P) P (ev s.tm) o s.h with
   | none=>rw[hx] at hv;cases hv
   | some r =>
    rw[hx] at hv
    exact (rW hx).mono fun k d e=>by rw[e];exact hv
 ·rename_i hw
  simp only[if_neg hw]
  exact .all fun k d=>hv
theorem mT{ops:Array Oper}{ms:List Nat}:∀(l:List Oper) (i:Nat) (s:Fr) {s':Fr},aU (lim P) P ops ms l i s=some s'→Evt fun k d=>aU (ctx P k d) P ops ms l i s=some s'
 | [],i,s,s',hv=>.all fun k d=>hv
 | o::l,i,s,s',hv=>by
  simp only[aU] at hv ⊢
  split at hv
  ·rename_i s1 h1
   exact ((rE h1).and (mT l (i+1) s1 hv)).mono fun k d ⟨e1,e2⟩=>by rw[e1];exact e2
  ·cases hv
theorem sU{ops:Array Oper}{tm:List Value}{h:List Blk}{r:List Value×List Blk×Option Nat}(hv:dY (lim P) P ops tm h=some r):Evt fun k d=>dY (ctx P k d) P ops tm h=some r:=by
 unfold dY at hv ⊢
 split at hv
 ·rename_i hok
  simp only[if_pos hok]
  cases hx:aU (lim P) P ops (masks ops.toList []) ops.toList 0 { tm,h,rs:=[],b:=h.length,bar:=none,wr:=none } with
  | none=>rw[hx] at hv;cases hv
  | some s =>
   rw[hx] at hv
   exact (mT _ _ _ hx).mono fun k d e=>by rw[e];exact hv
 ·cases hv
theorem sL{ops:Array Oper}{tm:List Value}{h:List Blk}{r:List Value×List Blk×Option Nat}(hv:cG (lim P) P ops tm h=some r):Evt fun k d=>cG (ctx P k d) P ops tm h=some r:=by
 unfold cG at hv ⊢
 split at hv
 ·rename_i hn
  simp only[if_pos hn]
  exact sU hv
 ·rename_i hn
  simp only[if_neg hn]
  exact rC hv
theorem rP{ro:Option Nat}{g:Operand}{ps:Array Tmp}{assign body:Code}{a:AS}{h:List Blk}{r:Exit×AS×List Blk×Option Nat}(hv:eT (lim P) P ro g ps assign body a h=some r):Evt fun k d=>eT (ctx P k d) P ro g ps assign body a h=some r:=by
 unfold eT at hv ⊢
 split at hv
 ·rename_i hg
  simp only[if_pos hg]
  split at hv
  ·rename_i fn first captured hfv
   split at hv
   ·rename_i gf
    split at hv
    ·rename_i fd hfd
     split at hv
     ·rename_i hc
      split at hv
      ·cases hv
      ·rename_i h1 d mark hst
       split at hv
       ·rename_i v0 h2 w2 hcall
        refine (lim_call.1 hcall).mono fun k d' e=>?_
        simp only[if_pos hc,e]
        exact hv
       ·cases hv
     ·cases hv
    ·cases hv
   ·cases hv
  ·cases hv
 ·cases hv
theorem zK{ro:Option Nat}:∀(K:Nat) (c:Code) (a:AS) (h:List Blk) {r:Exit×AS×List Blk×Option Nat},exec (lim P) P ro K c a h=some r→Evt fun k d=>exec (ctx P k d) P ro K c a h=some r:=by
 intro K
 induction K with
 | zero=>intro c a h r hv;simp[exec] at hv
 | succ K ih =>
 intro c a h r hv
 cases c with
 | seq x y =>
  simp only[exec] at hv ⊢
  cases hx:exec (lim P) P ro K x a h with
  | none=>rw[hx] at hv;cases hv
  | some r1 =>
   obtain⟨e1,a1,h1,w1⟩:=r1
   rw[hx] at hv
   cases e1 with
   | normal =>
    simp only at hv
    cases hy:exec (lim P) P ro K y a1 h1 with
    | none=>rw[hy] at hv;cases hv
    | some r2 =>
     rw[hy] at hv
     exact ((ih x a h hx).and (ih y a1 h1 hy)).mono fun k d ⟨e1,e2⟩=>by rw[e1];simp only;rw[e2];exact hv
   | _=>exact (ih x a h hx).mono fun k d e1=>by rw[e1];exact hv
 | cond x y z =>
  simp only[exec] at hv ⊢
  split at hv
  ·rename_i hc
   simp only[if_pos hc]
   split at hv
   ·rename_i t ht
    cases t with
    | true=>exact ih y a h hv
    | false=>exact ih z a h hv
   ·cases hv
  ·cases hv
 | block id b =>
  simp only[exec] at hv ⊢
  cases hx:exec (lim P) P ro K b a h with
  | none=>rw[hx] at hv;cases hv
  | some r1 =>
   rw[hx] at hv
   exact (ih b a h hx).mono fun k d e1=>by rw[e1];exact hv
 | loop b =>
  simp only[exec] at hv ⊢
  cases hx:exec (lim P) P ro K b a h with
  | none=>rw[hx] at hv;cases hv
  | some r1 =>
   obtain⟨e1,a1,h1,w1⟩:=r1
   rw[hx] at hv
   cases e1 with
   | normal =>
    simp only at hv
    cases hy:exec (lim P) P ro K (.loop b) a1 h1 with
    | none=>rw[hy] at hv;cases hv
    | some r2 =>
     rw[hy] at hv
     exact ((ih b a h hx).and (ih (.loop b) a1 h1 hy)).mono fun k d ⟨e1,e2⟩=>by rw[e1];simp only;rw[e2];exact hv
   | _=>exact (ih b a h hx).mono fun k d e1=>by rw[e1];exact hv
 | region id ops draw =>
  simp only[exec] at hv ⊢
  cases draw with
  | true =>
   simp only at hv ⊢
   cases hx:cG (lim P) P ops a.tm h with
   | none=>rw[hx] at hv;cases hv
   | some r1 =>
    rw[hx] at hv
    exact (sL hx).mono fun k d e1=>by rw[e1];exact hv
  | false =>
   simp only at hv ⊢
   split at hv
   ·rename_i hreg
    simp only[if_pos hreg]
    cases hx:bL (lim P) P ops ops.toList a.tm h with
    | none=>rw[hx] at hv;cases hv
    | some r1 =>
     rw[hx] at hv
     exact (gZ _ _ _ hx).mono fun k d e1=>by rw[e1];exact hv
   ·cases hv
 | rangeFunc g ps assign body =>
  simp only[exec] at hv ⊢
  exact rP hv
 | _=>exact .all fun k d=>by simpa only[exec] using hv
theorem eR{K:Nat}{f:FuncId}{args:List Value}{h:List Blk}{r:Value×List Blk×Option Nat}(hv:cC (lim P) P K f args h=some r):(lim P).call f args h=some r:=by
 rw[lim_call]
 unfold cC at hv
 split at hv
 ·cases hv
 ·rename_i fd hfd
  split at hv
  ·cases hv
  ·rename_i c hc
   split at hv
   ·rename_i e a1 h1 w1 hx
    obtain⟨N,hN⟩:=zK K c _ h hx
    refine⟨max (N+1) K,fun k d hk hd=>?_⟩
    obtain⟨d,rfl⟩:∃ d',d=d'+1:=⟨d-1,by omega⟩
    have h2:=kE (k:=K) (k':=k) (by omega) (hN k d (by omega) (by omega))
    show cC (ctx P k d) P k f args h=some r
    unfold cC
    simp only[hfd,hc,h2]
    exact hv
   ·cases hv
theorem yU(hm:P.follows .mixedOrders=true):CtxOk P (lim P):=
 ⟨fun hv=>by
  obtain⟨N,hN⟩:=lim_call.1 hv
  exact (mA hm N N).call (hN N N (a9 _) (a9 _)),
  fun hv=>by
   obtain⟨N,hN⟩:=lim_round.1 hv
   exact (mA hm N N).round (hN N N (a9 _) (a9 _))⟩
end
end Go.Rex
namespace Go.Rex
open Go.RowKit
theorem jC{a b:Option Nat}{k:Nat}(ha:wge a k=true)(hb:wge b k=true):wge (wmin a b) k=true:=by
 cases a<;>cases b<;>simp_all [wge,wmin]
 omega
def XP(C:Ctx)(P:Program)(ro:Option Nat)(lo:Nat)(c:Code)(a:AS)(h:List Blk)(Q:Exit→AS→List Blk→Prop):Prop:=
 ∃ K e a' h' wr,exec C P ro K c a h=some (e,a',h',wr)∧wge wr lo=true∧Q e a' h'
section
variable {C:Ctx} {P:Program} {ro:Option Nat} {lo:Nat} {a:AS} {h:List Blk} {Q:Exit→AS→List Blk→Prop}
theorem XP.mono{c:Code}{Q':Exit→AS→List Blk→Prop}(hx:XP C P ro lo c a h Q)(hq:∀ e a' h',Q e a' h'→Q' e a' h'):XP C P ro lo c a h Q':=by
 obtain⟨K,e,a',h',wr,h1,h2,h3⟩:=hx
 exact⟨K,e,a',h',wr,h1,h2,hq _ _ _ h3⟩
theorem XP.skip(hq:Q .normal a h):XP C P ro lo .skip a h Q:=⟨1,_,_,_,none,rfl,rfl,hq⟩
theorem XP.exit{id:Nat}(hq:Q (.exit id) a h):XP C P ro lo (.exit id) a h Q:=⟨1,_,_,_,none,rfl,rfl,hq⟩
theorem XP.ret(hq:Q .ret a h):XP C P ro lo .ret a h Q:=⟨1,_,_,_,none,rfl,rfl,hq⟩
def Bz(next:AS→List Blk→Prop)(Q:Exit→AS→List Blk→Prop):Exit→AS→List Blk→Prop
 | .normal,a,h=>next a h
 | e,a,h=>Q e a h
theorem XP.seq{x y:Code}(hx:XP C P ro lo x a h (Bz (fun a h=>XP C P ro lo y a h Q) Q)):XP C P ro lo (.seq x y) a h Q:=by
 obtain⟨K,e,a1,h1,w1,hx,hw,hq⟩:=hx
 cases e with
 | normal =>
  obtain⟨K2,e2,a2,h2,w2,hy,hw2,hq2⟩:=hq
  refine⟨max K K2+1,e2,a2,h2,wmin w1 w2,?_,jC hw hw2,hq2⟩
  simp only[exec]
  rw[kE (Nat.le_max_left K K2) hx]
  simp only
  rw[kE (Nat.le_max_right K K2) hy]
  rfl
 | _=>exact⟨K+1,_,a1,h1,w1,by simp only[exec,hx],hw,hq⟩
theorem XP.cond_true{c:Operand}{x y:Code}(ho:fL c=true)(hc:ev a.tm c = .bool true)(hx:XP C P ro lo x a h Q):XP C P ro lo (.cond c x y) a h Q:=by
 obtain⟨K,e,a1,h1,w1,hx,hw,hq⟩:=hx
 exact⟨K+1,e,a1,h1,w1,by simp only[exec,ho,if_true,hc,hx],hw,hq⟩
theorem XP.cond_false{c:Operand}{x y:Code}(ho:fL c=true)(hc:ev a.tm c = .bool false)(hx:XP C P ro lo y a h Q):XP C P ro lo (.cond c x y) a h Q:=by
 obtain⟨K,e,a1,h1,w1,hx,hw,hq⟩:=hx
 exact⟨K+1,e,a1,h1,w1,by simp only[exec,ho,if_true,hc,hx],hw,hq⟩
def rQ(id:Nat)(Q:Exit→AS→List Blk→Prop):Exit→AS→List Blk→Prop
 | .exit id',a,h=>if id'=id then Q .normal a h else Q (.exit id') a h
 | e,a,h=>Q e a h
theorem XP.block{id:Nat}{b:Code}(hx:XP C P ro lo b a h (rQ id Q)):XP C P ro lo (.block id b) a h Q:=by
 obtain⟨K,e,a1,h1,w1,hx,hw,hq⟩:=hx
 cases e with
 | exit id' =>
  by_cases hid:id'=id
  ·refine⟨K+1,.normal,a1,h1,w1,by simp only[exec,hx,if_pos hid],hw,?_⟩
   simpa only[rQ,if_pos hid] using hq
  ·refine⟨K+1,.exit id',a1,h1,w1,by simp only[exec,hx,if_neg hid],hw,?_⟩
   simpa only[rQ,if_neg hid] using hq
 | _=>exact⟨K+1,_,a1,h1,w1,by simp only[exec,hx],hw,hq⟩
theorem XP.ops{id:Nat}{ops:Array Oper}{tm':List Value}{h':List Blk}{wr:Option Nat}(hreg:vV ops.toList=true)(hr:bL C P ops ops.toList a.tm h=some (tm',h',wr))(hw:wge wr lo=true)(hq:Q .normal ⟨tm',a.df⟩ h') :
 XP C P ro lo (.region id ops false) a h Q:=⟨1,.normal,⟨tm',a.df⟩,h',wr,by simp only[exec,hreg,if_true,hr,mH,Option.map_some],hw,hq⟩
theorem XP.draw{id:Nat}{ops:Array Oper}{tm':List Value}{h':List Blk}{wr:Option Nat}(hr:cG C P ops a.tm h=some (tm',h',wr))(hw:wge wr lo=true)(hq:Q .normal ⟨tm',a.df⟩ h') :
 XP C P ro lo (.region id ops true) a h Q:=⟨1,.normal,⟨tm',a.df⟩,h',wr,by simp only[exec,hr,mH,Option.map_some],hw,hq⟩
theorem XP.draws{id:Nat}{ops:Array Oper}{s:Dr}(hok:kA ops=true)(hr:aV C P ops (masks ops.toList []) ops.toList 0 { tm:=a.tm,h,np:=[],chain:=false,wr:=none }=some s)(hw:wge s.wr lo=true)(hq:Q .normal ⟨s.tm,a.df⟩ s.h) :
 XP C P ro lo (.region id ops true) a h Q:=XP.draw (tm':=s.tm) (h':=s.h) (wr:=s.wr) (sR (by simp only[dK,hok,if_true,hr,Option.map_some])) hw hq
theorem Bg{next:AS→List Blk→Prop}(hq:next a h):Bz next Q .normal a h:=hq
theorem uX{l:List Value}{i j:Nat}{v:Value}(h:i≠j):nth (l.set i v) j=nth l j:=by rw[iE,iE,d6 h]
def Ext(h h':List Blk):Prop:=∃ t,h'=h++t
theorem Ext.refl(h:List Blk):Ext h h:=⟨[],by simp⟩
theorem Ext.trans{h1 h2 h3:List Blk}(a:Ext h1 h2)(b:Ext h2 h3):Ext h1 h3:=by
 obtain⟨t,rfl⟩:=a
 obtain⟨u,rfl⟩:=b
 exact⟨t++u,by simp⟩
theorem Ext.app(h t:List Blk):Ext h (h++t):=⟨t,rfl⟩
theorem Ext.le{h h':List Blk}(a:Ext h h'):h.length≤h'.length:=by
 obtain⟨t,rfl⟩:=a
 simp
theorem Ext.at{h h':List Blk}(a:Ext h h'){n:Nat}{b:Blk}(hb:h[n]?=some b):h'[n]?=some b:=by
 obtain⟨t,rfl⟩:=a
 rw[b4 (a7.1 hb).1,hb]
theorem rB{m i:Nat}{o:Oper}{tm:List Value}{np:List Nat}{v:Value}{h1:List Blk}{wr:Option Nat}(hx:Ext h h1):fA m i o ⟨tm,h,np,false,wr⟩ (some (v,h1,none))=some ⟨aN tm o.dst v,h1,i::np,false,wr⟩:=by
 obtain⟨t,rfl⟩:=hx
 simp only[fA,wge]
 cases t<;>simp
def dP(P:Program)(g:FuncId):Bool:=match P.funcs[g]? with
 | some fd=>match fd.body with
  | some _ => !(fd.name == "runtime.NumGoroutine")
  | none=>false
 | none=>false
def xslow(P:Program)(g:FuncId)(args:List Value)(h:List Blk):AOut:=match P.funcs[g]? with
 | some fd=>match fd.body with
  | some _=>none
  | none=>zH P g fd args h
 | none=>none
theorem yY{C:Ctx}{ρ:Operand→Value}{c:Call}:xcall C P ρ c h=(match c.callee with
 | .value f=>match ρ f with
  | .func fn ⟨first⟩ ⟨captured⟩=>match fn with
   | .func g=>if dP P g=true then C.call g (first++(c.args.toList.map ρ++captured)) h else xslow P g (first++(c.args.toList.map ρ++captured)) h
   | .yield l=>C.round l (c.args.toList.map ρ) h
   | _=>none
  | _=>none
 | _=>none):=by
 unfold xcall
 cases c.callee with
 | value f =>
  simp only
  cases ρ f with
  | func fn first captured =>
   obtain⟨first⟩:=first
   obtain⟨captured⟩:=captured
   cases fn with
   | func g =>
    rcases hf:P.funcs[g]? with _|fd
    ·have hg:dP P g=false:=by simp[dP,hf]
     simp[hg,hf,xslow]
    ·rcases hb:fd.body with _|b
     ·have hg:dP P g=false:=by simp[dP,hf,hb]
      simp[hg,hf,hb,xslow]
     ·cases hn : (fd.name == "runtime.NumGoroutine")
      ·have hg:dP P g=true:=by simp[dP,hf,hb,hn]
       simp[hg,hf,hb,hn]
      ·have hg:dP P g=false:=by simp[dP,hf,hb,hn]
       simp[hg,hf,hb,hn,xslow]
   | _=>rfl
  | _=>rfl
 | _=>rfl
theorem load1{t n o:Nat}{es:Nat}{cs:List Value}{v:Value}(ha:jG P t=some false)(hb:h[n]?=some (.cells es cs))(hc:cs[o]?=some v):gM P t h n o=some v:=by
 have h2:=(a7.1 hc).1
 simp only[gM,ha,aL,hb]
 rw[b8 (by omega)]
 have e:(cs.drop o).take 1=[v]:=by
  rw[List.take_one,List.head?_drop,hc];rfl
 rw[e]
theorem vN(b:Option Nat):wmin b none=b:=by cases b<;>rfl
theorem vZ(a k:Nat):wge (some a) k=decide (k≤a):=rfl
end
def zV:=@eU
theorem yJ{P:Program}{ρ:Operand→Value}{d:Option Tmp}{t:TypeId}{x:Operand}{ty:TypeId}{pos:String}{aft:Array Edge}{gd:Option (Nat×Bool)}:eU P ρ { dst:=d,op:=.unOp .neg t x,type:=ty,pos:=pos,after:=aft,guard:=gd }=(match ρ x with|.int k a=>some (.int k (k.wrap (0-a)))|_=>zV P ρ { dst:=d,op:=.unOp .neg t x,type:=ty,pos:=pos,after:=aft,guard:=gd }):=by
 cases hx:ρ x with
 | int k a =>
  have h1:([x].all fun x=>aR (ρ x))=true:=by simp only[List.all_cons,List.all_nil,hx];rfl
  have h2:prun P (execOp ρ { dst:=d,op:=.unOp .neg t x,type:=ty,pos:=pos,after:=aft,guard:=gd })=some (.value (.int k (k.wrap (0-a)))):=by
   simp only[execOp,hx]
   rfl
  unfold eU
  simp only
  rw[show (Op.unOp UnOp.neg t x).operands.toList=[x] from rfl,b8 h1,h2]
  rfl
 | _=>rfl
theorem zG{P:Program}{ρ:Operand→Value}{d:Option Tmp}{t:TypeId}{x:Operand}{ty:TypeId}{pos:String}{aft:Array Edge}{gd:Option (Nat×Bool)}:eU P ρ { dst:=d,op:=.unOp .not t x,type:=ty,pos:=pos,after:=aft,guard:=gd }=(match ρ x with|.bool a=>some (.bool !a)|_=>zV P ρ { dst:=d,op:=.unOp .not t x,type:=ty,pos:=pos,after:=aft,guard:=gd }):=by
 cases hx:ρ x with
 | bool a =>
  have h1:([x].all fun x=>aR (ρ x))=true:=by simp only[List.all_cons,List.all_nil,hx];rfl
  have h2:prun P (execOp ρ { dst:=d,op:=.unOp .not t x,type:=ty,pos:=pos,after:=aft,guard:=gd })=some (.value (.bool !a)):=by
   simp only[execOp,hx]
   rfl
  unfold eU
  simp only
  rw[show (Op.unOp UnOp.not t x).operands.toList=[x] from rfl,b8 h1,h2]
  rfl
 | _=>rfl
end Go.Rex
namespace Go.Rex
open Go.RowKit
def RO(C:Ctx)(P:Program)(lo:Nat)(ops:Array Oper)(l:List Oper)(tm:List Value)(h:List Blk)(Q:List Value→List Blk→Prop):Prop:=
 ∃ tm' h' wr,bL C P ops l tm h=some (tm',h',wr)∧wge wr lo=true∧Q tm' h'
section
variable {C:Ctx} {P:Program} {ro:Option Nat} {lo:Nat} {a:AS} {h:List Blk} {Q:Exit→AS→List Blk→Prop} {ops:Array Oper} {o:Oper} {rest:List Oper} {tm tm2:List Value} {v:Value} {R:List Value→List Blk→Prop}
theorem RO.nil(hq:R tm h):RO C P lo ops [] tm h R:=⟨tm,h,none,rfl,rfl,hq⟩
theorem RO.pop(hw:Region.wanted o (yielded ops ⟨tm⟩)=true)(hp:Rex.pop P (ev tm) o=some v)(ht:aN tm o.dst v=tm2)(hq:RO C P lo ops rest tm2 h R):RO C P lo ops (o::rest) tm h R:=by
 subst ht
 obtain⟨tm',h',wr,h1,h2,h3⟩:=hq
 exact⟨tm',h',wr,by simp only[bL,if_pos hw,hp,h1],h2,h3⟩
theorem RO.act{h1:List Blk}{w1:Option Nat}(hw:Region.wanted o (yielded ops ⟨tm⟩)=true)(hp:Rex.pop P (ev tm) o=none)(hx:xop C P (ev tm) o h=some (v,h1,w1))(hg:wge w1 lo=true)(ht:aN tm o.dst v=tm2)(hq:RO C P lo ops rest tm2 h1 R):RO C P lo ops (o::rest) tm h R:=by
 subst ht
 obtain⟨tm',h',wr,h1',h2,h3⟩:=hq
 exact⟨tm',h',wmin w1 wr,by simp only[bL,if_pos hw,hp,hx,h1',Option.map_some],jC hg h2,h3⟩
theorem RO.skip(hw:Region.wanted o (yielded ops ⟨tm⟩)=false)(ht:aN tm o.dst undef=tm2)(hq:RO C P lo ops rest tm2 h R):RO C P lo ops (o::rest) tm h R:=by
 subst ht
 obtain⟨tm',h',wr,h1,h2,h3⟩:=hq
 exact⟨tm',h',wr,by simp only[bL,hw,Bool.false_eq_true,if_false,h1],h2,h3⟩
theorem XP.region{id:Nat}{l:List Oper}(hl:ops.toList=l)(hreg:vV l=true)(hr:RO C P lo ops l a.tm h (fun tm' h'=>Q .normal ⟨tm',a.df⟩ h')):XP C P ro lo (.region id ops false) a h Q:=by
 subst hl
 obtain⟨tm',h',wr,h1,h2,h3⟩:=hr
 exact XP.ops hreg h1 h2 h3
def RD(C:Ctx)(P:Program)(lo:Nat)(ops:Array Oper)(ms:List Nat)(l:List Oper)(i:Nat)(s:Dr)(R:List Value→List Blk→Prop):Prop:=
 ∃ s',aV C P ops ms l i s=some s'∧wge s'.wr lo=true∧R s'.tm s'.h
variable {ms:List Nat} {i:Nat} {np:List Nat} {c:Bool} {wr:Option Nat}
theorem RD.nil(hw:wge wr lo=true)(hq:R tm h):RD C P lo ops ms [] i ⟨tm,h,np,c,wr⟩ R:=⟨_,rfl,hw,hq⟩
theorem RD.pop(hw:Region.wanted o (yielded ops ⟨tm⟩)=true)(hp:Rex.pop P (ev tm) o=some v)(ht:aN tm o.dst v=tm2)(hq:RD C P lo ops ms rest (i+1) ⟨tm2,h,np,c,wr⟩ R):RD C P lo ops ms (o::rest) i ⟨tm,h,np,c,wr⟩ R:=by
 subst ht
 obtain⟨s',h1,h2⟩:=hq
 exact⟨s',by simp only[aV,bP,if_pos hw,hp,h1],h2⟩
theorem RD.skip(hw:Region.wanted o (yielded ops ⟨tm⟩)=false)(ht:aN tm o.dst undef=tm2)(hq:RD C P lo ops ms rest (i+1) ⟨tm2,h,np,c,wr⟩ R):RD C P lo ops ms (o::rest) i ⟨tm,h,np,c,wr⟩ R:=by
 subst ht
 obtain⟨s',h1,h2⟩:=hq
 exact⟨s',by simp only[aV,bP,hw,Bool.false_eq_true,if_false,h1],h2⟩
theorem RD.act{h1:List Blk}(hw:Region.wanted o (yielded ops ⟨tm⟩)=true)(hp:Rex.pop P (ev tm) o=none)(hx:xop C P (ev tm) o h=some (v,h1,none))(he:Ext h h1)(ht:aN tm o.dst v=tm2)(hq:RD C P lo ops ms rest (i+1) ⟨tm2,h1,i::np,false,wr⟩ R):RD C P lo ops ms (o::rest) i ⟨tm,h,np,false,wr⟩ R:=by
 subst ht
 obtain⟨s',h1',h2⟩:=hq
 exact⟨s',by simp only[aV,bP,if_pos hw,hp,hx,rB he,h1'],h2⟩
theorem XP.drawn{id:Nat}{l:List Oper}{ms:List Nat}(hok:kA ops=true)(hl:ops.toList=l)(hm:masks l []=ms)(hr:RD C P lo ops ms l 0 ⟨a.tm,h,[],false,none⟩ (fun tm' h'=>Q .normal ⟨tm',a.df⟩ h')):XP C P ro lo (.region id ops true) a h Q:=by
 subst hl
 subst hm
 obtain⟨s',h1,h2,h3⟩:=hr
 exact XP.draws hok h1 h2 h3
end
noncomputable def over(P:Program)(f:FuncId):Ctx:=⟨fun g args h=>if g=f∧args=[] then some (.bool true,h,none) else (lim P).call g args h,(lim P).round⟩
def AwT(P:Program)(f:FuncId):Prop:=∀ w,GW w→NG≤w.heap.size→Calls P f ⟨[]⟩ w (fun e w'=>e = .returned (.bool true)∧Below w.heap.size w w')
theorem sG{P:Program}(hm:P.follows .mixedOrders=true){k d:Nat}{f:FuncId}(hv:nS (ecall P k d f [] GH)=true):AwT P f:=oV hm hv
theorem wC{P:Program}(hm:P.follows .mixedOrders=true){f:FuncId}(hv:AwT P f):CtxOk P (over P f):=
 ⟨fun {g args h v h' wr} hv'=>by
  intro B lo D m w args' hr hlo hw hargs
  unfold over at hv'
  simp only at hv'
  split at hv'
  ·rename_i hg
   obtain⟨rfl,rfl⟩:=hg
   obtain⟨rfl,rfl,rfl⟩:Value.bool true=v∧h=h'∧none=wr:=by simpa using hv'
   obtain rfl:args'=[]:=by have:=hargs.len;simpa using this
   refine (hv w hr.gl.gw (e6 hr.gl.gb hr.le)).mono ?_
   rintro e w' ⟨rfl,hb⟩
   exact⟨_,m,rfl,Post.frame hr hb,VR.of_clean depth _ rfl⟩
  ·exact (yU hm).call hv' hr hlo hw hargs,
  (yU hm).round⟩
theorem pX{P:Program}{f g:FuncId}{args:List Value}{h:List Blk}:(over P f).call g args h=if g=f∧args=[] then some (.bool true,h,none) else (lim P).call g args h:=rfl
theorem yK{P:Program}(hm:P.follows .mixedOrders=true){f:FuncId}(hv:AwT P f){g:FuncId}{fd:Func}{c:Code}{args:List Value}{h:List Blk}(hf:P.funcs[g]?=some fd)(hb:fd.body=some c)
 {tm:List Value} (htm:args++List.replicate (fd.ntmps-args.length) undef=tm)
 (hx:XP (over P f) P none h.length c ⟨tm,[]⟩ h (fun e a1 h1=>(e = .normal∨e = .ret)∧a1.df=[]∧∃ vs,fC P h1 a1.tm fd.results.toList=some vs∧bR vs = .bool true))
 {B lo:Nat} {D:Nat→Prop} {m:NMap} {w:World} {args':List Value} (hr:Rel B lo D m h w) (hlo:lo≤h.length) (hargs:VRs D m args args'):Calls P g ⟨args'⟩ w (fun e w'=>e = .returned (.bool true)∧Below w.heap.size w w'):=by
 subst htm
 obtain⟨K,e,a1,h1,w1,hx,hw,he,hdf,vs,hvs,hR⟩:=hx
 have hcall:cC (over P f) P K g args h=some (.bool true,h,none):=by
  unfold cC
  simp only[hf,hb,hx]
  have hend:cW P fd h.length h a1 h1 w1=some (.bool true,h,none):=by
   simp[cW,hdf,aK,hvs,hR,vN,hw,show aP (.bool true)=true from rfl]
  rcases he with rfl|rfl<;>exact hend
 refine (fZ (wC hm hv) (fun {_ _ _ _ _ _ _} hv' {_ _ _ _ _ _ _ _ _} hr hlo hA hw hQ=>lT (wC hm hv) hm hv' hr hlo hA hw hQ) hcall (hr.still h.length (a9 _)) (a9 _) (fun n hn=>by cases hn) hargs).mono ?_
 rintro e' w' ⟨v',m',rfl,hp,hvr⟩
 cases hvr
 exact⟨rfl,hp.below⟩
end Go.Rex
