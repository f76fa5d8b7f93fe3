/- What these functions return: facts on lists and numbers. -/
import Derived.Test.YtneefkifalbplaaRexG10
import Derived.Test.YtneefkifalbplaaS
import Derived.ProofKit
import Derived.OpenShut
import Derived.ShutString
import Derived.ChangeOld
import Derived.Below
import Derived.Lib.SmallJoins
import Derived.ChangeShapes
import Derived.ChangeArms
import Derived.WideShapes
set_option linter.unusedSimpArgs false
set_option linter.unusedVariables false
set_option linter.defProp false
set_option linter.unusedSectionVars false
namespace Go.Rex
open Go.RowKit
structure FOk(f:Ieee.Format)(q:Nat):Prop where
 lp:f.leastPlace = -(q:Int)
 le:f.fractionBits+1≤q
 inf:(q+2)*f.binade≤f.infRung
 sgn:f.infRung<f.signWeight
def fq:FloatKind→Nat
 | .f32=>149
 | .f64=>1074
def fb:FloatKind→Nat
 | .f32=>23
 | .f64=>52
theorem fok(k:FloatKind):FOk k.format (fq k):=by
 cases k<;>exact⟨by decide,by decide,by decide +kernel,by decide +kernel⟩
theorem aCN(k:FloatKind):k.format.fractionBits=fb k:=by cases k<;>rfl
theorem Nr(n:Nat)(neg:Bool):Ieee.Toward.cut .even neg n 0=n:=by
 simp[Ieee.Toward.cut,Nat.mod_one]
theorem shl(m s:Nat):m <<< s=m*2^s:=Nat.shiftLeft_eq m s
theorem Dj{m:Nat}(hm:m≠0)(s:Nat):(m*2^s).log2=m.log2+s:=by
 rw[Nat.log2_eq_iff (by have:=Nat.two_pow_pos s;exact Nat.mul_ne_zero hm (by omega))]
 have h1:=(Nat.log2_eq_iff hm).1 rfl
 constructor
 ·rw[Nat.pow_add];exact Nat.mul_le_mul_right _ h1.1
 ·rw[show m.log2+s+1=m.log2+1+s by omega,Nat.pow_add];exact Nat.mul_lt_mul_of_pos_right h1.2 (Nat.two_pow_pos s)
theorem mY{m:Nat}(hm:m≠0)(neg:Bool){s d:Nat}(hd:d≤s)(way:Ieee.Toward):way.cut neg (m*2^s) d=m*2^(s-d):=by
 have hg:min d ((m*2^s).log2+2)=d:=by rw[Dj hm];omega
 have e:m*2^s=2^d*(m*2^(s-d)):=by
  rw[Nat.mul_comm (2^d),Nat.mul_assoc,← Nat.pow_add,Nat.sub_add_cancel hd]
 have hp:=Nat.two_pow_pos d
 unfold Ieee.Toward.cut
 rw[hg,shl,Nat.one_mul,e]
 dsimp only
 rw[Nat.mul_div_cancel_left _ hp,Nat.mul_mod_right]
 have:(2^d==0)=false:=by simp
 cases way<;>simp[this]
theorem xC(neg:Bool){d:Nat}(way:Ieee.Toward):way.cut neg 0 d=0:=by
 unfold Ieee.Toward.cut
 have hp:0<1 <<< min d ((0:Nat).log2+2):=by rw[shl,Nat.one_mul];exact Nat.two_pow_pos _
 have:(1 <<< min d ((0:Nat).log2+2)==0)=false:=by rw[beq_eq_false_iff_ne];omega
 cases way<;>simp[this]
theorem log2_lt{m b:Nat}(hm:m≠0)(h:m<2^(b+1)):m.log2≤b:=by
 have:=(Nat.log2_lt hm).2 h
 omega
theorem Nk{f:Ieee.Format}{q:Nat}(ok:FOk f q){m:Nat}(hm:m≠0)(hl:m<2^(f.fractionBits+1))(neg:Bool)(s:Nat) :
 f.nearest neg (m*2^s) (-(s:Int))=f.word neg ((q+m.log2-f.fractionBits)*f.binade+m*2^(f.fractionBits-m.log2)):=by
 have hL:=log2_lt hm hl
 have hle:=ok.le
 unfold Ieee.Format.nearest
 rw[if_neg (by have:=Nat.two_pow_pos s;exact Nat.mul_ne_zero hm (by omega)),Dj hm,ok.lp]
 have e1:max (-(s:Int)+((m.log2+s:Nat):Int)-(f.fractionBits:Int)) (-(q:Int))=(m.log2:Int)-f.fractionBits:=by omega
 rw[e1]
 have kept:Ieee.Toward.even.cut neg ((m*2^s) <<< (-(s:Int)-((m.log2:Int)-f.fractionBits)).toNat) ((m.log2:Int)-f.fractionBits - -(s:Int)).toNat=m*2^(f.fractionBits-m.log2):=by
  rcases Nat.lt_or_ge (f.fractionBits-m.log2) s with h|h
  ·have a1:(-(s:Int)-((m.log2:Int)-f.fractionBits)).toNat=0:=by omega
   rw[a1,shl,Nat.pow_zero,Nat.mul_one,mY hm neg (by omega)]
   congr 2;omega
  ·have a1:(-(s:Int)-((m.log2:Int)-f.fractionBits)).toNat=f.fractionBits-m.log2-s:=by omega
   have a2:((m.log2:Int)-f.fractionBits - -(s:Int)).toNat=0:=by omega
   rw[a1,a2,Nr,shl,Nat.mul_assoc,← Nat.pow_add]
   congr 2;omega
 dsimp only
 rw[kept]
 have a3:((m.log2:Int)-f.fractionBits - -(q:Int)).toNat=q+m.log2-f.fractionBits:=by omega
 rw[a3]
 have hk:m*2^(f.fractionBits-m.log2)<2*f.binade:=by
  have h1:=(Nat.log2_eq_iff hm).1 rfl
  have h2:=Nat.mul_lt_mul_of_pos_right h1.2 (Nat.two_pow_pos (f.fractionBits-m.log2))
  rw[← Nat.pow_add] at h2
  rw[show m.log2+1+(f.fractionBits-m.log2)=f.fractionBits+1 by omega] at h2
  unfold Ieee.Format.binade
  rw[Nat.pow_succ] at h2
  omega
 have hi:=ok.inf
 have hq:(q+m.log2-f.fractionBits)*f.binade≤q*f.binade:=Nat.mul_le_mul_right _ (by omega)
 rw[Nat.add_mul] at hi
 rw[Nat.min_eq_left (by omega)]
def digs(f:Ieee.Format)(q m:Nat):Nat:=if m=0 then q else f.fractionBits-m.log2
theorem Vo{f:Ieee.Format}{q:Nat}(ok:FOk f q){m:Nat}(hl:m<2^(f.fractionBits+1))(neg:Bool):f.read (f.nearest neg m 0) = .number neg (m*2^digs f q m) (-(digs f q m:Int)):=by
 have hle:=ok.le
 have hsg:=ok.sgn
 have hinf:=ok.inf
 have hbp:0<f.binade:=Nat.two_pow_pos _
 have wd:∀ r,r<f.signWeight→(f.word neg r/f.signWeight%2==1)=neg∧f.word neg r%f.signWeight=r:=by
  intro r hr
  unfold Ieee.Format.word
  cases neg
  ·simp[Nat.div_eq_of_lt hr,Nat.mod_eq_of_lt hr]
  ·have hs:0<f.signWeight:=by omega
   simp only[if_true]
   rw[Nat.add_div_left _ hs,Nat.div_eq_of_lt hr,Nat.add_mod_left,Nat.mod_eq_of_lt hr]
   simp
 rw[Nat.add_mul] at hinf
 have hq0:2*f.binade≤f.infRung:=by omega
 by_cases hm:m=0
 ·subst hm
  have:f.nearest neg 0 0=f.word neg 0:=by unfold Ieee.Format.nearest;simp
  rw[this]
  unfold Ieee.Format.read
  simp only[(wd 0 (by omega)).1,(wd 0 (by omega)).2]
  rw[if_pos hbp,ok.lp]
  simp[digs]
 ·have h0:=Nk ok hm hl neg 0
  simp only[Nat.pow_zero,Nat.mul_one,Int.natCast_zero,Int.neg_zero] at h0
  rw[h0]
  have hL:=log2_lt hm hl
  have h1:=(Nat.log2_eq_iff hm).1 rfl
  have hk:m*2^(f.fractionBits-m.log2)<2*f.binade:=by
   have h2:=Nat.mul_lt_mul_of_pos_right h1.2 (Nat.two_pow_pos (f.fractionBits-m.log2))
   rw[← Nat.pow_add] at h2
   rw[show m.log2+1+(f.fractionBits-m.log2)=f.fractionBits+1 by omega] at h2
   unfold Ieee.Format.binade
   rw[Nat.pow_succ] at h2
   omega
  have hk2:f.binade≤m*2^(f.fractionBits-m.log2):=by
   have h2:=Nat.mul_le_mul_right (2^(f.fractionBits-m.log2)) h1.1
   rw[← Nat.pow_add] at h2
   rw[show m.log2+(f.fractionBits-m.log2)=f.fractionBits by omega] at h2
   exact h2
  generalize hK:m*2^(f.fractionBits-m.log2)=K at *
  obtain⟨j,hj⟩:∃ j,K=f.binade+j:=⟨K-f.binade,by omega⟩
  subst hj
  have hjb:j<f.binade:=by omega
  have hq:(q+m.log2-f.fractionBits)*f.binade≤q*f.binade:=Nat.mul_le_mul_right _ (by omega)
  have hr:(q+m.log2-f.fractionBits)*f.binade+(f.binade+j)<f.infRung:=by omega
  have hrs:(q+m.log2-f.fractionBits)*f.binade+(f.binade+j)<f.signWeight:=by omega
  unfold Ieee.Format.read
  simp only[(wd _ hrs).1,(wd _ hrs).2]
  rw[if_neg (by omega),if_pos hr]
  have e1:(q+m.log2-f.fractionBits)*f.binade+(f.binade+j)=f.binade*(q+m.log2-f.fractionBits+1)+j:=by
   rw[Nat.mul_add,Nat.mul_comm];omega
  rw[e1,Nat.mul_add_mod,Nat.mod_eq_of_lt hjb,Nat.mul_add_div hbp,Nat.div_eq_of_lt hjb,ok.lp]
  unfold digs
  rw[if_neg hm,hK]
  congr 1
  omega
def sg(s:Bool)(m:Nat):Int:=if s then -(m:Int) else m
theorem vT(s:Bool)(m u:Nat):Ieee.signed s m u=sg s m*2^u:=by
 unfold Ieee.signed sg
 rw[shl]
 cases s<;>simp[Int.neg_mul]
def fz(k:FloatKind)(s:Bool)(m:Nat):Nat:=k.encode (.number s m 0)
def ffit(k:FloatKind)(m:Nat):Prop:=m<2^(fb k+1)
def dg(k:FloatKind)(m:Nat):Nat:=digs k.format (fq k) m
theorem aA0{k:FloatKind}{s:Bool}{m:Nat}(h:ffit k m):k.format.read (fz k s m) = .number s (m*2^dg k m) (-(dg k m:Int)):=
 Vo (fok k) (by rw[aCN];exact h) s
theorem Qv(s:Bool)(m n:Nat):sg s (m*n)=sg s m*n:=by cases s<;>simp[sg,Int.neg_mul]
theorem xD(s:Bool)(m:Nat):(sg s m).natAbs=m:=by cases s<;>simp[sg]
theorem aBW{op:BinOp}{k:FloatKind}{a b r:Nat}(h:farith0 op k a b=some r):farith op k a b=some r:=by
 unfold farith arN
 rw[h]
 rfl
end Go.Rex
open Go Go.Rex
namespace Go.Rex
set_option maxRecDepth 100000
theorem dbl:Ieee.double.fractionBits=52∧Ieee.double.leastPlace = -1074∧Ieee.double.binade=2^52∧Ieee.double.infRung=2047*Ieee.double.binade∧Ieee.double.signWeight=2048*Ieee.double.binade:=by decide +kernel
theorem Le{m:Nat}(hm:m≠0)(hl:m<2^53)(neg:Bool)(a:Nat){e p:Int}(hp:p=e-a)(h1:-1074≤e+m.log2-52)(h2:e+m.log2≤1023) :
 Ieee.double.nearest neg (m*2^a) p=Ieee.double.word neg ((1074+e+m.log2-52).toNat*Ieee.double.binade+m*2^(52-m.log2)):=by
 subst hp
 have hL:=log2_lt hm hl
 unfold Ieee.Format.nearest
 rw[if_neg (by have:=Nat.two_pow_pos a;exact Nat.mul_ne_zero hm (by omega)),Dj hm,dbl.1,dbl.2.1]
 have e1:max (e-(a:Int)+((m.log2+a:Nat):Int)-((52:Nat):Int)) (-1074)=e+(m.log2:Int)-52:=by omega
 rw[e1]
 have kept:Ieee.Toward.even.cut neg ((m*2^a) <<< (e-(a:Int)-(e+(m.log2:Int)-52)).toNat) (e+(m.log2:Int)-52-(e-(a:Int))).toNat=m*2^(52-m.log2):=by
  rcases Nat.lt_or_ge (52-m.log2) a with h|h
  ·have a1:(e-(a:Int)-(e+(m.log2:Int)-52)).toNat=0:=by omega
   rw[a1,shl,Nat.pow_zero,Nat.mul_one,mY hm neg (by omega)]
   congr 2;omega
  ·have a1:(e-(a:Int)-(e+(m.log2:Int)-52)).toNat=52-m.log2-a:=by omega
   have a2:(e+(m.log2:Int)-52-(e-(a:Int))).toNat=0:=by omega
   rw[a1,a2,Nr,shl,Nat.mul_assoc,← Nat.pow_add]
   congr 2;omega
 dsimp only
 rw[kept]
 have a3:(e+(m.log2:Int)-52 - -1074).toNat=(1074+e+m.log2-52).toNat:=by omega
 rw[a3]
 have hk:m*2^(52-m.log2)<2*Ieee.double.binade:=by
  have h1:=(Nat.log2_eq_iff hm).1 rfl
  have h2:=Nat.mul_lt_mul_of_pos_right h1.2 (Nat.two_pow_pos (52-m.log2))
  rw[← Nat.pow_add] at h2
  rw[show m.log2+1+(52-m.log2)=53 by omega] at h2
  rw[dbl.2.2.1]
  omega
 rw[dbl.2.2.2.1]
 generalize Ieee.double.binade=B at hk ⊢
 rw[Nat.min_eq_left (by
  have:(1074+e+(m.log2:Int)-52).toNat≤2045:=by omega
  have:=Nat.mul_le_mul_right B this
  omega)]
theorem wd(neg:Bool)(r:Nat)(hr:r<Ieee.double.signWeight):(Ieee.double.word neg r/Ieee.double.signWeight%2==1)=neg∧Ieee.double.word neg r%Ieee.double.signWeight=r:=by
 unfold Ieee.Format.word
 cases neg
 ·simp[Nat.div_eq_of_lt hr,Nat.mod_eq_of_lt hr]
 ·have hs:0<Ieee.double.signWeight:=by omega
  simp only[if_true]
  rw[Nat.add_div_left _ hs,Nat.div_eq_of_lt hr,Nat.add_mod_left,Nat.mod_eq_of_lt hr]
  simp
theorem Rw{m:Nat}(hm:m≠0)(hl:m<2^53)(neg:Bool){e:Int}(h1:-1074≤e+m.log2-52)(h2:e+m.log2≤1023) :
 Ieee.double.read (Ieee.double.nearest neg m e) = .number neg (m*2^(52-m.log2)) (e-((52-m.log2:Nat):Int)):=by
 have h0:=Le hm hl neg 0 (e:=e) (p:=e) (by simp) h1 h2
 rw[Nat.pow_zero,Nat.mul_one] at h0
 rw[h0]
 have hL:=log2_lt hm hl
 have hh:=(Nat.log2_eq_iff hm).1 rfl
 have hB:=dbl.2.2.1
 have hk:m*2^(52-m.log2)<2*Ieee.double.binade:=by
  have h2:=Nat.mul_lt_mul_of_pos_right hh.2 (Nat.two_pow_pos (52-m.log2))
  rw[← Nat.pow_add] at h2
  rw[show m.log2+1+(52-m.log2)=53 by omega] at h2
  rw[hB]
  omega
 have hk2:Ieee.double.binade≤m*2^(52-m.log2):=by
  have h2:=Nat.mul_le_mul_right (2^(52-m.log2)) hh.1
  rw[← Nat.pow_add] at h2
  rw[show m.log2+(52-m.log2)=52 by omega] at h2
  rw[hB]
  exact h2
 have hB0:0<Ieee.double.binade:=by rw[hB];decide
 generalize hK:m*2^(52-m.log2)=K at *
 obtain⟨j,hj⟩:∃ j,K=Ieee.double.binade+j:=⟨K-Ieee.double.binade,by omega⟩
 subst hj
 obtain⟨q,hq⟩:∃ q:Nat,(1074+e+(m.log2:Int)-52).toNat=q:=⟨_,rfl⟩
 rw[hq]
 have hq2:q≤2045:=by omega
 have hqb:=Nat.mul_le_mul_right Ieee.double.binade hq2
 have hr:q*Ieee.double.binade+(Ieee.double.binade+j)<Ieee.double.signWeight:=by
  rw[dbl.2.2.2.2]
  omega
 unfold Ieee.Format.read
 simp only[(wd neg _ hr).1,(wd neg _ hr).2]
 rw[dbl.2.2.2.1,dbl.2.1]
 generalize Ieee.double.binade=B at *
 rw[if_neg (by omega),if_pos (by omega)]
 have e1:q*B+(B+j)=B*(q+1)+j:=by rw[Nat.mul_add,Nat.mul_comm];omega
 have hjb:j<B:=by omega
 rw[e1,Nat.mul_add_mod,Nat.mod_eq_of_lt hjb,Nat.mul_add_div hB0,Nat.div_eq_of_lt hjb]
 congr 1
 omega
theorem Ar(neg:Bool)(p:Int):Ieee.double.nearest neg 0 p=Ieee.double.word neg 0:=by
 unfold Ieee.Format.nearest
 simp
theorem Qs(neg:Bool):Ieee.double.read (Ieee.double.word neg 0) = .number neg 0 (-1074):=by
 cases neg<;>decide +kernel
def NV(s:Bool)(m:Nat)(e:Int)(x:Int):Prop:=(0≤e∧sg s m*2^e.toNat=x)∨(e<0∧sg s m=x*2^(-e).toNat)
theorem mX(a b:Nat):(2:Int)^(a+b)=2^a*2^b:=Int.pow_add ..
theorem NV.at{s:Bool}{m:Nat}{e x:Int}(h:NV s m e x){b:Int}(hb:b≤e)(hb0:b≤0):sg s m*2^(e-b).toNat=x*2^(-b).toNat:=by
 rcases h with⟨h0,h1⟩|⟨h0,h1⟩
 ·rw[show (e-b).toNat=e.toNat+(-b).toNat by omega,mX,← Int.mul_assoc,h1]
 ·rw[h1,show (-b).toNat=(-e).toNat+(e-b).toNat by omega,mX,Int.mul_assoc]
theorem NV.of{s:Bool}{m:Nat}{e x b:Int}(hb:b≤e)(hb0:b≤0)(h:sg s m*2^(e-b).toNat=x*2^(-b).toNat):NV s m e x:=by
 have hp:∀ k:Nat,(0:Int)<2^k:=fun k=>Int.pow_pos (by decide)
 by_cases he:0≤e
 ·left
  refine⟨he,?_⟩
  rw[show (e-b).toNat=e.toNat+(-b).toNat by omega,mX,← Int.mul_assoc] at h
  exact Int.eq_of_mul_eq_mul_right (Int.ne_of_gt (hp _)) h
 ·right
  refine⟨by omega,?_⟩
  rw[show (-b).toNat=(-e).toNat+(e-b).toNat by omega,mX,← Int.mul_assoc] at h
  exact Int.eq_of_mul_eq_mul_right (Int.ne_of_gt (hp _)) h
theorem Gt(a b:Int)(k:Nat):compare (a*2^k) (b*2^k)=compare a b:=by
 have hp:(0:Int)<2^k:=Int.pow_pos (by decide)
 have key:∀ a b:Int,a*2^k<b*2^k↔a<b:=fun a b=>Int.mul_lt_mul_right hp
 simp only[compare,compareOfLessAndEq,key]
 have:(a*2^k=b*2^k)↔a=b:=Int.mul_eq_mul_right_iff (by omega)
 simp only[this]
theorem qL{s t:Bool}{m n:Nat}{i j b:Int}(hi:b≤i)(hj:b≤j):Ieee.Datum.order (.number s m i) (.number t n j)=some (compare (sg s m*2^(i-b).toNat) (sg t n*2^(j-b).toNat)):=by
 simp only[Ieee.Datum.order,vT]
 congr 1
 rw[show (i-b).toNat=(i-min i j).toNat+(min i j-b).toNat by omega,show (j-b).toNat=(j-min i j).toNat+(min i j-b).toNat by omega,mX,mX,← Int.mul_assoc,← Int.mul_assoc,Gt]
theorem qK{s t:Bool}{m n:Nat}{i j x y:Int}(h:NV s m i x)(g:NV t n j y):Ieee.Datum.order (.number s m i) (.number t n j)=some (compare x y):=by
 have hb:min (min i j) 0≤i∧min (min i j) 0≤j∧min (min i j) 0≤0:=by omega
 rw[qL hb.1 hb.2.1,h.at hb.1 hb.2.2,g.at hb.2.1 hb.2.2,Gt]
theorem Yz{s t:Bool}{m n:Nat}{i j y:Int}(g:NV t n j y)(h:Ieee.Datum.order (.number s m i) (.number t n j)=some .eq):NV s m i y:=by
 have hb:min (min i j) 0≤i∧min (min i j) 0≤j∧min (min i j) 0≤0:=by omega
 rw[qL hb.1 hb.2.1,g.at hb.2.1 hb.2.2,Option.some.injEq,Int.compare_eq_eq] at h
 exact NV.of hb.1 hb.2.2 h
theorem NV.shift{s:Bool}{m:Nat}{e x:Int}(a:Nat):NV s (m*2^a) (e-a) x↔NV s m e x:=by
 have hb:min (e-a) 0≤e∧min (e-a) 0≤e-a∧min (e-a) 0≤0:=by omega
 have key:sg s (m*2^a)*2^(e-a-min (e-a) 0).toNat=sg s m*2^(e-min (e-a) 0).toNat:=by
  rw[Qv,Int.mul_assoc,Int.natCast_pow]
  congr 1
  show (2:Int)^a*2^_=_
  rw[← mX]
  congr 1
  omega
 constructor
 ·intro h
  exact NV.of hb.1 hb.2.2 (by rw[← key];exact h.at hb.2.1 hb.2.2)
 ·intro h
  exact NV.of hb.2.1 hb.2.2 (by rw[key];exact h.at hb.1 hb.2.2)
end Go.Rex
open Go Go.Rex
namespace Go.Rex
set_option maxRecDepth 100000
def MOk(m:Nat)(e:Int):Prop:=(m=0∧e = -149)∨(m≠0∧m<2^24∧-149≤e∧e≤104)
theorem sng:Ieee.single.leastPlace = -149∧Ieee.single.binade=2^23∧Ieee.single.infRung=255*2^23:=by decide +kernel
theorem Ho(b:Nat):(∃ s t,Ieee.single.read b = .nan s t)∨(∃ s,Ieee.single.read b = .infinity s)∨(∃ s m e,Ieee.single.read b = .number s m e∧MOk m e):=by
 unfold Ieee.Format.read
 simp only[sng.1,sng.2.1,sng.2.2]
 generalize b%Ieee.single.signWeight=r
 generalize (b/Ieee.single.signWeight%2==1)=s
 split
 ·rename_i h
  refine .inr (.inr ⟨_,_,_,rfl,?_⟩)
  by_cases h0:r=0
  ·exact .inl ⟨h0,rfl⟩
  ·exact .inr ⟨h0,by omega,by omega,by omega⟩
 ·split
  ·refine .inr (.inr ⟨_,_,_,rfl,.inr ⟨by omega,?_,by omega,by omega⟩⟩)
   have:=Nat.mod_lt r (show 0<2^23 by decide)
   omega
  ·split
   ·exact .inr (.inl ⟨_,rfl⟩)
   ·exact .inl ⟨_,_,rfl⟩
theorem Gq{m:Nat}(hm:m≠0)(hl:m<2^53)(neg:Bool)(a:Nat){e p:Int}(hp:p=e-a)(h1:-1074≤e+m.log2-52)(h2:e+m.log2≤1023):Ieee.double.nearest neg (m*2^a) p=Ieee.double.nearest neg m e:=by
 rw[Le hm hl neg a hp h1 h2]
 have:=Le hm hl neg 0 (e:=e) (p:=e) (by simp) h1 h2
 rw[Nat.pow_zero,Nat.mul_one] at this
 exact this.symm
theorem Vd(s:Bool)(m:Nat)(e:Int):∃ r,Ieee.double.nearest s m e=Ieee.double.word s r∧r≤Ieee.double.infRung:=by
 unfold Ieee.Format.nearest
 split
 ·exact⟨0,rfl,Nat.zero_le _⟩
 ·exact⟨_,rfl,Nat.min_le_right _ _⟩
theorem Sn{m:Nat}{e:Int}(h:m≠0∧m<2^24∧-149≤e∧e≤104):-1074≤e+m.log2-52∧e+m.log2≤1023∧m<2^53:=by
 have:m.log2≤23:=log2_lt h.1 h.2.1
 exact⟨by omega,by omega,by omega⟩
structure Dbl(s:Bool)(m:Nat)(e:Int)(v M:Nat)(E:Int):Prop where
 nr:v=Ieee.double.nearest s m e
 rd:Ieee.double.read v = .number s M E
 nv:∀ x,NV s M E x↔NV s m e x
 lt:M<2^53
 hi:E≤104
 sh:(m=0∧M=0∧E = -1074)∨∃ t:Nat,m≠0∧M=m*2^t∧E=e-t
theorem wZ{s:Bool}{m:Nat}{e:Int}(h:MOk m e):∃ M E,Dbl s m e (Ieee.double.nearest s m e) M E:=by
 rcases h with⟨rfl,rfl⟩|h
 ·refine⟨0,-1074,rfl,by rw[Ar];exact Qs s,fun x=>?_,by decide,by decide,.inl ⟨rfl,rfl,rfl⟩⟩
  have e0:sg s 0=0:=by cases s<;>rfl
  have hp:∀ k:Nat,(2:Int)^k≠0:=fun k=>Int.ne_of_gt (Int.pow_pos (by decide))
  unfold NV
  simp only[e0,Int.zero_mul]
  constructor
  ·rintro (⟨h,_⟩|⟨_,h⟩)
   ·omega
   ·right
    refine⟨by decide,?_⟩
    rcases Int.mul_eq_zero.1 h.symm with h|h
    ·rw[h,Int.zero_mul]
    ·exact absurd h (hp _)
  ·rintro (⟨h,_⟩|⟨_,h⟩)
   ·omega
   ·right
    refine⟨by decide,?_⟩
    rcases Int.mul_eq_zero.1 h.symm with h|h
    ·rw[h,Int.zero_mul]
    ·exact absurd h (hp _)
 ·obtain⟨h1,h2,h3⟩:=Sn h
  have hlog:m.log2≤23:=log2_lt h.1 h.2.1
  refine⟨m*2^(52-m.log2),e-((52-m.log2:Nat):Int),rfl,Rw h.1 h3 s h1 h2,fun x=>NV.shift _,?_,by omega,.inr ⟨52-m.log2,h.1,rfl,rfl⟩⟩
  have hh:=(Nat.log2_eq_iff h.1).1 rfl
  have h2:=Nat.mul_lt_mul_of_pos_right hh.2 (Nat.two_pow_pos (52-m.log2))
  rw[← Nat.pow_add] at h2
  rw[show m.log2+1+(52-m.log2)=53 by omega] at h2
  exact h2
theorem oG{k:FloatKind}{b:Nat}{s:Bool}{m:Nat}{e:Int}(h:k.format.read b = .number s m e):iM k b=false:=by
 cases hq:iM k b with
 | false=>rfl
 | true =>
  obtain⟨s',t,e'⟩:=mD hq
  rw[h] at e'
  cases e'
theorem tL{b:Nat}{s:Bool}{m:Nat}{e:Int}(hr:Ieee.single.read b = .number s m e)(h:MOk m e):f2f .f32 b .f64=some (Ieee.double.nearest s m e):=by
 obtain⟨M,E,hd⟩:=wZ (s:=s) h
 have hn:iM .f32 b=false:=oG (k:=.f32) hr
 unfold f2f
 rw[if_neg (by decide),hn,if_neg (by decide)]
 have hr':FloatKind.f32.decode b = .number s m e:=hr
 rw[hr']
 simp only
 have e1:FloatKind.f64.encode (.number s m e)=Ieee.double.nearest s m e:=rfl
 rw[e1]
 have e2:FloatKind.f64.decode (Ieee.double.nearest s m e) = .number s M E:=hd.rd
 rw[e2]
 rfl
theorem Jq{v:Nat}{s:Bool}{M:Nat}{E:Int}(h:Ieee.double.read v = .number s M E):trI .zero v=some (Ieee.double.nearest s (Ieee.Toward.cut .zero s (M <<< E.toNat) (-E).toNat) 0):=by
 unfold trI
 rw[oG (k:=.f64) h,if_neg (by decide)]
 have h':FloatKind.f64.decode v = .number s M E:=h
 rw[h']
 rfl
theorem zY{s:Bool}{m:Nat}{e x:Int}(h:NV s m e x):sg s x.natAbs=x:=by
 have key:∀(a:Nat) (y:Int),sg s a=y→sg s y.natAbs=y:=fun a y h=>by rw[← h,xD]
 have hp:∀ k:Nat,(0:Int)<2^k:=fun k=>Int.pow_pos (by decide)
 rcases h with⟨_,h⟩|⟨_,h⟩
 ·have:sg s (m*2^e.toNat)=x:=by rw[Qv,← h,Int.natCast_pow];rfl
  exact key _ _ this
 ·have h2 : 0 ≤ sg s 1 * x := by
    have h3:sg s m=sg s 1*(m:Int):=by cases s<;>simp[sg]
    have h4:(0:Int)≤sg s 1*(x*2^(-e).toNat):=by rw[← h,h3];cases s<;>simp[sg]
    rw[← Int.mul_assoc] at h4
    by_cases hn:sg s 1*x<0
    ·have:=Int.mul_neg_of_neg_of_pos hn (hp (-e).toNat)
     omega
    ·omega
  cases s
  ·simp[sg] at h2 ⊢;omega
  ·simp[sg] at h2 ⊢;omega
theorem Gf{s:Bool}{m:Nat}{e:Int}{v M:Nat}{E x:Int}(h:MOk m e)(hd:Dbl s m e v M E)(hx:NV s m e x):trI .zero v=some v:=by
 rw[Jq hd.rd]
 congr 1
 rcases hd.sh with⟨h0,h1,h2⟩|⟨t,hm,h1,h2⟩
 ·subst h0 h1 h2
  rw[show (0:Nat) <<< (-1074:Int).toNat=0 by rw[shl];simp,xC,Ar,hd.nr,Ar]
 ·rcases h with⟨h0,_⟩|hk
  ·exact absurd h0 hm
  obtain⟨k1,k2,k3⟩:=Sn hk
  have hlog:m.log2≤23:=log2_lt hk.1 hk.2.1
  subst h1 h2
  rw[hd.nr]
  rcases hx with⟨he,hx⟩|⟨he,hx⟩
  ·have hq : Ieee.Toward.cut .zero s ((m * 2 ^ t) <<< (e - (t : Int)).toNat) (-(e - (t : Int))).toNat = m * 2 ^ e.toNat := by
     rw[shl,Nat.mul_assoc,← Nat.pow_add,mY hm s (by omega)]
     congr 2
     omega
   rw[hq]
   exact Gq hm k3 s e.toNat (by omega) k1 k2
  ·have hX : m = x.natAbs * 2 ^ (-e).toNat := by
     have:=congrArg Int.natAbs hx
     rw[xD,Int.natAbs_mul,Int.natAbs_pow] at this
     exact this
   have hX0:x.natAbs≠0:=by
    intro h
    rw[h,Nat.zero_mul] at hX
    exact hm hX
   have hXl:x.natAbs≤m:=by rw[hX];exact Nat.le_mul_of_pos_right _ (Nat.two_pow_pos _)
   have hXlog:x.natAbs.log2≤23:=log2_lt hX0 (by omega)
   have hq:Ieee.Toward.cut .zero s ((m*2^t) <<< (e-(t:Int)).toNat) (-(e-(t:Int))).toNat=x.natAbs:=by
    rw[show (e-(t:Int)).toNat=0 by omega,shl,Nat.pow_zero,Nat.mul_one,hX,Nat.mul_assoc,← Nat.pow_add,mY hX0 s (by omega)]
    rw[show (-e).toNat+t-(-(e-(t:Int))).toNat=0 by omega]
    simp
   rw[hq]
   have:=Gq hX0 (by omega) s (-e).toNat (e:=0) (p:=e) (by omega) (by omega) (by omega)
   rw[← hX] at this
   exact this.symm
theorem Ff{q:Nat}(hq:q<2^53)(s:Bool):∃ n j,Ieee.double.read (Ieee.double.nearest s q 0) = .number s n j∧NV s n j (sg s q):=by
 by_cases h0:q=0
 ·subst h0
  refine⟨0,-1074,by rw[Ar];exact Qs s,.inr ⟨by decide,?_⟩⟩
  rw[show sg s 0=0 by cases s<;>rfl,Int.zero_mul]
 ·have hl:=log2_lt h0 hq
  refine⟨_,_,Rw h0 hq s (by omega) (by omega),(NV.shift _).2 (.inl ⟨by decide,?_⟩)⟩
  simp
theorem Zy{s:Bool}{m:Nat}{e:Int}{v M:Nat}{E:Int}(h:MOk m e)(hd:Dbl s m e v M E)(hx:∀ x,¬ NV s m e x):∃ w,trI .zero v=some w∧fcmp .eql .f64 v w=false:=by
 have hE:E<0:=by
  rcases hd.sh with⟨h0,h1,h2⟩|⟨t,hm,h1,h2⟩
  ·omega
  ·by_cases he:0≤e
   ·exact absurd (.inl ⟨he,rfl⟩) (hx _)
   ·omega
 have hq:Ieee.Toward.cut .zero s (M <<< E.toNat) (-E).toNat<2^53:=by
  rw[show E.toNat=0 by omega,shl,Nat.pow_zero,Nat.mul_one]
  unfold Ieee.Toward.cut
  simp only[Bool.toNat_false,Nat.add_zero]
  exact Nat.lt_of_le_of_lt (Nat.div_le_self _ _) hd.lt
 obtain⟨n,j,hr,hn⟩:=Ff hq s
 refine⟨_,Jq hd.rd,?_⟩
 unfold fcmp
 have ho:FloatKind.f64.format.order v (Ieee.double.nearest s (Ieee.Toward.cut .zero s (M <<< E.toNat) (-E).toNat) 0)=Ieee.Datum.order (.number s M E) (.number s n j):=by
  show Ieee.Datum.order (Ieee.double.read v) (Ieee.double.read _)=_
  rw[hd.rd,hr]
 simp only[ho]
 rw[beq_eq_false_iff_ne]
 intro he
 exact hx _ ((hd.nv _).1 (Yz hn he))
end Go.Rex
namespace Go.Rex
open Go Go.Rex
set_option maxRecDepth 100000
theorem ord64{a b:Nat}{s t:Bool}{m n:Nat}{i j:Int}(h:Ieee.double.read a = .number s m i)(g:Ieee.double.read b = .number t n j):FloatKind.f64.format.order a b=Ieee.Datum.order (.number s m i) (.number t n j):=by
 show Ieee.Datum.order (Ieee.double.read a) (Ieee.double.read b)=_
 rw[h,g]
theorem ord32{a b:Nat}{s t:Bool}{m n:Nat}{i j:Int}(h:Ieee.single.read a = .number s m i)(g:Ieee.single.read b = .number t n j):FloatKind.f32.format.order a b=Ieee.Datum.order (.number s m i) (.number t n j):=by
 show Ieee.Datum.order (Ieee.single.read a) (Ieee.single.read b)=_
 rw[h,g]
theorem yT{v:Nat}{s:Bool}{M:Nat}{E:Int}(h:Ieee.double.read v = .number s M E):fcmp .eql .f64 v v=true∧fcmp .neq .f64 v v=false:=by
 have:FloatKind.f64.format.order v v=some .eq:=by
  rw[ord64 h h,qL (Int.le_refl _) (Int.le_refl _)]
  congr 1
  exact Int.compare_eq_eq.2 rfl
 unfold fcmp
 simp only[this]
 exact⟨rfl,rfl⟩
theorem Yw{s:Bool}{r M:Nat}{E:Int}(hr:r<Ieee.double.signWeight)(h:Ieee.double.read (Ieee.double.word s r) = .number s M E):Ieee.double.read r = .number false M E:=by
 have h1:=wd s r hr
 have h2:(r/Ieee.double.signWeight%2==1)=false∧r%Ieee.double.signWeight=r:=by
  rw[Nat.div_eq_of_lt hr,Nat.mod_eq_of_lt hr]
  exact⟨rfl,rfl⟩
 unfold Ieee.Format.read at h ⊢
 simp only[h1.1,h1.2] at h
 simp only[h2.1,h2.2]
 split at h
 ·rename_i q
  rw[if_pos q]
  cases h
  rfl
 ·rename_i q
  rw[if_neg q]
  split at h
  ·rename_i q2
   rw[if_pos q2]
   cases h
   rfl
  ·split at h<;>cases h
theorem Yq:Ieee.double.read 9218868437227405311 = .number false (2^53-1) 971:=by decide +kernel
theorem aAJ{r M:Nat}{E:Int}(h:Ieee.double.read r = .number false M E)(hM:M<2^53)(hE:E≤104):fcmp .gtr .f64 r 9218868437227405311=false:=by
 have:FloatKind.f64.format.order r 9218868437227405311≠some .gt:=by
  rw[ord64 h Yq,qL (b:=E) (Int.le_refl _) (by omega)]
  intro hc
  rw[Option.some.injEq,Int.compare_eq_gt] at hc
  have h0:(E-E).toNat=0:=by omega
  rw[h0] at hc
  simp only[sg,Bool.false_eq_true,if_false,Int.pow_zero,Int.mul_one] at hc
  have h2:(1:Int)≤2^(971-E).toNat:=by have:=Int.pow_pos (m:=(971-E).toNat) (show (0:Int)<2 by decide);omega
  have h3:=Int.mul_le_mul_of_nonneg_left h2 (show (0:Int)≤((2^53-1:Nat):Int) by decide)
  rw[Int.mul_one] at h3
  have h4:((2^53-1:Nat):Int)=9007199254740991:=by decide
  rw[h4] at h3 hc
  omega
 unfold fcmp
 simp only
 rw[beq_eq_false_iff_ne]
 exact this
theorem aAG(s:Bool)(r:Nat)(hr:r<2^63):(xH .andNot .u64 ((Ieee.double.word s r:Nat):Int) 9223372036854775808).toNat=r:=by
 have hw:Ieee.double.word s r<2^64∧Ieee.double.word s r%2^63=r:=by
  unfold Ieee.Format.word
  have e:Ieee.double.signWeight=2^63:=by decide +kernel
  rw[e]
  cases s
  ·simp only[Bool.false_eq_true,if_false]
   omega
  ·simp only[if_true]
   omega
 generalize Ieee.double.word s r=v at hw ⊢
 unfold xH
 have hb:IntKind.u64.bits=64:=rfl
 have hwrap:∀ n:Int,IntKind.u64.wrap n=n%2^64:=fun n=>rfl
 simp only[hwrap]
 show (((BitVec.ofInt 64 (v:Int) &&& ~~~ BitVec.ofInt 64 9223372036854775808).toNat:Int)%2^64).toNat=r
 have h1:(BitVec.ofInt 64 (v:Int) &&& ~~~ BitVec.ofInt 64 9223372036854775808).toNat=v%2^63:=by
  have h2:(~~~ BitVec.ofInt 64 9223372036854775808).toNat=2^63-1:=by decide
  have h3:(BitVec.ofInt 64 (v:Int)).toNat=v:=by
   rw[BitVec.toNat_ofInt]
   omega
  rw[BitVec.toNat_and,h2,h3,Nat.and_two_pow_sub_one_eq_mod]
 rw[h1,hw.2]
 omega
theorem Tz{s:Bool}{m:Nat}{e:Int}{v M:Nat}{E:Int}(hd:Dbl s m e v M E):oH v 0=some false:=by
 obtain⟨r,hr,hri⟩:=Vd s m e
 rw[← hd.nr] at hr
 have hs:r<Ieee.double.signWeight:=by
  have:=dbl.2.2.2
  have h0:Ieee.double.infRung<Ieee.double.signWeight:=by decide +kernel
  omega
 have hs63:r<2^63:=by
  have e:Ieee.double.signWeight=2^63:=by decide +kernel
  rw[e] at hs
  exact hs
 have hn:=oG (k:=.f64) hd.rd
 have hrd:=hd.rd
 unfold oH zM fbits
 rw[hn]
 simp only[decide_true,if_true,Bool.false_eq_true,if_false,Option.bind_some]
 rw[hr,aAG s r hs63]
 rw[hr] at hrd
 rw[aAJ (Yw hs hrd) hd.lt hd.hi]
theorem Ej{b:Nat}{s:Bool}{m:Nat}{e x:Int}(hr:Ieee.single.read b = .number s m e)(h:MOk m e)(hx:NV s m e x):dJ b=some true:=by
 obtain⟨M,E,hd⟩:=wZ (s:=s) h
 unfold dJ mL
 rw[tL hr h]
 simp only[Option.bind_some]
 rw[Gf h hd hx]
 simp only[Option.bind_some]
 rw[(yT hd.rd).1,Tz hd]
 simp
theorem Uh{b:Nat}{s:Bool}{m:Nat}{e:Int}(hr:Ieee.single.read b = .number s m e)(h:MOk m e)(hx:∀ x,¬ NV s m e x):dJ b=some false:=by
 obtain⟨M,E,hd⟩:=wZ (s:=s) h
 obtain⟨w,h1,h2⟩:=Zy h hd hx
 unfold dJ mL
 rw[tL hr h]
 simp only[Option.bind_some]
 rw[h1]
 simp only[Option.bind_some]
 rw[h2]
 simp
theorem Zv{b:Nat}{s:Bool}{t:Nat}(hr:Ieee.single.read b = .nan s t):dJ b=some false∧f2f .f32 b .f64=some (qn .f64):=by
 have hn:iM .f32 b=true:=Br (k:=.f32) hr
 have hf:f2f .f32 b .f64=some (qn .f64):=by
  unfold f2f
  rw[if_neg (by decide),hn,if_pos rfl]
 refine⟨?_,hf⟩
 unfold dJ mL
 rw[hf]
 simp only[Option.bind_some]
 have e:trI .zero (qn .f64)=some (qn .f64):=by decide +kernel
 rw[e]
 simp only[Option.bind_some]
 have e2:fcmp .eql .f64 (qn .f64) (qn .f64)=false:=by decide +kernel
 rw[e2]
 simp
theorem Xo{b:Nat}{s:Bool}(hr:Ieee.single.read b = .infinity s):dJ b=some false∧f2f .f32 b .f64=some (FloatKind.f64.encode (.infinity s)):=by
 have hn:iM .f32 b=false:=by
  cases hq:iM .f32 b with
  | false=>rfl
  | true =>
   obtain⟨s',t,e'⟩:=mD hq
   have e':Ieee.single.read b = .nan s' t:=e'
   rw[hr] at e'
   cases e'
 have hf:f2f .f32 b .f64=some (FloatKind.f64.encode (.infinity s)):=by
  unfold f2f
  rw[if_neg (by decide),hn,if_neg (by decide)]
  have:FloatKind.f32.decode b = .infinity s:=hr
  rw[this]
 refine⟨?_,hf⟩
 unfold dJ
 rw[hf]
 simp only[Option.bind_some]
 cases s<;>decide +kernel
theorem Vl{s:Bool}{m:Nat}{e:Int}{v M:Nat}{E x:Int}(h:MOk m e)(hd:Dbl s m e v M E)(hx:NV s m e x):Ieee.Toward.cut .zero s (M <<< E.toNat) (-E).toNat=x.natAbs∧Ieee.double.nearest s x.natAbs 0=v:=by
 have key:=Gf h hd hx
 rw[Jq hd.rd] at key
 have key:=Option.some.inj key
 suffices hq:Ieee.Toward.cut .zero s (M <<< E.toNat) (-E).toNat=x.natAbs by
  rw[hq] at key
  exact⟨hq,key⟩
 clear key
 rcases hd.sh with⟨h0,h1,h2⟩|⟨t,hm,h1,h2⟩
 ·subst h0 h1 h2
  have e0:sg s 0=0:=by cases s<;>rfl
  have hx0:x=0:=by
   rcases hx with⟨_,hx⟩|⟨_,hx⟩
   ·rw[e0,Int.zero_mul] at hx;exact hx.symm
   ·rw[e0] at hx
    rcases Int.mul_eq_zero.1 hx.symm with h|h
    ·exact h
    ·exact absurd h (Int.ne_of_gt (Int.pow_pos (by decide)))
  rw[hx0,show (0:Nat) <<< (-1074:Int).toNat=0 by rw[shl];simp,xC]
  rfl
 ·subst h1 h2
  rcases hx with⟨he,hx⟩|⟨he,hx⟩
  ·rw[shl,Nat.mul_assoc,← Nat.pow_add,mY hm s (by omega)]
   have h3:=congrArg Int.natAbs hx
   rw[Int.natAbs_mul,xD,Int.natAbs_pow] at h3
   rw[← h3]
   show _=m*2^e.toNat
   congr 2
   omega
  ·have hX : m = x.natAbs * 2 ^ (-e).toNat := by
     have:=congrArg Int.natAbs hx
     rw[xD,Int.natAbs_mul,Int.natAbs_pow] at this
     exact this
   have hX0:x.natAbs≠0:=by
    intro h
    rw[h,Nat.zero_mul] at hX
    exact hm hX
   rw[show (e-(t:Int)).toNat=0 by omega,shl,Nat.pow_zero,Nat.mul_one,hX,Nat.mul_assoc,← Nat.pow_add,mY hX0 s (by omega)]
   rw[show (-e).toNat+t-(-(e-(t:Int))).toNat=0 by omega]
   simp
theorem Up{s t:Bool}{m n:Nat}{i j y:Int}(g:NV t n j y)(h:Ieee.Datum.order (.number t n j) (.number s m i)=some .eq):NV s m i y:=by
 have hb:min (min i j) 0≤i∧min (min i j) 0≤j∧min (min i j) 0≤0:=by omega
 rw[qL hb.2.1 hb.1,g.at hb.2.1 hb.2.2,Option.some.injEq,Int.compare_eq_eq] at h
 exact NV.of hb.1 hb.2.2 h.symm
theorem Sb:Ieee.double.read 14069741636278059008 = .number true 5000000000000000 1:=by decide +kernel
theorem Sz:Ieee.double.read 4846369599423283200 = .number false 5000000000000000 1:=by decide +kernel
theorem Gg{v:Nat}{s:Bool}{M:Nat}{E:Int}(h:Ieee.double.read v = .number s M E):farith .sub .f64 v v=some 0:=by
 refine aBW ?_
 show (((Ieee.double.read v).sum (Ieee.double.read v).opposite).map Ieee.double.write)=some 0
 rw[h]
 simp only[Ieee.Datum.opposite,Ieee.Datum.sum]
 have e:min E E=E:=by omega
 rw[e]
 have h0:(E-E).toNat=0:=by omega
 rw[h0]
 simp only[vT,Int.pow_zero,Int.mul_one]
 have hz:sg s M+sg (!s) M=0:=by cases s<;>simp[sg]<;>omega
 rw[hz]
 simp only[if_true,Option.map_some]
 have hs:(s&&!s)=false:=by cases s<;>rfl
 rw[hs]
 show some (Ieee.double.nearest false 0 E)=some 0
 rw[Ar]
 rfl
theorem cmpI{x y:Int}:((some (compare x y)==some Ordering.gt||some (compare x y)==some Ordering.eq)=decide (y≤x))∧((some (compare x y)==some Ordering.lt||some (compare x y)==some Ordering.eq)=decide (x≤y))∧((some (compare x y)==some Ordering.lt)=decide (x<y))∧((some (compare x y)==some Ordering.gt)=decide (y<x))∧((some (compare x y)==some Ordering.eq)=decide (x=y)):=by
 simp only[compare,compareOfLessAndEq]
 rcases Int.lt_trichotomy x y with h|h|h
 ·rw[if_pos h]
  refine⟨?_,?_,?_,?_,?_⟩<;>simp<;>omega
 ·subst h
  rw[if_neg (Int.lt_irrefl _),if_pos rfl]
  refine⟨?_,?_,?_,?_,?_⟩<;>simp
 ·rw[if_neg (by omega),if_neg (by omega)]
  refine⟨?_,?_,?_,?_,?_⟩<;>simp<;>omega
theorem Th{v:Nat}{s:Bool}{M:Nat}{E:Int}{q:Nat}(h:Ieee.double.read v = .number s M E)(hq:Ieee.Toward.cut .zero s (M <<< E.toNat) (-E).toNat=q)(hb:q<2^63):f2i .f64 v .i64=some (sg s q):=by
 unfold f2i
 have e:FloatKind.f64.decode v = .number s M E:=h
 rw[e]
 have e2:(Ieee.Datum.number s M E).toInt .zero=some (sg s q):=by
  unfold Ieee.Datum.toInt Ieee.Datum.integral
  simp only[hq,vT,Int.pow_zero,Int.mul_one]
 rw[e2]
 simp only
 have hm:IntKind.i64.min = -9223372036854775808∧IntKind.i64.max=9223372036854775807:=by decide
 rw[hm.1,hm.2,if_pos]
 cases s<;>simp only[sg,if_true,if_false,Bool.false_eq_true]<;>omega
theorem Tv{s:Bool}{m:Nat}{e:Int}{v M:Nat}{E x:Int}(h:MOk m e)(hd:Dbl s m e v M E)(hx:NV s m e x):lN v=some true:=by
 have hX:=(hd.nv x).2 hx
 have g1:fcmp .geq .f64 v 14069741636278059008=decide (-10000000000000000≤x):=by
  unfold fcmp
  simp only
  rw[ord64 hd.rd Sb,qK hX (y:=-10000000000000000) (.inl ⟨by decide,by decide⟩)]
  exact cmpI.1
 have g2:fcmp .leq .f64 v 4846369599423283200=decide (x≤10000000000000000):=by
  unfold fcmp
  simp only
  rw[ord64 hd.rd Sz,qK hX (y:=10000000000000000) (.inl ⟨by decide,by decide⟩)]
  exact cmpI.2.1
 unfold lN
 rw[(yT hd.rd).2,Gg hd.rd]
 simp only[Bool.false_eq_true,if_false,Option.bind_some]
 have g0:fcmp .neq .f64 0 0=false:=by decide +kernel
 rw[g0,g1,g2]
 simp only[Bool.false_eq_true,if_false]
 by_cases c1:-10000000000000000≤x
 ·by_cases c2:x≤10000000000000000
  ·rw[if_pos (decide_eq_true c1),if_pos (decide_eq_true c2)]
   obtain⟨hq,hn⟩:=Vl h hd hx
   rw[Th hd.rd hq (by omega),zY hx]
   simp only[Option.bind_some]
   congr 1
   have hne:FloatKind.f64.nearest x=Ieee.double.nearest (decide (x<0)) x.natAbs 0:=rfl
   by_cases x0:x=0
   ·subst x0
    have e1:FloatKind.f64.nearest 0=Ieee.double.word false 0:=by rw[hne];exact Ar _ _
    have r1:Ieee.double.read (FloatKind.f64.nearest 0) = .number false 0 (-1074):=by rw[e1];exact Qs false
    unfold fcmp
    simp only
    rw[ord64 r1 hd.rd,qK (x:=0) (.inr ⟨by decide,by rw[show sg false 0=0 from rfl,Int.zero_mul]⟩) hX]
    rfl
   ·have hs : decide (x < 0) = s := by
      have h1:=zY hx
      cases s
      ·simp only[sg,Bool.false_eq_true,if_false] at h1
       exact decide_eq_false (by omega)
      ·simp only[sg,if_true] at h1
       exact decide_eq_true (by omega)
    rw[hne,hs,hn]
    exact (yT hd.rd).1
  ·rw[if_pos (decide_eq_true c1),if_neg (by simp;omega)]
 ·rw[if_neg (by simp;omega)]
theorem aAi{s:Bool}{m:Nat}{e:Int}{v M:Nat}{E:Int}(h:MOk m e)(hd:Dbl s m e v M E)(hx:∀ x,¬ NV s m e x):lN v=some false:=by
 have hE:E<0:=by
  rcases hd.sh with⟨h0,h1,h2⟩|⟨t,hm,h1,h2⟩
  ·omega
  ·by_cases he:0≤e
   ·exact absurd (.inl ⟨he,rfl⟩) (hx _)
   ·omega
 have hlt:=hd.lt
 have hp4:(4:Int)≤2^(1-E).toNat:=by
  rw[show (1-E).toNat=2+(-E-1).toNat by omega,mX]
  have:(1:Int)≤2^(-E-1).toNat:=by have:=Int.pow_pos (m:=(-E-1).toNat) (show (0:Int)<2 by decide);omega
  omega
 have hbig:=Int.mul_le_mul_of_nonneg_left hp4 (show (0:Int)≤5000000000000000 by decide)
 have h0:(E-E).toNat=0:=by omega
 have hsg:-(M:Int)≤sg s M∧sg s M≤M:=by cases s<;>simp[sg]<;>omega
 have g1:fcmp .geq .f64 v 14069741636278059008=true:=by
  unfold fcmp
  simp only
  rw[ord64 hd.rd Sb,qL (b:=E) (Int.le_refl _) (by omega),cmpI.1,h0]
  refine decide_eq_true ?_
  have e1:sg true 5000000000000000 = -5000000000000000:=by decide
  rw[e1,Int.pow_zero,Int.mul_one,Int.neg_mul]
  omega
 have g2:fcmp .leq .f64 v 4846369599423283200=true:=by
  unfold fcmp
  simp only
  rw[ord64 hd.rd Sz,qL (b:=E) (Int.le_refl _) (by omega),cmpI.2.1,h0]
  refine decide_eq_true ?_
  have e1:sg false 5000000000000000=5000000000000000:=by decide
  rw[e1,Int.pow_zero,Int.mul_one]
  omega
 unfold lN
 rw[(yT hd.rd).2,Gg hd.rd]
 simp only[Bool.false_eq_true,if_false,Option.bind_some]
 have g0:fcmp .neq .f64 0 0=false:=by decide +kernel
 rw[g0,g1,g2]
 simp only[Bool.false_eq_true,if_false,if_true]
 have hq:Ieee.Toward.cut .zero s (M <<< E.toNat) (-E).toNat<2^53:=by
  rw[show E.toNat=0 by omega,shl,Nat.pow_zero,Nat.mul_one]
  unfold Ieee.Toward.cut
  simp only[Bool.toNat_false,Nat.add_zero]
  exact Nat.lt_of_le_of_lt (Nat.div_le_self _ _) hlt
 generalize hqq:Ieee.Toward.cut .zero s (M <<< E.toNat) (-E).toNat=q at hq
 rw[Th hd.rd hqq (by omega)]
 simp only[Option.bind_some]
 congr 1
 have hne:FloatKind.f64.nearest (sg s q)=Ieee.double.nearest (decide (sg s q<0)) (sg s q).natAbs 0:=rfl
 rw[xD] at hne
 obtain⟨n,j,r1,r2⟩:=Ff hq (decide (sg s q<0))
 rw[← hne] at r1
 unfold fcmp
 simp only
 rw[beq_eq_false_iff_ne,ord64 r1 hd.rd]
 intro he
 exact hx _ ((hd.nv _).1 (Up r2 he))
end Go.Rex
namespace Go.Rex
theorem w64{x:Int}(h:-9223372036854775808≤x∧x≤9223372036854775807):IntKind.i64.wrap x=x:=IntWalk.i64_in x (by omega)
theorem cT{σ ε:Type}{step:σ→Option (σ ⊕ ε)}(f:Nat→σ){n:Nat}{e:ε}(h:∀ k,k<n→step (f k)=some (.inl (f (k+1))))(hn:step (f n)=some (.inr e)):run step (f 0)=some e:=by
 suffices H:∀ j k,n-k=j→k≤n→run step (f k)=some e from H n 0 (by omega) (Nat.zero_le _)
 intro j
 induction j with
 | zero => intro k hj hk; obtain rfl : k = n := by omega
           exact oV hn
 | succ j ih=>intro k hj hk;rw[sE (h k (by omega))];exact ih (k+1) (by omega) (by omega)
theorem aW{α:Type}{xs:List α}{k:Nat}:gR xs (k:Int)=xs[k]?:=by
 unfold gR
 rw[if_pos (by omega),Int.toNat_natCast]
theorem tQ{α:Type}{xs:List α}{i:Int}{k:Nat}(h:i=(k:Int)):gR xs i=xs[k]?:=by subst h;exact aW
theorem yU{α:Type}{b:Nat}{xs:List α}{y:α}(h:xs.length<2^40)(hb:b≤128):nB b xs [y]=some (xs++[y]):=by
 unfold nB
 rw[if_pos]
 refine⟨by simp;omega,?_⟩
 have h1:(xs.length+[y].length)*b≤2^40*128:=Nat.mul_le_mul (by simp;omega) hb
 omega
def walk{α β ε:Type}(f:β→α→β ⊕ ε)(fin:β→ε):β→List α→ε
 | b,[]=>fin b
 | b,x::t=>match f b x with
  | .inl b'=>walk f fin b' t
  | .inr e=>e
theorem xW{α β σ ε:Type}{step:σ→Option (σ ⊕ ε)}(st:Nat→β→σ)(f:β→α→β ⊕ ε)(fin:β→ε)(Inv:Nat→β→Prop)(l:List α)
 (hs:∀(k:Nat) (x:α) (b:β),l[k]?=some x→Inv k b→step (st k b)=some (match f b x with|.inl b'=>.inl (st (k+1) b')|.inr e=>.inr e)∧∀ b',f b x = .inl b'→Inv (k+1) b')
 (he:∀ b,Inv l.length b→step (st l.length b)=some (.inr (fin b))) {b0:β} (h0:Inv 0 b0):run step (st 0 b0)=some (walk f fin b0 l):=by
 suffices H:∀(t:List α) (k:Nat) (b:β),l.drop k=t→k≤l.length→Inv k b→run step (st k b)=some (walk f fin b t) from H l 0 b0 rfl (Nat.zero_le _) h0
 intro t
 induction t with
 | nil =>
  intro k b hk hkl hI
  have:k=l.length:=by
   have:=congrArg List.length hk
   simp at this
   omega
  subst this
  exact oV (he b hI)
 | cons x t ih =>
  intro k b hk hkl hI
  have hx:l[k]?=some x:=by
   have:=congrArg (fun l=>l[0]?) hk
   simpa using this
  have hlt:=(List.getElem?_eq_some_iff.1 hx).1
  obtain⟨h1,h2⟩:=hs k x b hx hI
  have ht:l.drop (k+1)=t:=by
   have:=congrArg List.tail hk
   simpa using this
  cases hf:f b x with
  | inl b' =>
   rw[hf] at h1
   rw[sE h1,ih (k+1) b' ht (by omega) (h2 b' hf)]
   simp only[walk,hf]
  | inr e =>
   rw[hf] at h1
   rw[oV h1]
   simp only[walk,hf]
end Go.Rex
open Go Go.Rex
namespace Go.Rex
set_option maxRecDepth 100000
theorem wsucc{k:Nat}{n:Nat}(h:k≤n)(hn:n≤2^62):IntKind.i64.wrap ((k:Int)+1)=((k+1:Nat):Int):=by rw[w64 (by omega)];omega
def dY{ε:Type}(p:Nat→Option ε)(n:Nat):Option ε:=(List.range n).findSome? p
theorem firstOf_none{ε:Type}{p:Nat→Option ε}{n:Nat}:dY p n=none↔∀ k,k<n→p k=none:=by
 unfold dY
 rw[List.findSome?_eq_none_iff]
 constructor
 ·intro h k hk;exact h k (List.mem_range.2 hk)
 ·intro h k hk;exact h k (List.mem_range.1 hk)
theorem Ht{ε:Type}{p:Nat→Option ε}{n:Nat}:dY p (n+1)=match dY p n with|some e=>some e|none=>p n:=by
 unfold dY
 rw[List.range_succ,List.findSome?_append]
 cases h:List.findSome? p (List.range n) with
 | some e=>rfl
 | none=>simp
theorem Lu{ε δ:Type}{step:Int→Option (Int ⊕ (ε ⊕ δ))}{n:Nat}{p:Nat→Option ε}{r:δ}
 (h:∀ k:Nat,k<n→(∀ j,j<k→p j=none)→step (k:Int)=some (match p k with|none=>.inl ((k+1:Nat):Int)|some e=>.inr (.inl e))) (he:(∀ j,j<n→p j=none)→step (n:Int)=some (.inr (.inr r))):run step 0=some (match dY p n with|some e=>.inl e|none=>.inr r):=by
 suffices H:∀ m,m≤n→dY p m=none→run step 0=run step (m:Int) by
  cases hf:dY p n with
  | none =>
   simp only
   rw[H n (Nat.le_refl _) hf]
   exact oV (he (firstOf_none.1 hf))
  | some e =>
   simp only
   have:∃ m,m<n∧dY p m=none∧p m=some e:=by
    clear h he H
    induction n with
    | zero=>simp[dY] at hf
    | succ n ih =>
     rw[Ht] at hf
     cases hn:dY p n with
     | none=>rw[hn] at hf;exact⟨n,by omega,hn,hf⟩
     | some e'=>rw[hn] at hf;cases hf;obtain⟨m,h1,h2⟩:=ih hn;exact⟨m,by omega,h2⟩
   obtain⟨m,hm,h1,h2⟩:=this
   rw[H m (by omega) h1]
   have:=h m hm (firstOf_none.1 h1)
   rw[h2] at this
   exact oV this
 intro m
 induction m with
 | zero=>intro _ _;rfl
 | succ m ih =>
  intro hm hf
  have hf':=firstOf_none.1 hf
  rw[ih (by omega) (firstOf_none.2 fun k hk=>hf' k (by omega))]
  have:=h m (by omega) (fun j hj=>hf' j (by omega))
  rw[hf' m (by omega)] at this
  exact sE this
def iter{β:Type}(g:Nat→β→β):Nat→β→β
 | 0,b=>b
 | k+1,b=>g k (iter g k b)
theorem lU{β σ ε:Type}{step:σ→Option (σ ⊕ ε)}(st:Nat→β→σ)(g:Nat→β→β)(fin:β→ε)(n:Nat)(Inv:Nat→β→Prop){b0:β}(h0:Inv 0 b0)
 (hs:∀ k b,k<n→Inv k b→step (st k b)=some (.inl (st (k+1) (g k b)))∧Inv (k+1) (g k b)) (he:∀ b,Inv n b→step (st n b)=some (.inr (fin b))) :
 run step (st 0 b0)=some (fin (iter g n b0))∧∀ k,k≤n→Inv k (iter g k b0):=by
 have hI:∀ k,k≤n→Inv k (iter g k b0):=by
  intro k
  induction k with
  | zero=>intro _;exact h0
  | succ k ih=>intro hk;exact (hs k _ (by omega) (ih (by omega))).2
 refine⟨?_,hI⟩
 exact cT (fun k=>st k (iter g k b0)) (fun k hk=>(hs k _ hk (hI k (by omega))).1) (he _ (hI n (Nat.le_refl _)))
end Go.Rex
namespace Go.Rex
open Go Go.Rex
set_option maxRecDepth 100000
theorem aC6{s:Bool}{m:Nat}{e x:Int}(h:MOk m e)(hx:NV s m e x):Ieee.Toward.cut .zero s (m <<< e.toNat) (-e).toNat=x.natAbs:=by
 rcases h with⟨h0,h1⟩|⟨hm,-,-,-⟩
 ·subst h0 h1
  have e0:sg s 0=0:=by cases s<;>rfl
  have hx0:x=0:=by
   rcases hx with⟨_,hx⟩|⟨_,hx⟩
   ·rw[e0,Int.zero_mul] at hx;exact hx.symm
   ·rw[e0] at hx
    rcases Int.mul_eq_zero.1 hx.symm with h|h
    ·exact h
    ·exact absurd h (Int.ne_of_gt (Int.pow_pos (by decide)))
  rw[hx0,show (0:Nat) <<< (-149:Int).toNat=0 by rw[shl];simp,xC]
  rfl
 ·rcases hx with⟨he,hx⟩|⟨he,hx⟩
  ·rw[shl,show (-e).toNat=0 by omega,mY hm s (by omega)]
   have h3:=congrArg Int.natAbs hx
   rw[Int.natAbs_mul,xD,Int.natAbs_pow] at h3
   rw[← h3]
   rfl
  ·have hX : m = x.natAbs * 2 ^ (-e).toNat := by
     have:=congrArg Int.natAbs hx
     rw[xD,Int.natAbs_mul,Int.natAbs_pow] at this
     exact this
   have hX0:x.natAbs≠0:=by
    intro h
    rw[h,Nat.zero_mul] at hX
    exact hm hX
   rw[show e.toNat=0 by omega,shl,Nat.pow_zero,Nat.mul_one,hX,mY hX0 s (Nat.le_refl _)]
   simp
def SV(b:Nat)(x:Int):Prop:=∃ s m e,Ieee.single.read b = .number s m e∧MOk m e∧NV s m e x
structure RS(b:Nat)(o:Option Int):Prop where
 val:∃ v,f2f .f32 b .f64=some v∧lN v=some o.isSome∧∀ x,o=some x→fcmp .gtr .f64 v 4674736138332667904=decide (32767<x)∧fcmp .lss .f64 v 13898108175187443712=decide (x < -32767)
theorem Pd{b:Nat}{s:Bool}{m:Nat}{e:Int}(h:Ieee.single.read b = .number s m e):MOk m e:=by
 rcases Ho b with⟨s',t,h1⟩|⟨s',h1⟩|⟨s',m',e',h1,h2⟩
 ·rw[h] at h1;cases h1
 ·rw[h] at h1;cases h1
 ·rw[h] at h1
  injection h1 with a1 a2 a3
  subst a2 a3
  exact h2
theorem aAQ{b:Nat}{s:Bool}{n u:Nat}(h:Ieee.single.read b = .number s (n*2^u) (-(u:Int))):SV b (sg s n):=by
 refine⟨s,_,_,h,Pd h,?_⟩
 by_cases hu:u=0
 ·subst hu
  left
  refine⟨by omega,?_⟩
  simp
 ·right
  refine⟨by omega,?_⟩
  rw[Qv,Int.natCast_pow,show (-(-(u:Int))).toNat=u by omega]
  rfl
theorem aCM{s:Bool}{n:Nat}(h:ffit .f32 n):SV (fz .f32 s n) (sg s n):=aAQ (aA0 (k:=.f32) h)
theorem aAV{x:Int}(h:x.natAbs<2^24):SV (FloatKind.f32.nearest x) x:=by
 have h1:=aCM (s:=decide (x<0)) (n:=x.natAbs) h
 have e:sg (decide (x<0)) x.natAbs=x:=by
  unfold sg
  by_cases q:x<0
  ·simp only[q,decide_true,if_true];omega
  ·simp only[q,decide_false,Bool.false_eq_true,if_false];omega
 rw[e] at h1
 exact h1
theorem aAz{b:Nat}{x y:Int}(h:SV b x)(g:SV b y):x=y:=by
 obtain⟨s,m,e,h1,h2,h3⟩:=h
 obtain⟨s',m',e',g1,g2,g3⟩:=g
 rw[h1] at g1
 injection g1 with a1 a2 a3
 subst a1 a2 a3
 rcases h3 with⟨p,q⟩|⟨p,q⟩<;>rcases g3 with⟨p',q'⟩|⟨p',q'⟩
 ·omega
 ·omega
 ·omega
 ·have hp:(0:Int)<2^(-e).toNat:=Int.pow_pos (by decide)
  exact Int.eq_of_mul_eq_mul_right (Int.ne_of_gt hp) (q.symm.trans q')
theorem uJ(b:Nat):jC b=dJ b:=by
 unfold jC dJ
 rfl
theorem aAC{b:Nat}{x:Int}(h:SV b x)(hb:-4611686018427387904≤x∧x≤4611686018427387904):f2i .f32 b .i64=some x:=by
 obtain⟨s,m,e,hr,h,hx⟩:=h
 unfold f2i
 have e1:FloatKind.f32.decode b = .number s m e:=hr
 rw[e1]
 have e2:(Ieee.Datum.number s m e).toInt .zero=some x:=by
  unfold Ieee.Datum.toInt Ieee.Datum.integral
  simp only[aC6 h hx,vT,Int.pow_zero,Int.mul_one,zY hx]
 rw[e2]
 simp only
 have hm:IntKind.i64.min = -9223372036854775808∧IntKind.i64.max=9223372036854775807:=by decide
 rw[hm.1,hm.2,if_pos (by omega)]
theorem read_b:Ieee.single.read 1266679808 = .number false 8388608 1∧Ieee.single.read 3414163456 = .number true 8388608 1∧Op.negFloat .f32 1266679808=3414163456∧Ieee.double.read 4715268809856909312 = .number false 4503599627370496 (-28)∧Ieee.double.read 13938640846711685120 = .number true 4503599627370496 (-28):=by decide +kernel
theorem nv_b:NV false 8388608 1 16777216∧NV true 8388608 1 (-16777216)∧NV false 4503599627370496 (-28) 16777216∧NV true 4503599627370496 (-28) (-16777216):=
 ⟨.inl ⟨by decide,by decide⟩,.inl ⟨by decide,by decide⟩,.inr ⟨by decide,by decide⟩,.inr ⟨by decide,by decide⟩⟩
theorem Mw{b:Nat}{x:Int}(h:SV b x):aX b 1266679808=some (decide (-16777216≤x∧x≤16777216)):=by
 obtain⟨s,m,e,h1,h2,h3⟩:=h
 unfold aX
 rw[read_b.2.2.1]
 have g1:fcmp .leq .f32 3414163456 b=decide (-16777216≤x):=by
  unfold fcmp
  simp only
  rw[ord32 read_b.2.1 h1,qK nv_b.2.1 h3]
  exact cmpI.2.1
 have g2:fcmp .leq .f32 b 1266679808=decide (x≤16777216):=by
  unfold fcmp
  simp only
  rw[ord32 h1 read_b.1,qK h3 nv_b.1]
  exact cmpI.2.1
 rw[g1,g2]
 by_cases c:-16777216≤x
 ·rw[if_pos (decide_eq_true c)]
  congr 1
  rw[decide_eq_decide]
  omega
 ·rw[if_neg (by simpa using c)]
  congr 1
  symm
  rw[decide_eq_false_iff_not]
  omega
theorem Gz(b c:Nat):∃ r,aX b c=some r:=by
 unfold aX
 split<;>exact⟨_,rfl⟩
structure RW(b:Nat)(o:Option Int):Prop where
 ws:jC b=some o.isSome
 val:∃ v,f2f .f32 b .f64=some v∧lN v=some o.isSome∧∀ x,o=some x→fcmp .gtr .f64 v 4715268809856909312=decide (16777216<x)∧fcmp .lss .f64 v 13938640846711685120=decide (x < -16777216)
theorem Rk(b:Nat):RW b none∨∃ x,SV b x∧RW b (some x):=by
 rcases Ho b with⟨s,t,h⟩|⟨s,h⟩|⟨s,m,e,h,hm⟩
 ·obtain⟨h1,h2⟩:=Zv h
  exact .inl ⟨(uJ b).trans h1,⟨_,h2,by decide +kernel,fun x hx=>by cases hx⟩⟩
 ·obtain⟨h1,h2⟩:=Xo h
  exact .inl ⟨(uJ b).trans h1,⟨_,h2,by cases s<;>decide +kernel,fun x hx=>by cases hx⟩⟩
 ·obtain⟨M,E,hd⟩:=wZ (s:=s) hm
  by_cases hx:∃ x,NV s m e x
  ·obtain⟨x,hx⟩:=hx
   refine .inr ⟨x,⟨s,m,e,h,hm,hx⟩,(uJ b).trans (Ej h hm hx),⟨_,tL h hm,Tv hm hd hx,fun y hy=>?_⟩⟩
   cases hy
   have hX:=(hd.nv x).2 hx
   constructor
   ·unfold fcmp
    simp only
    rw[ord64 hd.rd read_b.2.2.2.1,qK hX nv_b.2.2.1]
    exact cmpI.2.2.2.1
   ·unfold fcmp
    simp only
    rw[ord64 hd.rd read_b.2.2.2.2,qK hX nv_b.2.2.2]
    exact cmpI.2.2.1
  ·have hx:∀ x,¬ NV s m e x:=fun x h=>hx ⟨x,h⟩
   exact .inl ⟨(uJ b).trans (Uh h hm hx),⟨_,tL h hm,aAi hm hd hx,fun x hx=>by cases hx⟩⟩
open Classical in
noncomputable def wv(b:Nat):Option Int:=if h:∃ x,SV b x then some (Classical.choose h) else none
theorem Mf{b:Nat}{x:Int}(h:SV b x):wv b=some x:=by
 have hx:∃ x,SV b x:=⟨x,h⟩
 unfold wv
 rw[dif_pos hx,aAz (Classical.choose_spec hx) h]
theorem Mc{b:Nat}{x:Int}(h:wv b=some x):SV b x:=by
 unfold wv at h
 split at h
 ·rename_i hx
  obtain rfl:=Option.some.inj h
  exact Classical.choose_spec hx
 ·cases h
theorem aBd{b:Nat}:RW b (wv b):=by
 rcases Rk b with h|⟨x,h1,h2⟩
 ·have : wv b = none := by
    cases hw:wv b with
    | none=>rfl
    | some x =>
     have sv:=Mc hw
     obtain⟨s,m,e,g1,g2,g3⟩:=sv
     have:=(uJ b).trans (Ej g1 g2 g3)
     rw[h.ws] at this
     exact absurd (Option.some.inj this) (by decide)
  rw[this];exact h
 ·rw[Mf h1];exact h2
def sm24(x:Int):Bool:=decide (-16777216≤x∧x≤16777216)
noncomputable def cE(p:Nat×Nat):Int:=match wv p.1,wv p.2 with
 | some x,some y=>if sm24 x=true∧sm24 y=true then 0 else 2
 | _,_=>27
theorem fe9(a:Bool)(x:Int)(b:Bool)(y:Int)(hx:x≠0):aQ a x b y=some (if a=true then x else if b=true then y else 0):=by
 unfold aQ aA
 cases a
 ·cases b
  ·rfl
  ·by_cases hy:y=0<;>simp[hy]
 ·simp[hx]
theorem Qn(a b:Nat):lZ a b=some (cE (a,b)):=by
 have ra:=aBd (b:=a)
 have rb:=aBd (b:=b)
 obtain⟨sa,hsa⟩:=Gz a 1266679808
 obtain⟨sb,hsb⟩:=Gz b 1266679808
 unfold lZ cE aD
 rw[ra.ws,rb.ws,hsa,hsb]
 simp only[Option.bind_some]
 cases ha:wv a with
 | none =>
  simp only[Option.isSome_none,Bool.false_eq_true,if_false]
  cases sa<;>simp only[Bool.false_eq_true,if_false,if_true]<;>rw[fe9 _ _ _ _ (by decide)]<;>rfl
 | some x =>
  have h1:=Mw (Mc ha)
  rw[hsa] at h1
  have h1:=Option.some.inj h1
  cases hb:wv b with
  | none =>
   simp only[Option.isSome_none,Option.isSome_some,Bool.false_eq_true,if_false,if_true,Bool.not_false]
   cases sa<;>simp only[Bool.false_eq_true,if_false,if_true]<;>rw[fe9 _ _ _ _ (by decide)]<;>rfl
  | some y =>
   have h2:=Mw (Mc hb)
   rw[hsb] at h2
   have h2:=Option.some.inj h2
   simp only[Option.isSome_some,if_true,Bool.not_true]
   rw[h1,h2]
   unfold sm24
   by_cases c1:-16777216≤x∧x≤16777216<;>by_cases c2:-16777216≤y∧y≤16777216
   ·rw[decide_eq_true c1,decide_eq_true c2,if_pos rfl,fe9 _ _ _ _ (by decide)];rfl
   ·rw[decide_eq_true c1,decide_eq_false c2,if_pos rfl,fe9 _ _ _ _ (by decide)];rfl
   ·rw[decide_eq_false c1,decide_eq_true c2,if_neg (by decide),fe9 _ _ _ _ (by decide)];rfl
   ·rw[decide_eq_false c1,decide_eq_false c2,if_neg (by decide),fe9 _ _ _ _ (by decide)];rfl
noncomputable def yL(l:List (Nat×Nat))(k:Nat):Option Int:=match l[k]? with
 | some p=>if cE p=0 then none else some (cE p)
 | none=>none
noncomputable def lE(l:List (Nat×Nat)):Int:=if l.length=0 then 10 else if 1024<l.length then 8 else (dY (yL l) l.length).getD 0
theorem Vx(l:List (Nat×Nat))(hl:l.length≤1024):run (bM (l.length:Int) l) 0=some (match dY (yL l) l.length with|some e=>.inl e|none=>.inr ()):=by
 have H:∀ k:Nat,k<l.length→bM (l.length:Int) l (k:Int)=some (match yL l k with|none=>.inl ((k+1:Nat):Int)|some e=>.inr (.inl e)):=by
  intro k hk
  have hg:l[k]?=some l[k]:=List.getElem?_eq_getElem hk
  unfold bM fR yL
  rw[if_pos (by rw[decide_eq_true_eq];omega),aW,hg]
  simp only[Option.bind_some]
  rw[Qn]
  simp only[Option.bind_some]
  by_cases h:cE (l[k].1,l[k].2)=0
  ·have h':cE l[k]=0:=h
   rw[if_neg (by simpa using h),if_pos h',wsucc (n:=1024) (by omega) (by decide)]
  ·have h':cE l[k]≠0:=h
   rw[if_pos (by simpa using h),if_neg h']
 have h:=Lu (step:=bM (l.length:Int) l) (p:=yL l) (n:=l.length) (r:=()) (fun k hk hb=>by
  have h1:=H k hk
  cases hs:yL l k<;>rw[hs] at h1<;>exact h1) (fun _=>by
  unfold bM
  rw[if_neg (by rw[decide_eq_true_eq];omega)])
 rw[h]
 cases dY (yL l) l.length<;>rfl
theorem Ea{l:List (Nat×Nat)}{n:Nat}{e:Int}(h:dY (yL l) n=some e):e≠0:=by
 unfold dY at h
 obtain⟨k,_,hk⟩:=List.exists_of_findSome?_eq_some h
 unfold yL at hk
 split at hk
 ·split at hk
  ·cases hk
  ·rename_i hz
   have:=Option.some.inj hk
   rw[← this];exact hz
 ·cases hk
theorem Aj(l:List (Nat×Nat)):cM l=some (lE l):=by
 unfold cM aD mJ iH aA lE
 simp only[Option.bind_some]
 by_cases h0:l.length=0
 ·rw[if_pos h0]
  have e:decide ((l.length:Int)=0)=true:=by rw[decide_eq_true_eq];omega
  rw[e];rfl
 ·rw[if_neg h0]
  have e:decide ((l.length:Int)=0)=false:=by rw[decide_eq_false_iff_not];omega
  rw[e]
  by_cases h1:1024<l.length
  ·rw[if_pos h1]
   have e:decide ((l.length:Int)>1024)=true:=by rw[decide_eq_true_eq];omega
   rw[e];rfl
  ·rw[if_neg h1]
   have e:decide ((l.length:Int)>1024)=false:=by rw[decide_eq_false_iff_not];omega
   rw[e]
   simp only[Bool.false_eq_true,if_false,Option.bind_some,ne_eq,not_true_eq_false,decide_false]
   unfold jR
   rw[Vx l (by omega)]
   cases hf:dY (yL l) l.length with
   | none=>rfl
   | some e =>
    have:=Ea hf
    simp[this]
noncomputable def num(p:Nat×Nat):Int×Int:=((wv p.1).getD 0,(wv p.2).getD 0)
noncomputable def nums(l:List (Nat×Nat)):List (Int×Int):=l.map num
def small(z:Int×Int):Prop:=(-16777216≤z.1∧z.1≤16777216)∧(-16777216≤z.2∧z.2≤16777216)
instance (z:Int×Int):Decidable (small z):=by unfold small;exact inferInstance
def PV(p:Nat×Nat)(z:Int×Int):Prop:=SV p.1 z.1∧SV p.2 z.2
structure GoodL(l:List (Nat×Nat)):Prop where
 len:0<l.length∧l.length≤1024
 val:∀ p∈l,PV p (num p)∧small (num p)
theorem aAY{p:Nat×Nat}(h:cE p=0):PV p (num p)∧small (num p):=by
 unfold cE at h
 unfold num PV small
 cases ha:wv p.1 with
 | none=>rw[ha] at h;exact absurd h (by simp)
 | some x =>
  cases hb:wv p.2 with
  | none=>rw[ha,hb] at h;exact absurd h (by simp)
  | some y =>
   rw[ha,hb] at h
   simp only at h
   split at h
   ·rename_i hc
    unfold sm24 at hc
    simp only[decide_eq_true_eq] at hc
    exact⟨⟨Mc ha,Mc hb⟩,hc⟩
   ·exact absurd h (by decide)
theorem Jd{l:List (Nat×Nat)}(h:lE l=0):GoodL l:=by
 unfold lE at h
 by_cases h0:l.length=0
 ·rw[if_pos h0] at h;exact absurd h (by decide)
 rw[if_neg h0] at h
 by_cases h1:1024<l.length
 ·rw[if_pos h1] at h;exact absurd h (by decide)
 rw[if_neg h1] at h
 refine⟨⟨by omega,by omega⟩,fun p hp=>?_⟩
 cases hf:dY (yL l) l.length with
 | some e=>rw[hf] at h;exact absurd h (Ea hf)
 | none =>
  obtain⟨k,hk⟩:=List.mem_iff_getElem?.1 hp
  have hkl:=(List.getElem?_eq_some_iff.1 hk).1
  have:=firstOf_none.1 hf k hkl
  unfold yL at this
  rw[hk] at this
  simp only at this
  split at this
  ·rename_i hz;exact aAY hz
  ·cases this
theorem zC(l:List (Nat×Nat)):(nums l).length=l.length:=by unfold nums;simp
theorem aA3{l:List (Nat×Nat)}{k:Nat}(hk:k<l.length):(nums l)[k]?=some (num l[k]):=by
 unfold nums
 rw[List.getElem?_map,List.getElem?_eq_getElem hk]
 rfl
theorem Hl{b:Nat}{x:Int}(h:SV b x)(hb:-16777216≤x∧x≤16777216):f2i .f32 b .i64=some x:=aAC h (by omega)
theorem Ab{l:List (Nat×Nat)}(G:GoodL l):cR l=some (nums l):=by
 have hle:=G.len
 have key:=lU (step:=fA l) (st:=fun k (b:List (Int×Int))=>(b,(k:Int))) (g:=fun k b=>b++[num (l.getD k (0,0))]) (fin:=fun b=>b) l.length
  (fun k b=>b=(nums l).take k) (b0:=[]) (by simp) (fun k b hk hb=>by
   subst hb
   have hg:l[k]?=some l[k]:=List.getElem?_eq_getElem hk
   have hd:l.getD k (0,0)=l[k]:=by rw[List.getD_eq_getElem?_getD,hg];rfl
   have hv:=G.val l[k] (List.getElem_mem hk)
   rw[hd]
   refine⟨?_,by rw[List.take_add_one,aA3 hk];rfl⟩
   unfold fA nH
   simp only
   rw[if_pos (by rw[decide_eq_true_eq];omega),aW,hg]
   simp only[Option.bind_some]
   rw[Hl hv.1.1 hv.2.1,Hl hv.1.2 hv.2.2]
   simp only[Option.bind_some,nB]
   rw[if_pos (by simp;omega),wsucc (n:=1024) (by omega) (by decide)]
   rfl) (fun b hb=>by
   unfold fA
   simp only
   rw[if_neg (by rw[decide_eq_true_eq];omega)])
 have hI:=key.2 l.length (Nat.le_refl _)
 have hr:=key.1
 rw[hI,List.take_of_length_le (by rw[zC];omega)] at hr
 unfold cR
 simp only[Int.natCast_zero] at hr
 rw[hr]
 rfl
noncomputable def dP(z:Int×Int):Nat×Nat:=(FloatKind.f32.nearest z.1,FloatKind.f32.nearest z.2)
theorem Gk{x:Int}(h:-16777216≤x∧x≤16777216):SV (FloatKind.f32.nearest x) x:=by
 by_cases h1:x=16777216
 ·subst h1
  have e:FloatKind.f32.nearest 16777216=1266679808:=by decide +kernel
  rw[e]
  exact⟨_,_,_,read_b.1,Pd read_b.1,nv_b.1⟩
 by_cases h2:x = -16777216
 ·subst h2
  have e:FloatKind.f32.nearest (-16777216)=3414163456:=by decide +kernel
  rw[e]
  exact⟨_,_,_,read_b.2.1,Pd read_b.2.1,nv_b.2.1⟩
 have h24:(16777216:Nat)=2^24:=by decide
 exact aAV (by rw[← h24];omega)
theorem tD{z:Int×Int}(h:small z):PV (dP z) z:=⟨Gk h.1,Gk h.2⟩
theorem aBy{p:Nat×Nat}{z:Int×Int}(h:PV p z):num p=z:=by
 unfold num
 rw[Mf h.1,Mf h.2]
 rfl
theorem Zs{z:Int×Int}(h:small z):num (dP z)=z:=aBy (tD h)
theorem Da(x:Int):fT x 16777216=some (decide (-16777216≤x∧x≤16777216)):=by
 unfold fT
 rw[w64 (x:=0-16777216) (by omega)]
 by_cases c:-16777216≤x
 ·rw[if_pos (by rw[decide_eq_true_eq];omega)]
  congr 1
  rw[decide_eq_decide]
  omega
 ·rw[if_neg (by rw[decide_eq_true_eq];omega)]
  congr 1
  symm
  rw[decide_eq_false_iff_not]
  omega
theorem Vn(z:Int×Int):(gX z.1 z.2 16777216).bind (fun (v6,v7)=>(aA v6 v7).bind fun v8=>some v8)=some (if small z then 0 else 8):=by
 unfold gX aD aA small
 rw[Da,Da]
 simp only[Option.bind_some]
 by_cases c1:-16777216≤z.1∧z.1≤16777216<;>by_cases c2:-16777216≤z.2∧z.2≤16777216<;>simp[c1,c2]
def wV(w:List (Int×Int))(k:Nat):Option Int:=match w[k]? with
 | some z=>if small z then none else some 8
 | none=>none
noncomputable def rec(w:List (Int×Int)):List (Nat×Nat)×Int:=if ∀ z∈w,small z then (w.map dP,0) else ([],8)
theorem big_none{w:List (Int×Int)}:dY (wV w) w.length=none↔∀ z∈w,small z:=by
 rw[firstOf_none]
 constructor
 ·intro h z hz
  obtain⟨k,hk⟩:=List.mem_iff_getElem?.1 hz
  have:=h k (List.getElem?_eq_some_iff.1 hk).1
  unfold wV at this
  rw[hk] at this
  simp only at this
  split at this
  ·assumption
  ·cases this
 ·intro h k hk
  unfold wV
  rw[List.getElem?_eq_getElem hk]
  simp only
  rw[if_pos (h _ (List.getElem_mem hk))]
theorem Yo{w:List (Int×Int)}{n:Nat}{e:Int}(h:dY (wV w) n=some e):e=8:=by
 unfold dY at h
 obtain⟨k,_,hk⟩:=List.exists_of_findSome?_eq_some h
 unfold wV at hk
 split at hk
 ·split at hk
  ·cases hk
  ·exact (Option.some.inj hk).symm
 ·cases hk
theorem Xg(w:List (Int×Int))(hw:w.length≤4096):run (eA w) (([]:List (Nat×Nat)),0)=some (w.map dP):=by
 have key:=lU (step:=eA w) (st:=fun k (b:List (Nat×Nat))=>(b,(k:Int))) (g:=fun k b=>b++[dP (w.getD k (0,0))]) (fin:=fun b=>b) w.length
  (fun k b=>b=(w.map dP).take k) (b0:=[]) (by simp) (fun k b hk hb=>by
   subst hb
   have hg:w[k]?=some w[k]:=List.getElem?_eq_getElem hk
   have hd:w.getD k (0,0)=w[k]:=by rw[List.getD_eq_getElem?_getD,hg];rfl
   rw[hd]
   refine⟨?_,by rw[List.take_add_one,List.getElem?_map,hg];rfl⟩
   unfold eA
   simp only
   rw[if_pos (by rw[decide_eq_true_eq];omega),aW,hg]
   simp only[Option.bind_some,nB]
   rw[if_pos (by simp;omega),wsucc (n:=4096) (by omega) (by decide)]
   rfl) (fun b hb=>by
   unfold eA
   simp only
   rw[if_neg (by rw[decide_eq_true_eq];omega)])
 have hI:=key.2 w.length (Nat.le_refl _)
 have hr:=key.1
 rw[hI,List.take_of_length_le (by simp)] at hr
 simp only[Int.natCast_zero] at hr
 exact hr
theorem yF(w:List (Int×Int))(hw:w.length≤4096):bV w=some (rec w):=by
 have H:∀ k:Nat,k<w.length→cA (w.length:Int) w (k:Int)=some (match wV w k with|none=>.inl ((k+1:Nat):Int)|some e=>.inr (.inl e)):=by
  intro k hk
  have hg:w[k]?=some w[k]:=List.getElem?_eq_getElem hk
  unfold cA gC wV
  rw[if_pos (by rw[decide_eq_true_eq];omega),aW,hg]
  simp only[Option.bind_some]
  have:=Vn w[k]
  rw[this]
  simp only[Option.bind_some]
  by_cases h:small w[k]
  ·rw[if_pos h,if_pos h,if_neg (by decide),wsucc (n:=4096) (by omega) (by decide)]
  ·rw[if_neg h,if_neg h,if_pos (by decide)]
 have h:=Lu (step:=cA (w.length:Int) w) (p:=wV w) (n:=w.length) (r:=()) (fun k hk hb=>by
  have h1:=H k hk
  cases hs:wV w k<;>rw[hs] at h1<;>exact h1) (fun _=>by
  unfold cA
  rw[if_neg (by rw[decide_eq_true_eq];omega)])
 unfold bV mK jY rec
 simp only[Option.bind_some]
 rw[h]
 cases hf:dY (wV w) w.length with
 | none =>
  rw[if_pos (big_none.1 hf)]
  simp only[Option.bind_some]
  rw[if_neg (by decide),Xg w hw]
  rfl
 | some e =>
  obtain rfl:=Yo hf
  rw[if_neg (fun h=>by rw[big_none.2 h] at hf;cases hf)]
  rfl
theorem Xq{b:Nat}{x:Int}(h:SV b x):∃ v,f2f .f32 b .f64=some v∧fbits .f64 v=some ((v:Nat):Int):=by
 obtain⟨s,m,e,h1,h2,h3⟩:=h
 obtain⟨M,E,hd⟩:=wZ (s:=s) h2
 refine⟨_,tL h1 h2,?_⟩
 have hn:=oG (k:=.f64) hd.rd
 unfold fbits
 rw[if_neg (by rw[hn];decide)]
theorem Ve(l:List (Nat×Nat))(hl:l.length≤4096)(h:∀ p∈l,∃ z,PV p z):bY l l=some true:=by
 unfold bY
 rw[if_neg (by simp)]
 have:run (bP l l) 0=some (.inr ()):=by
  refine cT (fun k=>(k:Int)) (n:=l.length) (fun k hk=>?_) ?_
  ·obtain⟨z,z1,z2⟩:=h l[k] (List.getElem_mem hk)
   obtain⟨a,a1,a2⟩:=Xq z1
   obtain⟨b,b1,b2⟩:=Xq z2
   unfold bP lY
   rw[if_pos (by rw[decide_eq_true_eq];omega),aW,List.getElem?_eq_getElem hk]
   simp only[Option.bind_some,a1,b1,a2,b2,decide_true,if_true]
   rw[wsucc (n:=4096) (by omega) (by decide)]
  ·unfold bP
   rw[if_neg (by rw[decide_eq_true_eq];omega)]
 rw[this]
 rfl
def zmul(a b:Int×Int):Int×Int:=(a.1*b.1-a.2*b.2,a.1*b.2+a.2*b.1)
def zadd(a b:Int×Int):Int×Int:=(a.1+b.1,a.2+b.2)
def zsub(a b:Int×Int):Int×Int:=(a.1-b.1,a.2-b.2)
def zsum(f:Nat→Int×Int):Nat→Int×Int
 | 0=>(0,0)
 | n+1=>zadd (zsum f n) (f n)
def zle(B:Int)(z:Int×Int):Prop:=(-B≤z.1∧z.1≤B)∧(-B≤z.2∧z.2≤B)
theorem Mh{f:Nat→Int×Int}{B:Int}:∀ {n:Nat},(∀ k,k<n→zle B (f k))→zle (n*B) (zsum f n)
 | 0,_=>by simp[zsum,zle]
 | n+1,h=>by
  have ih:=Mh (f:=f) (n:=n) (fun k hk=>h k (by omega))
  have h1:=h n (by omega)
  unfold zle at *
  simp only[zsum,zadd]
  have e:((n+1:Nat):Int)*B=n*B+B:=by rw[Int.natCast_add,Int.add_mul];simp
  rw[e]
  omega
def at0(w:List (Int×Int))(k:Nat):Int×Int:=w.getD k (0,0)
theorem iB{w:List (Int×Int)}{k:Nat}(hk:k<w.length):w[k]?=some (at0 w k):=by
 unfold at0
 rw[List.getD_eq_getElem?_getD,List.getElem?_eq_getElem hk]
 rfl
theorem oB{w:List (Int×Int)}(h:∀ z∈w,small z)(k:Nat):small (at0 w k):=by
 unfold at0
 by_cases hk:k<w.length
 ·rw[List.getD_eq_getElem?_getD,List.getElem?_eq_getElem hk]
  exact h _ (List.getElem_mem hk)
 ·rw[List.getD_eq_getElem?_getD,List.getElem?_eq_none (by omega)]
  unfold small
  simp
def cvT(a b:List (Int×Int))(k i:Nat):Int×Int:=if i≤k∧k-i<b.length then zmul (at0 a i) (at0 b (k-i)) else (0,0)
def cvS(a b:List (Int×Int))(i k:Nat):Int×Int:=zsum (cvT a b k) i
def cvI(a b:List (Int×Int))(i j k:Nat):Int×Int:=if i≤k∧k-i<j then zadd (cvS a b i k) (zmul (at0 a i) (at0 b (k-i))) else cvS a b i k
def cvL(a b:List (Int×Int))(i j:Nat):List (Int×Int):=(List.range (a.length+b.length-1)).map (cvI a b i j)
section
variable {a b:List (Int×Int)}
def cv(a b:List (Int×Int)):List (Int×Int):=cvL a b a.length 0
end
theorem Df{l:List (Nat×Nat)}(G:GoodL l):∀ z∈nums l,small z:=by
 intro z hz
 unfold nums at hz
 obtain⟨p,hp,rfl⟩:=List.mem_map.1 hz
 exact (G.val p hp).2
end Go.Rex
namespace Go.Rex
open Go Go.Rex
set_option maxRecDepth 100000
def Yd(u:Int×Int):Prop:=u=(1,0)∨u=(0,1)∨u=(-1,0)∨u=(0,-1)
section
variable {r c:List (Int×Int)}
end
end Go.Rex
namespace Go.Rex
open Go Go.Rex
set_option maxRecDepth 100000
instance (u:Int×Int):Decidable (Yd u):=by unfold Yd;exact inferInstance
end Go.Rex
namespace Go.Rex
def iW{α ε:Type}(P:α→Bool)(ex:Nat→α→ε)(en:ε):Nat→List α→ε
 | _,[]=>en
 | k,x::t=>if P x=true then ex k x else iW P ex en (k+1) t
theorem vC{α σ ε:Type}{step:σ→Option (σ ⊕ ε)}(st:Nat→σ)(P:α→Bool)(ex:Nat→α→ε)(en:ε) :
 ∀(xs ys:List α),(∀(k:Nat) x,(ys++xs)[k]?=some x→step (st k)=some (if P x=true then .inr (ex k x) else .inl (st (k+1))))→step (st (ys++xs).length)=some (.inr en)→run step (st ys.length)=some (iW P ex en ys.length xs)
 | [],ys,_,he=>by rw[List.append_nil] at he;exact oV he
 | x::t,ys,hs,he=>by
  have h1:=hs ys.length x (by simp)
  by_cases hp:P x=true
  ·rw[if_pos hp] at h1
   rw[oV h1,iW,if_pos hp]
  ·rw[if_neg hp] at h1
   rw[sE h1,iW,if_neg hp]
   have:=vC st P ex en t (ys++[x]) (fun k y hk=>hs k y (by simpa using hk)) (by simpa using he)
   simpa using this
theorem Hn{α σ ε:Type}{step:σ→Option (σ ⊕ ε)}(st:Nat→σ)(P:α→Bool)(ex:Nat→α→ε)(en:ε)(xs:List α)(hs:∀(k:Nat) x,xs[k]?=some x→step (st k)=some (if P x=true then .inr (ex k x) else .inl (st (k+1))))(he:step (st xs.length)=some (.inr en)){s:σ}(h0:s=st 0):run step s=some (iW P ex en 0 xs):=by
 subst h0
 exact vC st P ex en xs [] hs he
def fbit(L s:Nat)(ts:List Nat):Nat:=ts.foldl (fun a t=>(a+s/2^(L-t)%2)%2) 0
def nx(L:Nat)(ts:List Nat)(s:Nat):Nat:=s/2+fbit L s ts*2^(L-1)
structure Reg(L:Nat)(ts:List Nat):Prop where
 two:2≤L
 most:L≤8
 le:∀ t,t∈ts→1≤t∧t≤L
 last:∃ t',ts=t'++[L]∧∀ t,t∈t'→t<L
 len:ts.length≤12
theorem Fa(L s:Nat):∀(ts:List Nat) (a:Nat),a<2→ts.foldl (fun a t=>(a+s/2^(L-t)%2)%2) a<2
 | [],a,h=>h
 | t::ts,a,h=>Fa L s ts _ (Nat.mod_lt _ (by omega))
theorem oM(L s:Nat)(ts:List Nat):fbit L s ts<2:=Fa L s ts 0 (by omega)
theorem rW{L:Nat}(h:1≤L):2^L=2*2^(L-1):=by
 obtain⟨k,rfl⟩:∃ k,L=k+1:=⟨L-1,by omega⟩
 rw[Nat.add_sub_cancel,Nat.pow_succ]
 omega
theorem aBg{L:Nat}{ts:List Nat}{s:Nat}(hL:1≤L)(hs:s<2^L):nx L ts s<2^L:=by
 have h1:=oM L s ts
 have e:=rW hL
 unfold nx
 have h2:s/2<2^(L-1):=by omega
 have h3:fbit L s ts*2^(L-1)≤1*2^(L-1):=Nat.mul_le_mul_right _ (by omega)
 omega
theorem Bd(L s s':Nat)(h:s/2=s'/2):∀(ts:List Nat) (a:Nat),(∀ t,t∈ts→t<L)→ts.foldl (fun a t=>(a+s/2^(L-t)%2)%2) a=ts.foldl (fun a t=>(a+s'/2^(L-t)%2)%2) a
 | [],a,_=>rfl
 | t::ts,a,ht=>by
  have h1:=ht t (by simp)
  obtain⟨j,hj⟩:∃ j,L-t=j+1:=⟨L-t-1,by omega⟩
  simp only[List.foldl_cons]
  have e:s/2^(L-t)=s'/2^(L-t):=by
   rw[hj,Nat.pow_succ',← Nat.div_div_eq_div_mul,← Nat.div_div_eq_div_mul,h]
  rw[e]
  exact Bd L s s' h ts _ (fun t ht'=>ht t (by simp[ht']))
theorem Hr{L s:Nat}{ts t':List Nat}(h:ts=t'++[L]):fbit L s ts=(fbit L s t'+s%2)%2:=by
 subst h
 unfold fbit
 rw[List.foldl_append]
 simp
theorem Qp{L:Nat}{ts:List Nat}(hr:Reg L ts){s s':Nat}(hs:s<2^L)(hs':s'<2^L)(h:nx L ts s=nx L ts s'):s=s':=by
 obtain⟨t',e,hl⟩:=hr.last
 have h2:=hr.two
 have e2:=rW (L:=L) (by omega)
 unfold nx at h
 have b1:=oM L s ts
 have b2:=oM L s' ts
 have hp:=Nat.two_pow_pos (L-1)
 have hc:fbit L s ts=fbit L s' ts:=by
  rcases (show fbit L s ts=0∨fbit L s ts=1 by omega) with q|q<;>rcases (show fbit L s' ts=0∨fbit L s' ts=1 by omega) with q'|q'<;>rw[q,q'] at h ⊢<;>omega
 have hd:s/2=s'/2:=by rw[hc] at h;omega
 rw[Hr e,Hr e] at hc
 have:fbit L s t'=fbit L s' t':=Bd L s s' hd t' 0 hl
 have l1:=oM L s t'
 rw[this] at hc
 have l2:=oM L s' t'
 omega
theorem Sj(L:Nat):∀ ts:List Nat,nx L ts 0=0:=by
 have:∀(ts:List Nat),fbit L 0 ts=0:=by
  intro ts
  unfold fbit
  induction ts with
  | nil=>rfl
  | cons t ts ih=>simpa using ih
 intro ts
 unfold nx
 rw[this ts]
 simp
theorem aBo{L:Nat}{ts:List Nat}(hr:Reg L ts){s:Nat}(h0:0<s)(hs:s<2^L):0<nx L ts s:=by
 rcases Nat.eq_zero_or_pos (nx L ts s) with h|h
 ·have:=Qp hr hs (Nat.two_pow_pos L) (by rw[h,Sj])
  omega
 ·exact h
def stt(L:Nat)(ts:List Nat)(s:Nat):Nat→Nat
 | 0=>s
 | t+1=>nx L ts (stt L ts s t)
theorem stt_succ'(L:Nat)(ts:List Nat)(s:Nat):∀ t,stt L ts s (t+1)=stt L ts (nx L ts s) t
 | 0=>rfl
 | t+1=>by
  show nx L ts (stt L ts s (t+1))=nx L ts (stt L ts (nx L ts s) t)
  rw[stt_succ' L ts s t]
theorem tS(L:Nat)(ts:List Nat)(s a:Nat):∀ b,stt L ts s (a+b)=stt L ts (stt L ts s a) b
 | 0=>rfl
 | b+1=>by
  show nx L ts (stt L ts s (a+b))=nx L ts (stt L ts (stt L ts s a) b)
  rw[tS L ts s a b]
section
variable {L:Nat} {ts:List Nat} {s:Nat}
theorem jJ(hr:Reg L ts)(h0:0<s)(hs:s<2^L):∀ t,0<stt L ts s t∧stt L ts s t<2^L
 | 0=>⟨h0,hs⟩
 | t+1=>by
  obtain⟨a,b⟩:=jJ hr h0 hs t
  exact⟨aBo hr a b,aBg (by have:=hr.two;omega) b⟩
def bt(L:Nat)(ts:List Nat)(s t:Nat):Nat:=stt L ts s t%2
theorem Zl(hr:Reg L ts){x:Nat}(hx:x<2^L){i:Nat}(hi:i+1<L):nx L ts x/2^i%2=x/2^(i+1)%2:=by
 unfold nx
 obtain⟨j,hj⟩:∃ j,L-1=i+(j+1):=⟨L-1-i-1,by omega⟩
 have e:fbit L x ts*2^(L-1)=2^i*(2*(fbit L x ts*2^j)):=by
  rw[hj,Nat.pow_add,Nat.pow_succ]
  simp only[Nat.mul_comm,Nat.mul_left_comm,Nat.mul_assoc]
 rw[e,Nat.add_mul_div_left _ _ (Nat.two_pow_pos i),Nat.add_mul_mod_self_left,Nat.div_div_eq_div_mul,Nat.pow_succ']
theorem aCF(hr:Reg L ts){x:Nat}(hx:x<2^L):nx L ts x/2^(L-1)%2=fbit L x ts:=by
 have h2:=hr.two
 have e2:=rW (L:=L) (by omega)
 unfold nx
 have h1:x/2<2^(L-1):=by omega
 rw[Nat.add_mul_div_right _ _ (Nat.two_pow_pos _),Nat.div_eq_of_lt h1,Nat.zero_add,Nat.mod_eq_of_lt (oM _ _ _)]
theorem window(hr:Reg L ts)(h0:0<s)(hs:s<2^L):∀(i t:Nat),i<L→stt L ts s t/2^i%2=bt L ts s (t+i)
 | 0,t,_=>by simp[bt]
 | i+1,t,hi=>by
  have h1:=window hr h0 hs i (t+1) (by omega)
  have h2:=Zl hr (jJ hr h0 hs t).2 (i:=i) hi
  rw[show t+(i+1)=t+1+i by omega,← h1,← h2]
  rfl
theorem aBs(hr:Reg L ts)(h0:0<s)(hs:s<2^L)(t:Nat):bt L ts s (t+L)=ts.foldl (fun a p=>(a+bt L ts s (t+L-p))%2) 0:=by
 have h2:=hr.two
 have h1:=window hr h0 hs (L-1) (t+1) (by omega)
 rw[show t+1+(L-1)=t+L by omega] at h1
 rw[← h1]
 have h3:=aCF hr (jJ hr h0 hs t).2
 have h4:stt L ts s (t+1)=nx L ts (stt L ts s t):=rfl
 rw[h4,h3]
 unfold fbit
 have key:∀(l:List Nat) (a:Nat),(∀ p,p∈l→1≤p∧p≤L)→l.foldl (fun a p=>(a+stt L ts s t/2^(L-p)%2)%2) a=l.foldl (fun a p=>(a+bt L ts s (t+L-p))%2) a:=by
  intro l
  induction l with
  | nil=>intro a _;rfl
  | cons p l ih =>
   intro a hl
   have hp:=hl p (by simp)
   simp only[List.foldl_cons]
   rw[window hr h0 hs (L-p) t (by omega),show t+(L-p)=t+L-p by omega]
   exact ih _ (fun q hq=>hl q (by simp[hq]))
 exact key ts 0 hr.le
theorem returns(hr:Reg L ts)(h0:0<s)(hs:s<2^L):∃ n,1≤n∧n≤2^L-1∧stt L ts s n=s:=by
 have hdup:∃ i j,i<j∧j≤2^L-1∧stt L ts s i=stt L ts s j:=by
  apply Classical.byContradiction
  intro hno
  have hnd:((List.range (2^L)).map (stt L ts s)).Nodup:=by
   rw[List.nodup_iff_pairwise_ne,List.pairwise_map]
   refine List.Pairwise.imp_of_mem ?_ List.pairwise_lt_range
   intro a b ha hb hlt he
   exact hno ⟨a,b,hlt,by have:=List.mem_range.1 hb;omega,he⟩
  have hsub:((List.range (2^L)).map (stt L ts s))⊆(List.range (2^L-1)).map (· + 1):=by
   intro x hx
   obtain⟨t,_,rfl⟩:=List.mem_map.1 hx
   obtain⟨a,b⟩:=jJ hr h0 hs t
   exact List.mem_map.2 ⟨stt L ts s t-1,List.mem_range.2 (by omega),by omega⟩
  have:=hnd.length_le_of_subset hsub
  simp at this
  have:=Nat.two_pow_pos L
  omega
 obtain⟨i,j,hij,hj,he⟩:=hdup
 have back:∀(i k:Nat),stt L ts s i=stt L ts s (i+k)→s=stt L ts s k:=by
  intro i
  induction i with
  | zero=>intro k h;simpa [stt] using h
  | succ i ih =>
   intro k h
   rw[show i+1+k=(i+k)+1 by omega] at h
   exact ih k (Qp hr (jJ hr h0 hs i).2 (jJ hr h0 hs (i+k)).2 h)
 refine⟨j-i,by omega,by omega,?_⟩
 exact (back i (j-i) (by rw[he];congr 1;omega)).symm
theorem least{P:Nat→Prop}(h:∃ n,P n):∃ n,P n∧∀ m,m<n→¬ P m:=by
 obtain⟨n,hn⟩:=h
 induction n using Nat.strongRecOn with
 | _ n ih =>
  by_cases hx:∃ m,m<n∧P m
  ·obtain⟨m,hm,hp⟩:=hx
   exact ih m hm hp
  ·exact⟨n,hn,fun m hm hp=>hx ⟨m,hm,hp⟩⟩
def uM(L:Nat)(ts:List Nat)(s n:Nat):Prop:=(1≤n∧stt L ts s n=s)∧∀ m,m<n→¬(1≤m∧stt L ts s m=s)
theorem Pp(hr:Reg L ts)(h0:0<s)(hs:s<2^L):∃ n,uM L ts s n∧n≤2^L-1:=by
 obtain⟨n,h1,h2,h3⟩:=returns hr h0 hs
 obtain⟨m,hm,hl⟩:=least (P:=fun n=>1≤n∧stt L ts s n=s) ⟨n,h1,h3⟩
 refine⟨m,⟨hm,hl⟩,?_⟩
 rcases Nat.lt_or_ge n m with h|h
 ·exact absurd ⟨h1,h3⟩ (hl n h)
 ·omega
end
theorem w64n{x:Nat}(h:x<9223372036854775808):IntKind.i64.wrap (x:Int)=x:=w64 (by omega)
theorem Lp{v:Nat}(h:v<2^62):xH .and .i64 (v:Int) 1=((v%2:Nat):Int):=by
 show IntKind.i64.wrap (((BitVec.ofInt 64 (v:Int) &&& BitVec.ofInt 64 1).toNat:Nat):Int)=_
 have:(BitVec.ofInt 64 (v:Int) &&& BitVec.ofInt 64 1).toNat=v%2:=by
  rw[BitVec.ofInt_natCast,BitVec.toNat_and,BitVec.toNat_ofNat,Nat.mod_eq_of_lt (by omega)]
  show v &&& 1=_
  exact Nat.and_one_is_mod v
 rw[this,w64n (by omega)]
theorem Tu{a b:Nat}(ha:a<2)(hb:b<2):xH .xor .i64 (a:Int) (b:Int)=(((a+b)%2:Nat):Int):=by
 rcases (show a=0∨a=1 by omega) with rfl|rfl<;>rcases (show b=0∨b=1 by omega) with rfl|rfl<;>decide
theorem Uv{a i c:Nat}(ha:a<2^i)(hc:c<2)(hi:i≤60):xH .or .i64 (a:Int) ((c*2^i:Nat):Int)=((a+c*2^i:Nat):Int):=by
 have hp:2^i≤2^60:=Nat.pow_le_pow_right (by omega) hi
 have hcm:c*2^i≤1*2^i:=Nat.mul_le_mul_right _ (by omega)
 show IntKind.i64.wrap (((BitVec.ofInt 64 (a:Int) ||| BitVec.ofInt 64 ((c*2^i:Nat):Int)).toNat:Nat):Int)=_
 have:(BitVec.ofInt 64 (a:Int) ||| BitVec.ofInt 64 ((c*2^i:Nat):Int)).toNat=a+c*2^i:=by
  rw[BitVec.ofInt_natCast,BitVec.ofInt_natCast,BitVec.toNat_or,BitVec.toNat_ofNat,BitVec.toNat_ofNat,Nat.mod_eq_of_lt (by omega),Nat.mod_eq_of_lt (by omega),Nat.or_comm,Nat.mul_comm c,← Nat.two_pow_add_eq_or_of_lt ha c,Nat.add_comm]
 rw[this,w64n (by omega)]
theorem aAl{v k:Nat}{n:Int}(hk:k≤60)(hn:n=(k:Int)):shI .shr .i64 (v:Int) n=some ((v/2^k:Nat):Int):=by
 subst hn
 unfold shI
 rw[if_neg (by omega)]
 simp only
 have:min (k:Int).toNat IntKind.i64.bits=k:=by
  have:IntKind.i64.bits=64:=rfl
  omega
 rw[this,Int.fdiv_eq_ediv_of_nonneg _ (Int.pow_nonneg (by omega))]
 congr 1
theorem Yg{v k:Nat}{n:Int}(hk:k≤60)(hv:v<2)(hn:n=(k:Int)):shI .shl .i64 (v:Int) n=some ((v*2^k:Nat):Int):=by
 subst hn
 unfold shI
 rw[if_neg (by omega)]
 simp only
 have:min (k:Int).toNat IntKind.i64.bits=k:=by
  have:IntKind.i64.bits=64:=rfl
  omega
 have hp:2^k≤2^60:=Nat.pow_le_pow_right (by omega) hk
 have hcm:v*2^k≤1*2^k:=Nat.mul_le_mul_right _ (by omega)
 have e:(v:Int)*2^k=((v*2^k:Nat):Int):=by simp
 rw[this,e,w64n (by omega)]
end Go.Rex
namespace Go.Rex
abbrev ints(l:List Nat):List Int:=l.map (fun (t:Nat)=>(t:Int))
section
variable {L:Nat} {ts:List Nat} {s:Nat}
theorem Av{α:Type}{l:List α}{k:Nat}{x:α}(h:l[k]?=some x):l.take (k+1)=l.take k++[x]:=by
 rw[List.take_add_one,h];rfl
theorem Sa(hr:Reg L ts)(hs:s<2^L):dS L (ints ts) s=some ((nx L ts s:Nat):Int):=by
 have h2:=hr.two
 have h8:=hr.most
 have hb:s<2^62:=Nat.lt_of_lt_of_le hs (Nat.pow_le_pow_right (by omega) (by omega))
 unfold dS
 have hrun:=cT (step:=cK L (ints ts) s) (e:=((fbit L s ts:Nat):Int)) (fun k=>((((ts.take k).foldl (fun a t=>(a+s/2^(L-t)%2)%2) 0:Nat):Int),(k:Int))) (n:=ts.length) (fun k hk=>?_) ?_
 ·rw[show ((0:Int),(0:Int))=((((ts.take 0).foldl (fun a t=>(a+s/2^(L-t)%2)%2) 0:Nat):Int),((0:Nat):Int)) from rfl,hrun,Option.bind_some,aAl (k:=1) (n:=1) (by omega) rfl,Option.bind_some]
  have hw:IntKind.i64.wrap ((L:Int)-1)=((L-1:Nat):Int):=by rw[w64 (by omega)];omega
  rw[Yg (k:=L-1) (by omega) (oM L s ts) hw,Option.bind_some]
  have hp:=rW (L:=L) (by omega)
  have:=Uv (a:=s/2^1) (i:=L-1) (c:=fbit L s ts) (by omega) (oM L s ts) (by omega)
  rw[this]
  rfl
 ·obtain⟨t,ht⟩:∃ t,ts[k]?=some t:=⟨_,List.getElem?_eq_getElem hk⟩
  have htm:=hr.le t (List.mem_of_getElem? ht)
  dsimp only[cK]
  rw[if_pos (by simpa using hk),aW,List.getElem?_map,ht,Option.map_some,Option.bind_some]
  have hw:IntKind.i64.wrap ((L:Int)-(t:Int))=((L-t:Nat):Int):=by rw[w64 (by omega)];omega
  rw[aAl (k:=L-t) (by omega) hw,Option.bind_some,Av ht,List.foldl_append]
  rw[Lp (Nat.lt_of_le_of_lt (Nat.div_le_self _ _) hb),Tu (Fa L s (ts.take k) 0 (by omega)) (Nat.mod_lt _ (by omega))]
  rw[w64 (x:=(k:Int)+1) (by have:=hr.len;omega)]
  rfl
 ·dsimp only[cK]
  rw[if_neg (by simp),List.take_length]
  rfl
theorem Ha(hr:Reg L ts)(h0:0<s)(hs:s<2^L){σ ε:Type}{step:Int→σ→Option (σ ⊕ ε)}(y:Nat→σ){n:Nat}{z:ε}(h:∀ k,k<n→step ((stt L ts s k:Nat):Int) (y k)=some (.inl (y (k+1))))(hn:step ((stt L ts s n:Nat):Int) (y n)=some (.inr z)) :
 aK s L (ints ts) (hand step) (.inl (y 0))=some (.inr z):=by
 unfold aK
 have hrun:=cT (step:=aV (hand step) L (ints ts)) (e:=.inr z) (fun k=>((((stt L ts s k:Nat):Int)),(Sum.inl (y k):σ ⊕ ε))) (n:=n) (fun k hk=>?_) ?_
 ·rw[show (((s:Nat):Int),(Sum.inl (y 0):σ ⊕ ε))=((((stt L ts s 0:Nat):Int)),(Sum.inl (y 0):σ ⊕ ε)) from rfl,hrun]
  rfl
 ·dsimp only[aV]
  simp only[hand,h k hk,Option.map_some,Option.bind_some,if_true]
  rw[Sa hr (jJ hr h0 hs k).2]
  rfl
 ·dsimp only[aV]
  simp only[hand,hn,Option.map_some,Option.bind_some,Bool.false_eq_true,if_false]
def btl(L:Nat)(ts:List Nat)(s n:Nat):List Int:=(List.range n).map fun t=>((bt L ts s t:Nat):Int)
theorem Ds(L:Nat)(ts:List Nat)(s n:Nat):btl L ts s (n+1)=btl L ts s n++[((bt L ts s n:Nat):Int)]:=by
 unfold btl
 rw[List.range_succ,List.map_append]
 rfl
theorem tN(L:Nat)(ts:List Nat)(s n:Nat):(btl L ts s n).length=n:=by simp[btl]
theorem Gu(a:Int)(b:List Int)(c:Int):eC a b c=some (c,a,b):=rfl
theorem Un(hr:Reg L ts)(h0:0<s)(hs:s<2^L){n:Nat}(hp:uM L ts s n)(hn:n≤2^L-1):eN L (ints ts) s=some (n:Int):=by
 obtain⟨⟨h1,h2⟩,h3⟩:=hp
 have h8:=hr.most
 have hL:2^L≤2^8:=Nat.pow_le_pow_right (by omega) h8
 unfold eN
 rw[Sa hr hs,Option.bind_some,Gu,Option.bind_some]
 dsimp only
 have hx:=jJ hr h0 hs 1
 obtain⟨m,rfl⟩:∃ m,n=m+1:=⟨n-1,by omega⟩
 have:=Ha hr (s:=nx L ts s) hx.1 hx.2 (step:=cW s) (fun k=>((k+1:Nat):Int)) (n:=m) (z:=((m+1:Nat):Int)) (fun k hk=>?_) ?_
 ·rw[show (1:Int)=(((0+1:Nat):Nat):Int) from rfl]
  rw[this]
  rfl
 ·dsimp only[cW]
  rw[← stt_succ']
  have:=h3 (k+1) (by omega)
  rw[if_neg (by simp only[decide_eq_true_eq];intro e;exact this ⟨by omega,by omega⟩),w64 (by omega)]
  congr 2
 ·dsimp only[cW]
  rw[← stt_succ',h2,if_pos (by simp)]
end
end Go.Rex
namespace Go.Rex
theorem Aw(x a b:Int):eS x a b=some (decide (a≤x∧x≤b)):=by
 unfold eS
 by_cases h:a≤x<;>simp[h]
theorem qD(x a b:Int):cF x a b=some (!decide (a≤x∧x≤b),2):=by
 unfold cF aD
 by_cases h:x<a
 ·rw[if_pos (by simpa using h)]
  have:¬(a≤x∧x≤b):=by omega
  simp[this]
 ·rw[if_neg (by simpa using h)]
  by_cases h2:x≤b
  ·have h3:a≤x∧x≤b:=by omega
   have h4:¬ x>b:=by omega
   simp[h3,h4]
  ·have h3:¬(a≤x∧x≤b):=by omega
   have h4:x>b:=by omega
   simp only[h3,h4,decide_true,decide_false,Bool.not_false,Option.bind_some]
theorem sH(b:Bool)(e:Int):aD b e=some (b,e):=rfl
theorem lC(b:Bool)(e:Int):aA b e=some (if b=true then e else 0):=by
 unfold aA;cases b<;>rfl
theorem aAK(l:List Int)(h:l.length≤2000):mB l=some l:=by
 unfold mB nB
 rw[if_pos ⟨by simp;omega,by simp;omega⟩]
 rfl
theorem Vv(a:Int)(l:List Int)(h:l.length≤2000):lB a l=some (a,l):=by
 unfold lB
 rw[aAK l h]
 rfl
def gk(L:Int)(l:List Int)(k:Nat):Int:=
 if 1≤l.getD k 0∧l.getD k 0≤L then (if 0<k∧l.getD k 0≤l.getD (k-1) 0 then 9 else 0) else 2
def Ai(L:Int)(l:List Int):Int:=iW (fun k=>decide (gk L l k≠0)) (fun _ k=>gk L l k) 0 0 (List.range l.length)
def chk(L:Int)(l:List Int):Int:=
 if ¬(2≤L∧L≤8) then 2 else if l.length=0 then 10 else if Ai L l≠0 then Ai L l else if l.getD (l.length-1) 0≠L then 6 else 0
theorem rE{l:List Int}{k:Nat}(h:k<l.length):l[k]?=some (l.getD k 0):=by
 rw[List.getD_eq_getElem?_getD,List.getElem?_eq_getElem h];rfl
theorem Et{L:Int}{l:List Int}(h:Ai L l=0):∀ k,k<l.length→gk L l k=0:=by
 have key:∀(xs:List Nat) (j:Nat),iW (fun k=>decide (gk L l k≠0)) (fun _ k=>gk L l k) 0 j xs=0→∀ k,k∈xs→gk L l k=0:=by
  intro xs
  induction xs with
  | nil=>intro j _ k hk;cases hk
  | cons x t ih =>
   intro j hj k hk
   unfold iW at hj
   by_cases hx:gk L l x=0
   ·rw[if_neg (by simpa using hx)] at hj
    rcases List.mem_cons.1 hk with rfl|hk
    ·exact hx
    ·exact ih _ hj k hk
   ·rw[if_pos (by simpa using hx)] at hj
    exact absurd hj hx
 intro k hk
 exact key _ 0 h k (List.mem_range.2 hk)
theorem Ji{L:Int}{l:List Int}{k:Nat}(h:gk L l k=0):1≤l.getD k 0∧l.getD k 0≤L∧(0<k→l.getD (k-1) 0<l.getD k 0):=by
 unfold gk at h
 split at h
 ·rename_i h1
  split at h
  ·cases h
  ·rename_i h2
   exact⟨h1.1,h1.2,fun hk=>by omega⟩
 ·cases h
theorem Rv{ε:Type}{step:Int→Option (Int ⊕ ε)}{L:Int}{l:List Int}(inj:Int→ε)(en:ε)(hl:l.length≤2000)(hs:∀ k:Nat,k<l.length→step (k:Int)=some (if gk L l k≠0 then .inr (inj (gk L l k)) else .inl ((k+1:Nat):Int)))(he:step (l.length:Int)=some (.inr en)) :
 ∃ z,run step 0=some z∧((Ai L l=0∧z=en)∨(Ai L l≠0∧z=inj (Ai L l))):=by
 have hrun:=Hn (step:=step) (fun k:Nat=>(k:Int)) (fun k=>decide (gk L l k≠0)) (fun _ k=>inj (gk L l k)) en (List.range l.length) (fun k x hx=>by
  obtain⟨h1,h2⟩:=List.getElem?_eq_some_iff.1 hx
  rw[List.getElem_range] at h2
  subst h2
  rw[hs k (by simpa using h1)]
  by_cases q:gk L l k=0<;>simp[q]) (by simpa using he) (s:=0) rfl
 refine⟨_,hrun,?_⟩
 have key : ∀ (xs : List Nat) (j : Nat), (iW (fun k => decide (gk L l k ≠ 0)) (fun _ k => gk L l k) 0 j xs = 0 ∧ iW (fun k => decide (gk L l k ≠ 0)) (fun _ k => inj (gk L l k)) en j xs = en) ∨
     (iW (fun k=>decide (gk L l k≠0)) (fun _ k=>gk L l k) 0 j xs≠0∧iW (fun k=>decide (gk L l k≠0)) (fun _ k=>inj (gk L l k)) en j xs=inj (iW (fun k=>decide (gk L l k≠0)) (fun _ k=>gk L l k) 0 j xs)):=by
  intro xs
  induction xs with
  | nil=>intro j;exact .inl ⟨rfl,rfl⟩
  | cons x t ih =>
   intro j
   unfold iW
   by_cases hx:gk L l x=0
   ·rw[if_neg (by simpa using hx),if_neg (by simpa using hx)]
    exact ih (j+1)
   ·rw[if_pos (by simpa using hx),if_pos (by simpa using hx)]
    exact .inr ⟨hx,rfl⟩
 exact key _ 0
theorem aCJ{L:Int}{l:List Int}{k:Nat}(q:¬(1≤l.getD k 0∧l.getD k 0≤L)):gk L l k=2:=by unfold gk;rw[if_neg q]
theorem aCW{L:Int}{l:List Int}{k:Nat}(q:1≤l.getD k 0∧l.getD k 0≤L)(q2:0<k)(q3:l.getD k 0≤l.getD (k-1) 0):gk L l k=9:=by unfold gk;rw[if_pos q,if_pos ⟨q2,q3⟩]
theorem aA2{L:Int}{l:List Int}{k:Nat}(q:1≤l.getD k 0∧l.getD k 0≤L)(q3:0<k→¬ l.getD k 0≤l.getD (k-1) 0):gk L l k=0:=by unfold gk;rw[if_pos q,if_neg (fun h=>q3 h.1 h.2)]
theorem Su(L:Int)(l:List Int)(hl:l.length≤12):gA L l=some (chk L l):=by
 unfold gA chk
 rw[Aw,Option.bind_some]
 by_cases h1:2≤L∧L≤8
 ·rw[if_pos (c:=decide (2≤L∧L≤8)=true) (by simpa using h1),if_neg (c:=¬(2≤L∧L≤8)) (fun h=>h h1)]
  by_cases h2:l.length=0
  ·rw[if_pos (c:=decide ((l.length:Int)=0)=true) (by simpa using h2),if_pos (c:=l.length=0) h2]
  ·rw[if_neg (c:=decide ((l.length:Int)=0)=true) (by simpa using h2),if_neg (c:=l.length=0) h2]
   obtain⟨z,hz,hc⟩:=Rv (step:=cS L l) (L:=L) (l:=l) .inl (.inr ()) (by omega) (fun k hk=>by
    dsimp only[cS]
    rw[if_pos (c:=decide ((k:Int)<(l.length:Int))=true) (by simpa using hk),aW,rE hk,Option.bind_some,Aw,Option.bind_some]
    by_cases q:1≤l.getD k 0∧l.getD k 0≤L
    ·rw[if_pos (c:=decide (1≤l.getD k 0∧l.getD k 0≤L)=true) (by simpa using q)]
     by_cases q2:0<k
     ·rw[if_pos (c:=decide ((k:Int)>0)=true) (by simpa using q2),tQ (k:=k-1) (by rw[w64 (by omega)];omega),rE (by omega),Option.bind_some]
      by_cases q3:l.getD k 0≤l.getD (k-1) 0
      ·rw[if_pos (c:=decide (l.getD k 0≤l.getD (k-1) 0)=true) (by simpa using q3),aCW q q2 q3];rfl
      ·rw[if_neg (c:=decide (l.getD k 0≤l.getD (k-1) 0)=true) (by simpa using q3),aA2 q (fun _=>q3),w64 (by omega)];rfl
     ·rw[if_neg (c:=decide ((k:Int)>0)=true) (by simpa using q2),aA2 q (fun h=>absurd h q2),w64 (by omega)];rfl
    ·rw[if_neg (c:=decide (1≤l.getD k 0∧l.getD k 0≤L)=true) (by simpa using q),aCJ q];rfl) (by
    dsimp only[cS]
    rw[if_neg (by simp)])
   rw[hz,Option.bind_some]
   rcases hc with⟨h3,rfl⟩|⟨h3,rfl⟩
   ·rw[if_neg (c:=Ai L l≠0) (fun h=>h h3)]
    dsimp only
    rw[tQ (k:=l.length-1) (by rw[w64 (by omega)];omega),rE (by omega),Option.bind_some]
    by_cases q:l.getD (l.length-1) 0=L<;>simp only[q,ne_eq,not_true_eq_false,not_false_eq_true,decide_true,decide_false,if_true,if_false,Bool.false_eq_true]
   ·rw[if_pos (c:=Ai L l≠0) h3]
 ·rw[if_neg (c:=decide (2≤L∧L≤8)=true) (by simpa using h1),if_pos (c:=¬(2≤L∧L≤8)) h1]
theorem Nd(l:List Int)(x:Int)(hl:l.length≤2000):dT l x=some (l.any fun y=>decide (x=y)):=by
 unfold dT iV
 have hrun:=Hn (step:=cH l x) (fun k:Nat=>(k:Int)) (fun y=>decide (x=y)) (fun k _=>.inl (k:Int)) (.inr ()) l (fun k y hy=>by
  have h1:=(List.getElem?_eq_some_iff.1 hy).1
  dsimp only[cH]
  rw[if_pos (by simpa using h1),aW,hy,Option.bind_some]
  by_cases q:x=y
  ·rw[if_pos (by simpa using q),if_pos (by simpa using q)]
  ·rw[if_neg (by simpa using q),if_neg (by simpa using q),w64 (by omega)];rfl) (by
  dsimp only[cH]
  rw[if_neg (by simp)]) (s:=0) rfl
 rw[hrun,Option.bind_some]
 have key:∀(xs:List Int) (j:Nat),∃ v:Int,(match (iW (fun y=>decide (x=y)) (fun k _=>(.inl (k:Int):Int ⊕ Unit)) (.inr ()) j xs) with|.inl v11=>some v11|.inr _=>some (-1))=some v∧decide (v≥0)=xs.any fun y=>decide (x=y):=by
  intro xs
  induction xs with
  | nil=>intro j;exact⟨-1,rfl,rfl⟩
  | cons y t ih =>
   intro j
   unfold iW
   by_cases q:x=y
   ·rw[if_pos (by simpa using q)];exact⟨j,rfl,by simp[q]⟩
   ·rw[if_neg (by simpa using q)]
    obtain⟨v,h1,h2⟩:=ih (j+1)
    exact⟨v,h1,by rw[h2];simp[q]⟩
 obtain⟨v,h1,h2⟩:=key l 0
 rw[← h2]
 generalize iW (fun y=>decide (x=y)) (fun k _=>(Sum.inl (k:Int):Int ⊕ Unit)) (Sum.inr ()) 0 l=z at *
 rcases z with z|z
 ·obtain rfl:=Option.some.inj h1;rfl
 ·obtain rfl:=Option.some.inj h1;rfl
theorem Lr{L:Int}{l:List Int}(h:Ai L l=0){j:Nat}(hj:j<l.length):∀ i,i<j→l.getD i 0<l.getD j 0:=by
 induction j with
 | zero=>intro i hi;omega
 | succ j ih =>
  intro i hi
  have h1:=(Ji (Et h (j+1) hj)).2.2 (by omega)
  rw[Nat.add_sub_cancel] at h1
  rcases Nat.lt_or_ge i j with q|q
  ·have:=ih (by omega) i q;omega
  ·obtain rfl:i=j:=by omega
   exact h1
theorem Yv{L:Int}{l:List Int}(h:Ai L l=0)(hn:l.length≠0):(l.any fun y=>decide (L=y))=decide (l.getD (l.length-1) 0=L):=by
 rw[Bool.eq_iff_iff,List.any_eq_true,decide_eq_true_eq]
 constructor
 ·rintro⟨y,hy,he⟩
  have he':L=y:=by simpa using he
  obtain⟨j,hj⟩:=List.mem_iff_getElem?.1 hy
  have hjl:=(List.getElem?_eq_some_iff.1 hj).1
  have hd:l.getD j 0=L:=by rw[List.getD_eq_getElem?_getD,hj];exact he'.symm
  rcases Nat.lt_or_ge j (l.length-1) with q|q
  ·have h1:=Lr h (j:=l.length-1) (by omega) j q
   have h2:=(Ji (Et h (l.length-1) (by omega))).2.1
   omega
  ·have:l.length-1=j:=by omega
   rw[this];exact hd
 ·intro he
  exact⟨l.getD (l.length-1) 0,List.mem_of_getElem? (rE (by omega)),by simpa using he.symm⟩
theorem aAH(L:Int)(l:List Int)(hl:l.length≤12):fY L l=some (chk L l):=by
 unfold fY mG mH
 simp only[qD,sH,Option.bind_some,Nd l L (show l.length≤2000 by omega)]
 unfold iJ chk
 rw[lC,Option.bind_some]
 by_cases h1:2≤L∧L≤8
 ·rw[if_neg (c:=¬(2≤L∧L≤8)) (by simpa using h1)]
  rw[show decide (2≤L∧L≤8)=true by simpa using h1]
  simp only[Bool.not_true,Bool.false_eq_true,if_false,ne_eq,not_true_eq_false,decide_false,lC,Option.bind_some]
  by_cases h2:l.length=0
  ·rw[if_pos h2]
   have:(l.length:Int)=0:=by omega
   simp[this]
  ·have h2':¬(l.length:Int)=0:=by omega
   rw[if_neg h2]
   simp only[h2',decide_false,Bool.false_eq_true,if_false,not_true_eq_false]
   unfold jW
   obtain⟨z,hz,hc⟩:=Rv (step:=dG l.length l 1 L) (L:=L) (l:=l) .inl (.inr ()) (by omega) (fun k hk=>by
    dsimp only[dG]
    rw[if_pos (by simpa using hk)]
    have hasc:dR k l 1 L=some (gk L l k):=by
     unfold dR aQ
     rw[aW,rE hk,Option.bind_some,qD,Option.bind_some]
     dsimp only
     by_cases q:1≤l.getD k 0∧l.getD k 0≤L
     ·rw[show decide (1≤l.getD k 0∧l.getD k 0≤L)=true by simpa using q]
      by_cases q2:0<k
      ·rw[if_pos (by simpa using q2),tQ (k:=k-1) (by rw[w64 (by omega)];omega),rE (by omega),Option.bind_some,sH,Option.bind_some]
       dsimp only
       simp only[lC,Option.bind_some,Bool.not_true,Bool.false_eq_true,if_false,ne_eq,not_true_eq_false,decide_false]
       by_cases q3:l.getD k 0≤l.getD (k-1) 0
       ·rw[aCW q q2 q3];simp only[q3,decide_true,if_true];rfl
       ·rw[aA2 q (fun _=>q3)];simp only[q3,decide_false,Bool.false_eq_true,if_false];rfl
      ·rw[if_neg (by simpa using q2),aA2 q (fun h=>absurd h q2),sH,Option.bind_some]
       dsimp only
       simp only[lC,Option.bind_some,Bool.not_true,Bool.false_eq_true,if_false,ne_eq,not_true_eq_false,decide_false]
     ·rw[aCJ q,show decide (1≤l.getD k 0∧l.getD k 0≤L)=false by simpa using q]
      by_cases q2:0<k
      ·rw[if_pos (by simpa using q2),tQ (k:=k-1) (by rw[w64 (by omega)];omega),rE (by omega),Option.bind_some,sH,Option.bind_some]
       dsimp only
       simp only[lC,Option.bind_some,Bool.not_false,if_true];rfl
      ·rw[if_neg (by simpa using q2),sH,Option.bind_some]
       dsimp only
       simp only[lC,Option.bind_some,Bool.not_false,if_true];rfl
    rw[hasc,Option.bind_some]
    by_cases q:gk L l k=0
    ·rw[if_neg (by simpa using q),if_neg (by simpa using q),w64 (by omega)];rfl
    ·rw[if_pos (by simpa using q),if_pos q]) (by
    dsimp only[dG]
    rw[if_neg (by simp)])
   rw[hz,Option.bind_some]
   rcases hc with⟨h3,rfl⟩|⟨h3,rfl⟩
   ·rw[Yv h3 h2,if_neg (c:=¬ Ai L l=0) (fun h=>h h3)]
    dsimp only[Option.bind_some]
    by_cases q:l.getD (l.length-1) 0=L<;>simp only[q,decide_true,decide_false,Bool.not_true,Bool.not_false,if_true,if_false,Bool.false_eq_true,ne_eq,not_true_eq_false,not_false_eq_true,Option.bind_some,lC]<;>rfl
   ·rw[if_pos (c:=¬ Ai L l=0) h3]
    dsimp only[Option.bind_some]
    simp only[h3,not_false_eq_true,decide_true,if_true,Option.bind_some]
 ·rw[if_pos (c:=¬(2≤L∧L≤8)) h1,show decide (2≤L∧L≤8)=false by simpa using h1]
  simp
theorem aB1{L:Int}{l:List Int}(hl:l.length≤12)(h:chk L l=0):∃(n:Nat) (ts:List Nat),L=n∧l=ints ts∧Reg n ts:=by
 unfold chk at h
 split at h
 ·cases h
 rename_i h1
 split at h
 ·cases h
 rename_i h2
 split at h
 ·rename_i h3;exact absurd h h3
 rename_i h3
 split at h
 ·cases h
 rename_i h4
 have h1':2≤L∧L≤8:=Classical.not_not.1 h1
 have h3':Ai L l=0:=Classical.not_not.1 h3
 have h4':l.getD (l.length-1) 0=L:=Classical.not_not.1 h4
 have hpos:∀ x,x∈l→1≤x∧x≤L:=fun x hx=>by
  obtain⟨j,hj⟩:=List.mem_iff_getElem?.1 hx
  have hjl:=(List.getElem?_eq_some_iff.1 hj).1
  have:=Ji (Et h3' j hjl)
  have hd:l.getD j 0=x:=by rw[List.getD_eq_getElem?_getD,hj];rfl
  rw[hd] at this
  exact⟨this.1,this.2.1⟩
 have he:l=ints (l.map Int.toNat):=by
  unfold ints
  rw[List.map_map]
  conv=>lhs;rw[← List.map_id l]
  apply List.map_congr_left
  intro x hx
  have:=hpos x hx
  simp;omega
 refine⟨L.toNat,l.map Int.toNat,by omega,he,⟨by omega,by omega,fun t ht=>?_,?_,by simpa using hl⟩⟩
 ·obtain⟨x,hx,rfl⟩:=List.mem_map.1 ht
  have:=hpos x hx
  omega
 ·refine⟨(l.take (l.length-1)).map Int.toNat,?_,fun t ht=>?_⟩
  ·have : l = l.take (l.length - 1) ++ [L] := by
     conv=>lhs;rw[← List.take_append_drop (l.length-1) l]
     congr 1
     have hx:l[l.length-1]?=some L:=by rw[rE (by omega),h4']
     obtain⟨k,hk⟩:∃ k,l.length=k+1:=⟨l.length-1,by omega⟩
     rw[List.drop_eq_getElem_cons (by omega)]
     rw[show l.length-1+1=l.length by omega,List.drop_length]
     congr 1
     have:=(List.getElem?_eq_some_iff.1 hx).2
     exact this
   conv=>lhs;rw[this]
   simp
  ·obtain⟨x,hx,rfl⟩:=List.mem_map.1 ht
   obtain⟨i,hi⟩:=List.mem_iff_getElem?.1 hx
   rw[List.getElem?_take] at hi
   split at hi
   ·rename_i hlt
    have hd:l.getD i 0=x:=by rw[List.getD_eq_getElem?_getD,hi];rfl
    have:=Lr h3' (j:=l.length-1) (by omega) i (by omega)
    have:=hpos x (List.mem_of_getElem? hi)
    omega
   ·cases hi
theorem Ap(L:Int)(l:List Int)(hl:l.length≤12):cC L l=some (chk L l):=by
 unfold cC
 rw[aAH L l hl];rfl
theorem Jo{L:Nat}(hL:L≤8)(l:List Int):mP L l=some ((2^L-1:Nat):Int):=by
 have hp:2^L≤2^8:=Nat.pow_le_pow_right (by omega) hL
 have hp0:=Nat.two_pow_pos L
 unfold mP
 have hrun:=cT (step:=kJ L) (e:=((2^L:Nat):Int)) (fun k=>(((2^k:Nat):Int),(k:Int))) (n:=L) (fun k hk=>?_) ?_
 ·rw[show ((1:Int),(0:Int))=(((2^0:Nat):Int),((0:Nat):Int)) from rfl,hrun,Option.bind_some,w64 (by omega)]
  congr 1;omega
 ·dsimp only[kJ]
  have hk2:2^k≤2^8:=Nat.pow_le_pow_right (by omega) (by omega)
  have hk3:=Nat.two_pow_pos k
  rw[if_pos (by simpa using hk),w64 (x:=2*((2^k:Nat):Int)) (by omega),w64 (x:=(k:Int)+1) (by omega),Nat.pow_succ]
  congr 3;omega
 ·dsimp only[kJ]
  rw[if_neg (by simp)]
theorem tA{L:Nat}(hL:L≤8)(l:List Int):aE L l=some ((2^L-1:Nat):Int):=by
 have hp:2^L≤2^8:=Nat.pow_le_pow_right (by omega) hL
 have hp0:=Nat.two_pow_pos L
 unfold aE
 rw[show (1:Int)=((1:Nat):Int) from rfl,Yg (k:=L) (by omega) (by omega) rfl,Option.bind_some]
 rw[w64 (by omega)]
 congr 1;omega
section
variable {L:Nat} {ts:List Nat} {s:Nat}
theorem aAP(hr:Reg L ts)(h0:0<s)(hs:s<2^L){n:Nat}(hn:n≤2000):fN L (ints ts) s n=some (btl L ts s n):=by
 unfold fN
 rw[Gu,Option.bind_some]
 dsimp only
 rw[show ([]:List Int)=btl L ts s 0 from rfl]
 have hit:=Ha hr h0 hs (step:=dQ n) (fun k=>btl L ts s k) (n:=n) (z:=btl L ts s n) (fun k hk=>?_) ?_
 ·rw[hit];rfl
 ·dsimp only[dQ]
  rw[tN,if_neg (by simp only[decide_eq_true_eq];omega)]
  have h8:=hr.most
  have hb:stt L ts s k<2^62:=Nat.lt_of_lt_of_le (jJ hr h0 hs k).2 (Nat.pow_le_pow_right (by omega) (by omega))
  rw[Lp hb,yU (by rw[tN];omega) (by omega),Ds]
  rfl
 ·dsimp only[dQ]
  rw[tN,if_pos (by simp)]
end
end Go.Rex
namespace Go.Rex
theorem pow8{L:Nat}(h:L≤8):2^L≤256:=Nat.pow_le_pow_right (n:=2) (by omega) h
def sgl(L:Nat)(ts:List Nat)(s n:Nat):List Int:=(List.range n).map fun t=>1-2*((bt L ts s t:Nat):Int)
theorem kQ(L:Nat)(ts:List Nat)(s n:Nat):(sgl L ts s n).length=n:=by simp[sgl]
theorem aA8{step:List Int×Int→Option ((List Int×Int) ⊕ List Int)}{l:List Int}{g:Int→Int}(hs:∀(k:Nat) (a:List Int) x,k<l.length→a.length=l.length→a[k]?=some x→l[k]?=some x→step (a,(k:Int))=some (.inl (a.set k (g x),((k+1:Nat):Int))))(he:∀ a:List Int,a.length=l.length→step (a,(l.length:Int))=some (.inr a)):run step (l,0)=some (l.map g):=by
 have hrun:=cT (step:=step) (e:=l.map g) (fun k=>((l.take k).map g++l.drop k,(k:Int))) (n:=l.length) (fun k hk=>?_) ?_
 ·simpa using hrun
 ·obtain⟨x,hx⟩:∃ x,l[k]?=some x:=⟨_,List.getElem?_eq_getElem hk⟩
  have hd:l.drop k=x::l.drop (k+1):=by
   rw[List.drop_eq_getElem_cons hk]
   rw[List.getElem?_eq_getElem hk] at hx
   rw[Option.some.inj hx]
  have hl:((l.take k).map g).length=k:=by simp;omega
  have hg:((l.take k).map g++l.drop k)[k]?=some x:=by
   rw[List.getElem?_append_right (by omega),hl,Nat.sub_self,hd];rfl
  rw[hs k _ x hk (by simp;omega) hg hx]
  congr 3
  rw[hd,Av hx,List.map_append,List.append_assoc]
  rw[List.set_append_right _ _ (by omega),hl,Nat.sub_self]
  rfl
 ·rw[List.take_length,List.drop_length,List.append_nil]
  have:=he (l.map g) (by simp)
  exact this
section
variable {L:Nat} {ts:List Nat} {s:Nat}
theorem aB9(L:Nat)(ts:List Nat)(s n:Nat):(btl L ts s n).map (fun b=>1-2*b)=sgl L ts s n:=by
 unfold btl sgl
 rw[List.map_map]
 rfl
theorem aBk(L:Nat)(ts:List Nat)(s t:Nat):bt L ts s t≤1:=by unfold bt;omega
theorem aA5{x:Int}{n:Nat}{k:Nat}(h:(btl L ts s n)[k]?=some x):0≤x∧x≤1:=by
 obtain⟨t,_,rfl⟩:=List.mem_map.1 (List.mem_of_getElem? h)
 have:=aBk L ts s t
 omega
theorem Ax(hr:Reg L ts)(h0:0<s)(hs:s<2^L):cB L (ints ts) s=some (sgl L ts s (2^L-1)):=by
 have hp:=pow8 hr.most
 unfold cB
 rw[tA hr.most,Option.bind_some,aAP hr h0 hs (by omega),Option.bind_some,aA8 (g:=fun b=>1-2*b)]
 ·rw[aB9];rfl
 ·intro k a x hk ha hx hx2
  have hb:=aA5 hx2
  dsimp only[dL]
  rw[tN] at hk
  rw[if_pos (by rw[tN];simpa using hk),aW,hx,Option.bind_some,w64 (x:=2*x) (by omega),w64 (x:=1-2*x) (by omega),w64 (x:=(k:Int)+1) (by omega),Int.toNat_natCast]
  rfl
 ·intro a ha
  dsimp only[dL]
  rw[if_neg (by simp)]
end
end Go.Rex
namespace Go.Rex
section
variable {L:Nat} {ts:List Nat} {s:Nat}
theorem tmod2(x:Nat):(x:Int).tmod 2=((x%2:Nat):Int):=by
 rw[Int.tmod_eq_emod_of_nonneg (by omega)];omega
theorem tdiv2(x:Nat):(x:Int).tdiv 2=((x/2:Nat):Int):=by
 rw[Int.tdiv_eq_ediv_of_nonneg (by omega)];omega
theorem Sh(f:Nat→Nat):∀(l:List Nat) (a:Nat),l.foldl (fun a p=>a+f p) a%2=l.foldl (fun a p=>(a+f p)%2) (a%2)
 | [],a=>rfl
 | p::l,a=>by
  simp only[List.foldl_cons]
  rw[Sh f l]
  congr 1
  omega
theorem Zx(f:Nat→Nat)(hf:∀ p,f p≤1):∀(l:List Nat) (a:Nat),l.foldl (fun a p=>a+f p) a≤a+l.length
 | [],a=>by simp
 | p::l,a=>by
  simp only[List.foldl_cons,List.length_cons]
  have:=Zx f hf l (a+f p)
  have:=hf p
  omega
theorem Qd(hr:Reg L ts)(h0:0<s)(hs:s<2^L){n:Nat}(hn:n≤2000):qN L (ints ts) s n=some (btl L ts s n):=by
 have hL2:=hr.two
 have h8:=hr.most
 have hlen:=hr.len
 have hL:2^L≤2^8:=Nat.pow_le_pow_right (by omega) h8
 unfold qN
 have hrun:=cT (step:=kG L (ints ts) n) (e:=btl L ts s n) (fun t=>(((s/2^(min t L):Nat):Int),btl L ts s t,(t:Int))) (n:=n) (fun t ht=>?_) ?_
 ·rw[show (((s:Nat):Int),([]:List Int),(0:Int))=(((s/2^(min 0 L):Nat):Int),btl L ts s 0,((0:Nat):Int)) by simp[btl],hrun]
  rfl
 ·dsimp only[kG]
  rw[if_pos (by simpa using ht)]
  by_cases hlt:t<L
  ·rw[if_pos (by simpa using hlt),tmod2,tdiv2]
   have hw:=window hr h0 hs t 0 hlt
   rw[Nat.zero_add] at hw
   rw[show min t L=t by omega,show s/2^t%2=bt L ts s t from hw,yU (by rw[tN];omega) (by omega),Option.bind_some,← Ds,w64 (x:=((s/2^t/2:Nat):Int)) (by have:=Nat.div_le_self s (2^t);have:=Nat.div_le_self (s/2^t) 2;omega),w64 (x:=(t:Int)+1) (by omega)]
   rw[Nat.div_div_eq_div_mul,← Nat.pow_succ,show min (t+1) L=t+1 by omega]
   rfl
  ·rw[if_neg (by simpa using hlt)]
   obtain⟨u,rfl⟩:∃ u,t=u+L:=⟨t-L,by omega⟩
   have hin:=cT (step:=kK (ints ts) (btl L ts s (u+L)) ((u+L:Nat):Int)) (e:=((ts.foldl (fun a p=>a+bt L ts s (u+L-p)) 0:Nat):Int)) (fun k=>((((ts.take k).foldl (fun a p=>a+bt L ts s (u+L-p)) 0:Nat):Int),(k:Int))) (n:=ts.length) (fun k hk=>?_) ?_
   ·rw[show ((0:Int),(0:Int))=((((ts.take 0).foldl (fun a p=>a+bt L ts s (u+L-p)) 0:Nat):Int),((0:Nat):Int)) from rfl,hin,Option.bind_some,tmod2,Sh,← aBs hr h0 hs u,yU (by rw[tN];omega) (by omega),Option.bind_some,← Ds,w64 (x:=((u+L:Nat):Int)+1) (by omega),show min (u+L) L=L by omega,show min (u+L+1) L=L by omega]
    rfl
   ·obtain⟨p,hp⟩:∃ p,ts[k]?=some p:=⟨_,List.getElem?_eq_getElem hk⟩
    have hpm:=hr.le p (List.mem_of_getElem? hp)
    dsimp only[kK]
    rw[if_pos (by simpa using hk),aW,List.getElem?_map,hp,Option.map_some,Option.bind_some,w64 (x:=((u+L:Nat):Int)-(p:Int)) (by omega),tQ (k:=u+L-p) (by omega)]
    have hg:(btl L ts s (u+L))[u+L-p]?=some ((bt L ts s (u+L-p):Nat):Int):=by
     unfold btl
     rw[List.getElem?_map,List.getElem?_range (by omega)]
     rfl
    rw[hg,Option.bind_some,Av hp,List.foldl_append]
    have hle:=Zx (fun p=>bt L ts s (u+L-p)) (fun p=>by unfold bt;omega) (ts.take k) 0
    rw[List.length_take] at hle
    have hb1:bt L ts s (u+L-p)≤1:=by unfold bt;omega
    rw[w64 (x:=(((ts.take k).foldl (fun a p=>a+bt L ts s (u+L-p)) 0:Nat):Int)+((bt L ts s (u+L-p):Nat):Int)) (by omega),w64 (x:=(k:Int)+1) (by omega)]
    congr 3
   ·dsimp only[kK]
    rw[if_neg (by simp),List.take_length]
 ·dsimp only[kG]
  rw[if_neg (by simp)]
theorem Dk(hr:Reg L ts)(h0:0<s)(hs:s<2^L):nY L (ints ts) s=some ((nx L ts s:Nat):Int):=by
 have hL2:=hr.two
 have h8:=hr.most
 have hL:2^L≤2^8:=Nat.pow_le_pow_right (by omega) h8
 have hx:=aBg (L:=L) (ts:=ts) (s:=s) (by omega) hs
 unfold nY
 have hw:IntKind.i64.wrap ((L:Int)+1)=((L+1:Nat):Int):=by rw[w64 (by omega)];omega
 rw[hw,Qd hr h0 hs (by omega),Option.bind_some]
 have hrun:=cT (step:=kL (btl L ts s (L+1))) (e:=((nx L ts s:Nat):Int)) (fun j=>(((nx L ts s/2^(L-j):Nat):Int),(((L-j:Nat)):Int))) (n:=L) (fun j hj=>?_) ?_
 ·rw[show ((0:Int),(L:Int))=(((nx L ts s/2^(L-0):Nat):Int),(((L-0:Nat)):Int)) by rw[Nat.sub_zero,Nat.div_eq_of_lt hx];rfl,hrun]
  rfl
 ·dsimp only[kL]
  obtain⟨k,hk⟩:∃ k,L-j=k+1:=⟨L-j-1,by omega⟩
  rw[show L-(j+1)=k by omega,hk,if_pos (by simp;omega),aW]
  have hg:(btl L ts s (L+1))[k+1]?=some ((bt L ts s (k+1):Nat):Int):=by
   unfold btl
   rw[List.getElem?_map,List.getElem?_range (by omega)]
   rfl
  rw[hg,Option.bind_some]
  have hwin:=window hr h0 hs k 1 (by omega)
  have hstt:stt L ts s 1=nx L ts s:=rfl
  rw[hstt,Nat.add_comm 1 k] at hwin
  have hd:nx L ts s/2^k=2*(nx L ts s/2^(k+1))+bt L ts s (k+1):=by
   rw[← hwin,Nat.pow_succ,← Nat.div_div_eq_div_mul]
   omega
  have hb:=Nat.div_le_self (nx L ts s) (2^k)
  rw[w64 (x:=2*((nx L ts s/2^(k+1):Nat):Int)) (by omega),w64 (x:=2*((nx L ts s/2^(k+1):Nat):Int)+((bt L ts s (k+1):Nat):Int)) (by omega),w64 (x:=((k+1:Nat):Int)-1) (by omega),hd]
  congr 3
  omega
 ·dsimp only[kL]
  rw[if_neg (by simp),Nat.sub_self,Nat.pow_zero,Nat.div_one]
theorem Jf(hr:Reg L ts)(h0:0<s)(hs:s<2^L){n:Nat}(hp:uM L ts s n)(hn:n≤2^L-1):nJ L (ints ts) s=some (n:Int):=by
 obtain⟨⟨h1,h2⟩,h3⟩:=hp
 have h8:=hr.most
 have hL:2^L≤2^8:=Nat.pow_le_pow_right (by omega) h8
 unfold nJ
 rw[Dk hr h0 hs,Option.bind_some]
 obtain⟨m,rfl⟩:∃ m,n=m+1:=⟨n-1,by omega⟩
 have hrun:=cT (step:=iN L (ints ts) s) (e:=((m+1:Nat):Int)) (fun k=>(((k+1:Nat):Int),((stt L ts s (k+1):Nat):Int))) (n:=m) (fun k hk=>?_) ?_
 ·rw[show ((1:Int),((nx L ts s:Nat):Int))=(((0+1:Nat):Int),((stt L ts s (0+1):Nat):Int)) from rfl,hrun]
  rfl
 ·dsimp only[iN]
  have:=h3 (k+1) (by omega)
  obtain⟨a,b⟩:=jJ hr h0 hs (k+1)
  rw[if_pos (by simp only[decide_eq_true_eq];intro e;exact this ⟨by omega,by omega⟩),Dk hr a b,Option.bind_some,w64 (by omega)]
  congr 3
 ·dsimp only[iN]
  rw[h2,if_neg (by simp)]
end
end Go.Rex
namespace Go.Rex
section
variable {L:Nat} {ts:List Nat} {s:Nat}
end
end Go.Rex
namespace Go.Rex
theorem Np{L:Nat}{l:List Int}(s:Int)(hl:l.length≤12)(h:chk L l=0)(hL:L≤8):gU L l s=some (if 1≤s∧s≤((2^L-1:Nat):Int) then 0 else 2):=by
 unfold gU
 rw[Su _ _ hl,h,Option.bind_some,if_neg (by simp),Jo hL,Option.bind_some,Aw,Option.bind_some]
 by_cases q:1≤s∧s≤((2^L-1:Nat):Int)
 ·rw[if_pos (by simpa using q),if_pos q]
 ·rw[if_neg (by simpa using q),if_neg q]
theorem uX{L:Nat}(l:List Int)(s:Int)(hL:L≤8):aR s L l=some (if 1≤s∧s≤((2^L-1:Nat):Int) then 0 else 2):=by
 unfold aR
 rw[tA hL,Option.bind_some,qD,Option.bind_some]
 dsimp only
 rw[lC,Option.bind_some]
 by_cases q:1≤s∧s≤((2^L-1:Nat):Int)
 ·rw[if_pos q,show decide (1≤s∧s≤((2^L-1:Nat):Int))=true by simpa using q];rfl
 ·rw[if_neg q,show decide (1≤s∧s≤((2^L-1:Nat):Int))=false by simpa using q];rfl
end Go.Rex
namespace Go.Rex
open Go Go.Rex
set_option maxRecDepth 100000
def fo(w:List (Int×Int))(N:Nat):Nat→List (Int×Int)
 | 0=>List.replicate N (0,0)
 | t+1=>(fo w N t).set (t%N) (zadd (at0 (fo w N t) (t%N)) (at0 w t))
theorem xA(w:List (Int×Int))(N:Nat):∀ t,(fo w N t).length=N
 | 0=>by simp[fo]
 | t+1=>by simp[fo,xA w N t]
theorem Rz(w:List (Int×Int))(i:Nat)(z:Int×Int)(k:Nat):at0 (w.set i z) k=if i=k∧k<w.length then z else at0 w k:=by
 unfold at0
 rw[List.getD_eq_getElem?_getD,List.getElem?_set,List.getD_eq_getElem?_getD]
 by_cases q:i=k
 ·subst q
  by_cases h:i<w.length
  ·rw[if_pos rfl,if_pos h,if_pos ⟨rfl,h⟩];rfl
  ·rw[if_pos rfl,if_neg h,if_neg (fun x=>h x.2),List.getElem?_eq_none (by omega)]
 ·rw[if_neg q,if_neg (fun x=>q x.1)]
theorem aBf{w:List (Int×Int)}(hw:∀ z∈w,small z)(N:Nat):∀ t k:Nat,zle (t*16777216) (at0 (fo w N t) k)
 | 0,k=>by
  unfold fo at0
  rw[List.getD_eq_getElem?_getD,List.getElem?_replicate]
  split<;>simp[zle]
 | t+1,k=>by
  have ih:=aBf hw N t
  simp only[fo]
  rw[Rz]
  have e:((t+1:Nat):Int)*16777216=t*16777216+16777216:=by omega
  rw[e]
  split
  ·have h1:=ih (t%N)
   have h2:=oB hw t
   unfold zle zadd at *
   unfold small at h2
   simp only
   omega
  ·have h1:=ih k
   unfold zle at *
   omega
def fold(w:List (Int×Int))(N:Nat):List (Int×Int):=fo w N w.length
theorem Yt{w:List (Int×Int)}(hw:∀ z∈w,small z)(lw:w.length≤1024){N:Nat}(hN:1≤N∧N≤1024):jK w (N:Int)=some (fold w N):=by
 have step:∀ t:Nat,t<w.length→eB w (N:Int) (fo w N t,(t:Int))=some (.inl (fo w N (t+1),((t+1:Nat):Int))):=by
  intro t ht
  have hlt:t%N<(fo w N t).length:=by rw[xA];exact Nat.mod_lt _ (by omega)
  have e1:(t:Int).tmod (N:Int)=((t%N:Nat):Int):=by rw[Int.tmod_eq_emod_of_nonneg (by omega)];exact (Int.natCast_emod t N).symm
  have b1:=aBf hw N t (t%N)
  have b2:=oB hw t
  have hb:(t:Int)*16777216≤1024*16777216:=Int.mul_le_mul_of_nonneg_right (by omega) (by decide)
  unfold zle at b1
  unfold small at b2
  have g1:=iB hlt
  have g2:=iB ht
  unfold eB cY
  simp only
  rw[if_pos (by rw[decide_eq_true_eq];omega),aW,g2]
  simp only[Option.bind_some]
  rw[if_neg (by omega),e1,aW,g1]
  simp only[Option.bind_some]
  rw[w64 (by omega),w64 (by omega),wsucc (n:=1024) (by omega) (by decide)]
  rfl
 have hmk:mkI 16 (N:Int) ((0,0):Int×Int)=some (fo w N 0):=by
  unfold mkI
  rw[if_pos (by omega)]
  rfl
 have key:=lU (step:=eB w (N:Int)) (st:=fun t (_:Unit)=>(fo w N t,(t:Int))) (g:=fun _ x=>x) (fin:=fun _=>fold w N) w.length (fun _ _=>True) (b0:=()) trivial
  (fun t _ ht _=>⟨(step t ht),trivial⟩) (fun _ _=>by
   unfold eB
   simp only
   rw[if_neg (by rw[decide_eq_true_eq];omega)]
   rfl)
 have k1:=key.1
 simp only[Int.natCast_zero] at k1
 unfold jK
 rw[hmk]
 simp only[Option.bind_some]
 rw[k1]
 rfl
theorem Hb(x:Option (List (Nat×Nat)×Int)):(x.bind fun (a,b)=>some (a,b))=x:=by cases x<;>rfl
def zstr(z:Int×Int)(s:Int):Int×Int:=(z.1*s,z.2*s)
def nL(s:Int):Prop:=s=1∨s = -1
def atS(S:List Int)(k:Nat):Int:=S.getD k 0
theorem Cv{S:List Int}{k:Nat}(hk:k<S.length):S[k]?=some (atS S k):=by
 unfold atS
 rw[List.getD_eq_getElem?_getD,List.getElem?_eq_getElem hk]
 rfl
def wgT(W:List (Int×Int))(S:List Int)(n k:Nat):Int×Int:=zstr (at0 W k) (atS S ((n+S.length-k)%S.length))
def wgS(W:List (Int×Int))(S:List Int)(n j:Nat):Int×Int:=zsum (wgT W S n) j
def wgL(W:List (Int×Int))(S:List Int)(n j:Nat):List (Int×Int):=(List.range S.length).map fun i=>if i<n then wgS W S i S.length else if i=n then wgS W S n j else (0,0)
section
variable {W:List (Int×Int)} {S:List Int}
theorem Cr{z:Int×Int}{s B:Int}(hz:zle B z)(hs:nL s):zle B (zstr z s):=by
 unfold zle zstr at *
 rcases hs with rfl|rfl<;>simp only[Int.mul_one,Int.mul_neg]<;>omega
theorem rX{z:Int×Int}(h:small z):zle 16777216 z:=h
theorem aBJ(hW:∀ z∈W,small z)(hS:∀ k,k<S.length→nL (atS S k))(h0:0<S.length)(n:Nat){j:Nat}(hj:j≤1024):zle 17179869184 (wgS W S n j):=by
 have h:=Mh (f:=wgT W S n) (B:=16777216) (n:=j) (fun k _=>Cr (rX (oB hW k)) (hS _ (Nat.mod_lt _ h0)))
 have h2:(j:Int)*16777216≤1024*16777216:=Int.mul_le_mul_of_nonneg_right (by omega) (by decide)
 unfold wgS
 unfold zle at *
 omega
theorem zQ(n j:Nat):(wgL W S n j).length=S.length:=by unfold wgL;simp
theorem Ef(n j:Nat){i:Nat}(hi:i<S.length):(wgL W S n j)[i]?=some (if i<n then wgS W S i S.length else if i=n then wgS W S n j else (0,0)):=by
 unfold wgL
 rw[List.getElem?_map,List.getElem?_range hi]
 rfl
theorem aAA{n:Nat}(j:Nat)(hn:n<S.length):(wgL W S n j).set n (wgS W S n (j+1))=wgL W S n (j+1):=by
 apply List.ext_getElem?
 intro i
 rw[List.getElem?_set,zQ]
 by_cases hi:i<S.length
 ·rw[Ef n (j+1) hi]
  by_cases q:n=i
  ·subst q
   rw[if_pos rfl,if_pos hi,if_neg (by omega),if_pos rfl]
  ·rw[if_neg q,Ef n j hi]
   by_cases c:i<n
   ·rw[if_pos c,if_pos c]
   ·rw[if_neg c,if_neg c,if_neg (fun h=>q h.symm),if_neg (fun h=>q h.symm)]
 ·have hn2:∀ j,(wgL W S n j)[i]?=none:=fun j=>List.getElem?_eq_none (by rw[zQ];omega)
  rw[hn2,hn2,if_neg (by omega)]
theorem Xi(n:Nat):wgL W S n S.length=wgL W S (n+1) 0:=by
 unfold wgL
 apply List.map_congr_left
 intro i _
 by_cases c:i<n
 ·rw[if_pos c,if_pos (by omega)]
 ·rw[if_neg c]
  by_cases q:i=n
  ·rw[if_pos q,if_pos (by omega),q]
  ·rw[if_neg q,if_neg (by omega)]
   by_cases q2:i=n+1
   ·rw[if_pos q2];rfl
   ·rw[if_neg q2]
theorem Wt:wgL W S 0 0=List.replicate S.length (0,0):=by
 apply List.ext_getElem?
 intro i
 by_cases hi:i<S.length
 ·rw[Ef 0 0 hi,List.getElem?_replicate,if_pos hi,if_neg (by omega)]
  by_cases q:i=0
  ·rw[if_pos q];rfl
  ·rw[if_neg q]
 ·rw[List.getElem?_eq_none (by rw[zQ];omega),List.getElem?_eq_none (by simp;omega)]
theorem mods{n k N:Nat}(hn:n<N)(hk:k<N)(hN:N≤1024):eH (IntKind.i64.wrap ((n:Int)-k)) (N:Int)=some (((n+N-k)%N:Nat):Int):=by
 rw[w64 (x:=(n:Int)-k) (by omega)]
 by_cases q:k≤n
 ·have e:(n+N-k)%N=n-k:=by rw[show n+N-k=(n-k)+N by omega,Nat.add_mod_right,Nat.mod_eq_of_lt (by omega)]
  have t1:((n:Int)-k).tmod N=(n:Int)-k:=by rw[Int.tmod_eq_emod_of_nonneg (by omega),Int.emod_eq_of_lt (by omega) (by omega)]
  rw[e]
  unfold eH
  rw[if_neg (by omega),t1,w64 (by omega),Int.tmod_eq_emod_of_nonneg (by omega),Int.add_emod_right,Int.emod_eq_of_lt (by omega) (by omega)]
  congr 1
  omega
 ·have e:(n+N-k)%N=n+N-k:=Nat.mod_eq_of_lt (by omega)
  have t1:((n:Int)-k).tmod N=(n:Int)-k:=by
   have:((n:Int)-k) = -((k:Int)-n):=by omega
   rw[this,Int.neg_tmod,Int.tmod_eq_emod_of_nonneg (by omega),Int.emod_eq_of_lt (by omega) (by omega)]
  rw[e]
  unfold eH
  rw[if_neg (by omega),t1,w64 (by omega),Int.tmod_eq_emod_of_nonneg (by omega),Int.emod_eq_of_lt (by omega) (by omega)]
  congr 1
  omega
theorem Vw{z:Int×Int}{s:Int}(hz:small z)(hs:nL s):IntKind.i64.wrap (z.1*s)=(zstr z s).1∧IntKind.i64.wrap (z.2*s)=(zstr z s).2:=by
 have h:=Cr (rX hz) hs
 unfold zle at h
 exact⟨w64 (by show _≤(zstr z s).1∧(zstr z s).1≤_;omega),w64 (by show _≤(zstr z s).2∧(zstr z s).2≤_;omega)⟩
theorem Xc(hW:∀ z∈W,small z)(hS:∀ k,k<S.length→nL (atS S k))(lW:W.length=S.length)(lS:0<S.length∧S.length≤1024){n:Nat}(hn:n<S.length) :
 run (bN W S (n:Int)) (wgL W S n 0,0)=some (wgL W S (n+1) 0):=by
 have step:∀ k:Nat,k<S.length→bN W S (n:Int) (wgL W S n k,(k:Int))=some (.inl (wgL W S n (k+1),((k+1:Nat):Int))):=by
  intro k hk
  have hi:(n+S.length-k)%S.length<S.length:=Nat.mod_lt _ lS.1
  have sg:=hS _ hi
  have sW:=oB hW k
  have b1:=aBJ hW hS lS.1 n (j:=k) (by omega)
  have b2:=Cr (rX sW) sg
  obtain⟨s1,s2⟩:=Vw sW sg
  have gW:W[k]?=some (at0 W k):=iB (by omega)
  have gL:(wgL W S n k)[n]?=some (wgS W S n k):=by rw[Ef n k hn,if_neg (by omega),if_pos rfl]
  have m1:=mods hn hk lS.2
  have nx:=aAA (W:=W) k hn
  have e:wgS W S n (k+1)=zadd (wgS W S n k) (zstr (at0 W k) (atS S ((n+S.length-k)%S.length))):=rfl
  have w1:IntKind.i64.wrap ((wgS W S n k).1+(zstr (at0 W k) (atS S ((n+S.length-k)%S.length))).1)=(wgS W S n (k+1)).1:=by
   rw[e];unfold zle at b1 b2;exact w64 (by omega)
  have w2:IntKind.i64.wrap ((wgS W S n k).2+(zstr (at0 W k) (atS S ((n+S.length-k)%S.length))).2)=(wgS W S n (k+1)).2:=by
   rw[e];unfold zle at b1 b2;exact w64 (by omega)
  unfold bN hU bB cU cY
  try simp only
  rw[if_pos (by rw[decide_eq_true_eq];omega),aW,gW,Option.bind_some]
  try simp only
  rw[aW,gL,Option.bind_some,m1,Option.bind_some,aW,Cv hi,Option.bind_some,Option.bind_some,Option.bind_some,Option.bind_some]
  try simp only
  rw[s1,s2,w1,w2,wsucc (n:=1024) (by omega) (by decide),show ((n:Int)).toNat=n by omega]
  rw[← nx]
  try rfl
 have key:=lU (step:=bN W S (n:Int)) (st:=fun j (_:Unit)=>(wgL W S n j,(j:Int))) (g:=fun _ x=>x) (fin:=fun _=>wgL W S (n+1) 0) S.length (fun _ _=>True) (b0:=()) trivial
  (fun j _ hj _=>⟨(step j hj),trivial⟩) (fun _ _=>by
   unfold bN
   simp only
   rw[if_neg (by rw[decide_eq_true_eq];omega),Xi])
 exact key.1
def wgh(W:List (Int×Int))(S:List Int):List (Int×Int):=wgL W S S.length 0
theorem Ul(hW:∀ z∈W,small z)(hS:∀ k,k<S.length→nL (atS S k))(lW:W.length=S.length)(lS:0<S.length∧S.length≤1024):fD W S=some (wgh W S):=by
 have lz:(wgL W S 0 0).length=S.length:=zQ 0 0
 have key:=lU (step:=dD W S (wgL W S 0 0)) (st:=fun n (_:Unit)=>(wgL W S n 0,(n:Int))) (g:=fun _ x=>x) (fin:=fun _=>wgh W S) S.length (fun _ _=>True) (b0:=()) trivial
  (fun n _ hn _=>⟨by
   unfold dD
   simp only
   rw[if_pos (by rw[decide_eq_true_eq];omega),(Xc hW hS lW lS hn),Option.bind_some,wsucc (n:=1024) (by omega) (by decide)],trivial⟩) (fun _ _=>by
   unfold dD
   simp only
   rw[if_neg (by rw[decide_eq_true_eq];omega)]
   rfl)
 have k1:=key.1
 simp only[Int.natCast_zero] at k1
 unfold fD mkI
 rw[if_pos (by omega),Option.bind_some,show ((W.length:Int)).toNat=S.length by omega,← Wt (W:=W),k1,Option.bind_some]
theorem xX:(wgh W S).length=S.length:=zQ _ _
theorem aAb{n:Nat}(hn:n<S.length):at0 (wgh W S) n=wgS W S n S.length:=by
 have h1:=iB (w:=wgh W S) (k:=n) (by rw[xX];exact hn)
 unfold wgh at h1
 rw[Ef _ _ hn,if_pos hn] at h1
 exact (Option.some.inj h1).symm
end
end Go.Rex
namespace Go.Rex
open Go Go.Rex
set_option maxRecDepth 100000
def crT(W:List (Int×Int))(S:List Int)(k t:Nat):Int×Int:=zstr (at0 W t) (atS S ((t+S.length-k)%S.length))
def crS(W:List (Int×Int))(S:List Int)(k j:Nat):Int×Int:=zsum (crT W S k) j
def cor(W:List (Int×Int))(S:List Int):List (Int×Int):=(List.range S.length).map fun k=>zsub (crS W S k S.length) (zsum (at0 W) S.length)
def coT(W:List (Int×Int))(S:List Int)(n t:Nat):Int×Int:=zstr (at0 W t) (atS S ((t+S.length-n)%S.length)-1)
def coL(W:List (Int×Int))(S:List Int)(n j:Nat):List (Int×Int):=(List.range S.length).map fun i=>if i<n then zsum (coT W S i) S.length else if i=n then zsum (coT W S n) j else (0,0)
section
variable {W:List (Int×Int)} {S:List Int}
theorem Ct(n:Nat):∀ j:Nat,zsum (coT W S n) j=zsub (crS W S n j) (zsum (at0 W) j)
 | 0=>by simp[zsum,crS,zsub]
 | j+1=>by
  have ih:=Ct n j
  have e:coT W S n j=zsub (crT W S n j) (at0 W j):=by
   unfold coT crT zstr zsub
   simp only[Int.mul_sub,Int.mul_one]
  unfold crS at *
  simp only[zsum]
  rw[ih,e]
  unfold zadd zsub
  simp only[Prod.mk.injEq]
  omega
theorem Zj(hW:∀ z∈W,small z)(hS:∀ k,k<S.length→nL (atS S k))(h0:0<S.length)(n:Nat){j:Nat}(hj:j≤1024):zle 17179869184 (crS W S n j):=by
 have h:=Mh (f:=crT W S n) (B:=16777216) (n:=j) (fun k _=>Cr (rX (oB hW k)) (hS _ (Nat.mod_lt _ h0)))
 have h2:(j:Int)*16777216≤1024*16777216:=Int.mul_le_mul_of_nonneg_right (by omega) (by decide)
 unfold crS
 unfold zle at *
 omega
theorem Xn(hW:∀ z∈W,small z){j:Nat}(hj:j≤1024):zle 17179869184 (zsum (at0 W) j):=by
 have h:=Mh (f:=at0 W) (B:=16777216) (n:=j) (fun k _=>rX (oB hW k))
 have h2:(j:Int)*16777216≤1024*16777216:=Int.mul_le_mul_of_nonneg_right (by omega) (by decide)
 unfold zle at *
 omega
theorem aBZ(hW:∀ z∈W,small z)(hS:∀ k,k<S.length→nL (atS S k))(h0:0<S.length)(n:Nat){j:Nat}(hj:j≤1024):zle 34359738368 (zsum (coT W S n) j):=by
 rw[Ct]
 have h1:=Zj hW hS h0 n hj
 have h2:=Xn hW hj
 unfold zsub
 unfold zle at *
 omega
theorem Cm(n j:Nat):(coL W S n j).length=S.length:=by unfold coL;simp
theorem Lg(n j:Nat){i:Nat}(hi:i<S.length):(coL W S n j)[i]?=some (if i<n then zsum (coT W S i) S.length else if i=n then zsum (coT W S n) j else (0,0)):=by
 unfold coL
 rw[List.getElem?_map,List.getElem?_range hi]
 rfl
theorem aAR{n:Nat}(j:Nat)(hn:n<S.length):(coL W S n j).set n (zsum (coT W S n) (j+1))=coL W S n (j+1):=by
 apply List.ext_getElem?
 intro i
 rw[List.getElem?_set,Cm]
 by_cases hi:i<S.length
 ·rw[Lg n (j+1) hi]
  by_cases q:n=i
  ·subst q
   rw[if_pos rfl,if_pos hi,if_neg (by omega),if_pos rfl]
  ·rw[if_neg q,Lg n j hi]
   by_cases c:i<n
   ·rw[if_pos c,if_pos c]
   ·rw[if_neg c,if_neg c,if_neg (fun h=>q h.symm),if_neg (fun h=>q h.symm)]
 ·have hn2:∀ j,(coL W S n j)[i]?=none:=fun j=>List.getElem?_eq_none (by rw[Cm];omega)
  rw[hn2,hn2,if_neg (by omega)]
theorem aAg(n:Nat):coL W S n S.length=coL W S (n+1) 0:=by
 unfold coL
 apply List.map_congr_left
 intro i _
 by_cases c:i<n
 ·rw[if_pos c,if_pos (by omega)]
 ·rw[if_neg c]
  by_cases q:i=n
  ·rw[if_pos q,if_pos (by omega),q]
  ·rw[if_neg q,if_neg (by omega)]
   by_cases q2:i=n+1
   ·rw[if_pos q2];rfl
   ·rw[if_neg q2]
theorem aAe:coL W S 0 0=List.replicate S.length (0,0):=by
 apply List.ext_getElem?
 intro i
 by_cases hi:i<S.length
 ·rw[Lg 0 0 hi,List.getElem?_replicate,if_pos hi,if_neg (by omega)]
  by_cases q:i=0
  ·rw[if_pos q];rfl
  ·rw[if_neg q]
 ·rw[List.getElem?_eq_none (by rw[Cm];omega),List.getElem?_eq_none (by simp;omega)]
theorem aAB:coL W S S.length 0=cor W S:=by
 unfold coL cor
 apply List.map_congr_left
 intro i hi
 rw[List.mem_range] at hi
 rw[if_pos hi,Ct]
theorem str2{z:Int×Int}{s:Int}(hz:small z)(hs:nL s):zle 33554432 (zstr z (s-1))∧IntKind.i64.wrap (s-1)=s-1:=by
 unfold small at hz
 unfold zle zstr
 rcases hs with rfl|rfl
 ·rw[show (1:Int)-1=0 from rfl]
  exact⟨by simp only[Int.mul_zero];omega,by decide⟩
 ·rw[show (-1:Int)-1 = -2 from rfl]
  exact⟨by simp only;omega,by decide⟩
theorem aAX(hW:∀ z∈W,small z)(hS:∀ k,k<S.length→nL (atS S k))(lW:W.length=S.length)(lS:0<S.length∧S.length≤1024){n:Nat}(hn:n<S.length) :
 run (bL W S (n:Int)) (coL W S n 0,0)=some (coL W S (n+1) 0):=by
 have step:∀ k:Nat,k<S.length→bL W S (n:Int) (coL W S n k,(k:Int))=some (.inl (coL W S n (k+1),((k+1:Nat):Int))):=by
  intro k hk
  have hi:(k+S.length-n)%S.length<S.length:=Nat.mod_lt _ lS.1
  have sg:=hS _ hi
  have sW:=oB hW k
  have b1:=aBZ hW hS lS.1 n (j:=k) (by omega)
  obtain⟨b2,t1⟩:=str2 sW sg
  have gW:W[k]?=some (at0 W k):=iB (by omega)
  have gL:(coL W S n k)[n]?=some (zsum (coT W S n) k):=by rw[Lg n k hn,if_neg (by omega),if_pos rfl]
  have m1:=mods hk hn lS.2
  have nx:=aAR (W:=W) k hn
  have e:zsum (coT W S n) (k+1)=zadd (zsum (coT W S n) k) (zstr (at0 W k) (atS S ((k+S.length-n)%S.length)-1)):=rfl
  have c2:eG (n:Int) (k:Int) S=some (atS S ((k+S.length-n)%S.length)-1):=by
   unfold eG bB
   rw[m1,Option.bind_some,aW,Cv hi,Option.bind_some,Option.bind_some,t1]
  generalize atS S ((k+S.length-n)%S.length)-1=s at *
  have s1:IntKind.i64.wrap ((at0 W k).1*s)=(zstr (at0 W k) s).1:=by unfold zle at b2;exact w64 (by show _≤(zstr (at0 W k) s).1∧(zstr (at0 W k) s).1≤_;omega)
  have s2:IntKind.i64.wrap ((at0 W k).2*s)=(zstr (at0 W k) s).2:=by unfold zle at b2;exact w64 (by show _≤(zstr (at0 W k) s).2∧(zstr (at0 W k) s).2≤_;omega)
  have w1:IntKind.i64.wrap ((zsum (coT W S n) k).1+(zstr (at0 W k) s).1)=(zsum (coT W S n) (k+1)).1:=by
   rw[e];unfold zle at b1 b2;exact w64 (by omega)
  have w2:IntKind.i64.wrap ((zsum (coT W S n) k).2+(zstr (at0 W k) s).2)=(zsum (coT W S n) (k+1)).2:=by
   rw[e];unfold zle at b1 b2;exact w64 (by omega)
  unfold bL cU cY
  try simp only
  rw[if_pos (by rw[decide_eq_true_eq];omega),aW,gW,Option.bind_some]
  try simp only
  rw[aW,gL,Option.bind_some,c2,Option.bind_some,Option.bind_some,Option.bind_some]
  try simp only
  rw[s1,s2,w1,w2,wsucc (n:=1024) (by omega) (by decide),show ((n:Int)).toNat=n by omega]
  rw[← nx]
  try rfl
 have key := lU (step := bL W S (n : Int)) (st := fun j (_ : Unit) => (coL W S n j, (j : Int))) (g := fun _ x => x) (fin := fun _ => coL W S (n + 1) 0) S.length (fun _ _ => True) (b0 := ()) trivial
     (fun j _ hj _=>⟨step j hj,trivial⟩) (fun _ _=>by
      unfold bL
      simp only
      rw[if_neg (by rw[decide_eq_true_eq];omega),aAg])
 exact key.1
theorem aAo(hW:∀ z∈W,small z)(hS:∀ k,k<S.length→nL (atS S k))(lW:W.length=S.length)(lS:0<S.length∧S.length≤1024):eZ W S=some (cor W S):=by
 have lz:(coL W S 0 0).length=S.length:=Cm 0 0
 have key := lU (step := dF W S (coL W S 0 0)) (st := fun n (_ : Unit) => (coL W S n 0, (n : Int))) (g := fun _ x => x) (fin := fun _ => cor W S) S.length (fun _ _ => True) (b0 := ()) trivial
     (fun n _ hn _=>⟨by
      unfold dF
      simp only
      rw[if_pos (by rw[decide_eq_true_eq];omega),aAX hW hS lW lS hn,Option.bind_some,wsucc (n:=1024) (by omega) (by decide)],trivial⟩) (fun _ _=>by
      unfold dF
      simp only
      rw[if_neg (by rw[decide_eq_true_eq];omega),aAB])
 have k1:=key.1
 simp only[Int.natCast_zero] at k1
 unfold eZ mkI
 rw[if_pos (by omega),Option.bind_some,show ((W.length:Int)).toNat=S.length by omega,← aAe (W:=W),k1,Option.bind_some]
end
end Go.Rex
namespace Go.Rex
open Go Go.Rex
set_option maxRecDepth 100000
def even2(M:Int)(z:Int×Int):Prop:=z.1.tmod M=0∧z.2.tmod M=0
instance (M:Int) (z:Int×Int):Decidable (even2 M z):=by unfold even2;exact inferInstance
def qtZ(M:Int)(z:Int×Int):Int×Int:=(z.1.tdiv M,z.2.tdiv M)
def dvf{ε:Type}(M:Int)(e:ε)(b:List (Int×Int))(z:Int×Int):List (Int×Int) ⊕ ε:=if even2 M z then .inl (b++[qtZ M z]) else .inr e
theorem Tq{ε:Type}{M:Int}(e:ε)(b:List (Int×Int)){z:Int×Int}(h:even2 M z):dvf M e b z = .inl (b++[qtZ M z]):=if_pos h
theorem Qb{ε:Type}{M:Int}(e:ε)(b:List (Int×Int)){z:Int×Int}(h:¬ even2 M z):dvf M e b z = .inr e:=if_neg h
theorem Sy{ε:Type}(M:Int)(e:ε)(fin:List (Int×Int)→ε):∀(l b:List (Int×Int)),walk (dvf M e) fin b l=if ∀ z∈l,even2 M z then fin (b++l.map (qtZ M)) else e
 | [],b=>by simp[walk]
 | z::l,b=>by
  simp only[walk]
  by_cases h:even2 M z
  ·rw[Tq _ _ h]
   simp only
   rw[Sy M e fin l]
   by_cases h2:∀ z∈l,even2 M z
   ·rw[if_pos h2,if_pos (by intro y hy;rcases List.mem_cons.1 hy with rfl|hy;exact h;exact h2 y hy)]
    simp
   ·rw[if_neg h2,if_neg (fun h3=>h2 fun y hy=>h3 y (List.mem_cons_of_mem _ hy))]
  ·rw[Qb _ _ h,if_neg (fun h3=>h (h3 z List.mem_cons_self))]
theorem Cw{x:Int}{M:Nat}{B:Int}(hx:-B≤x∧x≤B)(hM:1≤M):-B≤x.tdiv M∧x.tdiv M≤B:=by
 have h:=Int.natAbs_tdiv_le_natAbs x (M:Int)
 omega
theorem Wu{w:List (Int×Int)}{M:Nat}(hM:1≤M)(lw:w.length≤1024)(hw:∀ z∈w,zle 34359738368 z):kF w (M:Int)=some (if ∀ z∈w,even2 M z then (w.map (qtZ M),true) else ([],false)):=by
 have key:=xW (step:=gH w (M:Int)) (fun k b=>(b,(k:Int))) (dvf (M:Int) (.inl ():Unit ⊕ List (Int×Int))) (fun b=>.inr b) (fun k b=>b.length=k) w
  (fun k z b hz hb=>by
   have hk:=(List.getElem?_eq_some_iff.1 hz).1
   have bz:=hw z (List.mem_iff_getElem?.2 ⟨k,hz⟩)
   unfold zle at bz
   have d1:=Cw bz.1 hM
   have d2:=Cw bz.2 hM
   unfold gH
   simp only
   rw[if_pos (by rw[decide_eq_true_eq];omega),aW,hz,Option.bind_some]
   try simp only
   rw[if_neg (by omega)]
   by_cases h1:z.1.tmod M=0
   ·rw[if_neg (by simpa using h1)]
    by_cases h2:z.2.tmod M=0
    ·rw[if_neg (by simpa using h2),Tq _ _ ⟨h1,h2⟩]
     unfold nB
     rw[if_pos (by simp;omega),Option.bind_some,w64 (by omega),w64 (by omega),wsucc (n:=1024) (by omega) (by decide)]
     refine⟨rfl,fun b' hb'=>?_⟩
     have:=Sum.inl.inj hb'
     subst this
     simp[hb]
    ·rw[if_pos (by simpa using h2),Qb _ _ (fun h=>h2 h.2)]
     exact⟨rfl,fun b' hb'=>by cases hb'⟩
   ·rw[if_pos (by simpa using h1),Qb _ _ (fun h=>h1 h.1)]
    exact⟨rfl,fun b' hb'=>by cases hb'⟩)
  (fun b hb=>by
   unfold gH
   simp only
   rw[if_neg (by rw[decide_eq_true_eq];omega)]) (b0:=[]) rfl
 rw[Sy] at key
 simp only[Int.natCast_zero,List.nil_append] at key
 unfold kF
 rw[key,Option.bind_some]
 by_cases h:∀ z∈w,even2 M z
 ·rw[if_pos h,if_pos h]
 ·rw[if_neg h,if_neg h]
section
variable {W:List (Int×Int)} {S:List Int}
theorem oL:(cor W S).length=S.length:=by unfold cor;simp
theorem aCs(hW:∀ z∈W,small z)(hS:∀ k,k<S.length→nL (atS S k))(lS:0<S.length∧S.length≤1024):∀ z∈cor W S,zle 34359738368 z:=by
 intro z hz
 unfold cor at hz
 rw[List.mem_map] at hz
 obtain⟨k,_,rfl⟩:=hz
 have h1:=Zj hW hS lS.1 k (j:=S.length) lS.2
 have h2:=Xn hW (j:=S.length) lS.2
 unfold zsub
 unfold zle at *
 omega
theorem Yc{k:Nat}{z:Int×Int}(h:(cor W S)[k]?=some z):k<S.length∧z=zsub (crS W S k S.length) (zsum (at0 W) S.length):=by
 have hk:=(List.getElem?_eq_some_iff.1 h).1
 rw[oL] at hk
 unfold cor at h
 rw[List.getElem?_map,List.getElem?_range hk] at h
 exact⟨hk,(Option.some.inj h).symm⟩
end
end Go.Rex
namespace Go.Rex
theorem Lw(x y:Nat):(x ^^^ y)%2=(x%2+y%2)%2:=by
 have:=Nat.xor_mod_two_pow (a:=x) (b:=y) (n:=1)
 rw[show (2:Nat)^1=2 from rfl] at this
 rw[this]
 rcases (show x%2=0∨x%2=1 by omega) with h|h<;>rcases (show y%2=0∨y%2=1 by omega) with h'|h'<;>rw[h,h']<;>rfl
theorem Ub(x y k:Nat):(x ^^^ y)/2^k%2=(x/2^k%2+y/2^k%2)%2:=by
 rw[Nat.xor_div_two_pow,Lw]
theorem Mr(L x y:Nat):∀(ts:List Nat) (a b:Nat),ts.foldl (fun a t=>(a+(x ^^^ y)/2^(L-t)%2)%2) ((a+b)%2) =
 (ts.foldl (fun a t=>(a+x/2^(L-t)%2)%2) a+ts.foldl (fun a t=>(a+y/2^(L-t)%2)%2) b)%2
 | [],a,b=>rfl
 | t::ts,a,b=>by
  simp only[List.foldl_cons]
  rw[← Mr L x y ts,Ub]
  congr 1
  omega
theorem Vz(L x y:Nat)(ts:List Nat):fbit L (x ^^^ y) ts=(fbit L x ts+fbit L y ts)%2:=Mr L x y ts 0 0
section
variable {L:Nat} {ts:List Nat}
theorem aBw(hL:1≤L){x y:Nat}(hx:x<2^L)(hy:y<2^L):nx L ts (x ^^^ y)=nx L ts x ^^^ nx L ts y:=by
 have hp:=rW hL
 have h2:=Nat.two_pow_pos (L-1)
 have e1:∀ z,z<2^L→nx L ts z%2^(L-1)=z/2∧nx L ts z/2^(L-1)=fbit L z ts:=fun z hz=>by
  unfold nx
  have h1:z/2<2^(L-1):=by omega
  rw[Nat.add_mul_mod_self_right,Nat.mod_eq_of_lt h1,Nat.add_mul_div_right _ _ h2,Nat.div_eq_of_lt h1,Nat.zero_add]
  exact⟨rfl,rfl⟩
 obtain⟨a1,a2⟩:=e1 x hx
 obtain⟨b1,b2⟩:=e1 y hy
 have m1:(nx L ts x ^^^ nx L ts y)%2^(L-1)=(x ^^^ y)/2:=by
  rw[Nat.xor_mod_two_pow,a1,b1,Nat.xor_div_two]
 have m2:(nx L ts x ^^^ nx L ts y)/2^(L-1)=fbit L (x ^^^ y) ts:=by
  rw[Nat.xor_div_two_pow,a2,b2,Vz]
  have f1:=oM L x ts
  have f2:=oM L y ts
  rcases (show fbit L x ts=0∨fbit L x ts=1 by omega) with h|h<;>rcases (show fbit L y ts=0∨fbit L y ts=1 by omega) with h'|h'<;>rw[h,h']<;>rfl
 rw[← Nat.div_add_mod (nx L ts x ^^^ nx L ts y) (2^(L-1)),m1,m2]
 unfold nx
 rw[Nat.add_comm,Nat.mul_comm]
theorem Sm(hr:Reg L ts){x y:Nat}(hx:0<x∧x<2^L)(hy:0<y∧y<2^L):∀ t,stt L ts (x ^^^ y) t=stt L ts x t ^^^ stt L ts y t
 | 0=>rfl
 | t+1=>by
  show nx L ts _=nx L ts _ ^^^ nx L ts _
  rw[Sm hr hx hy t,aBw (by have:=hr.two;omega) (jJ hr hx.1 hx.2 t).2 (jJ hr hy.1 hy.2 t).2]
theorem Mb(hr:Reg L ts){s:Nat}(h0:0<s)(hs:s<2^L):∀(i k:Nat),stt L ts s i=stt L ts s (i+k)→s=stt L ts s k:=by
 intro i
 induction i with
 | zero=>intro k h;simpa [stt] using h
 | succ i ih =>
  intro k h
  rw[show i+1+k=(i+k)+1 by omega] at h
  exact ih k (Qp hr (jJ hr h0 hs i).2 (jJ hr h0 hs (i+k)).2 h)
def Maxi(L:Nat)(ts:List Nat):Prop:=uM L ts 1 (2^L-1)
theorem pL(hr:Reg L ts):1<2^L:=by
 have h1:2^1≤2^L:=Nat.pow_le_pow_right (by omega) (by have:=hr.two;omega)
 omega
theorem Ux(hr:Reg L ts){s n:Nat}(h0:0<s)(hs:s<2^L)(hp:uM L ts s n):((List.range n).map (stt L ts s)).Nodup:=by
 rw[List.nodup_iff_pairwise_ne,List.pairwise_map]
 refine List.Pairwise.imp_of_mem ?_ List.pairwise_lt_range
 intro a b ha hb hlt he
 have hb':=List.mem_range.1 hb
 have:=Mb hr h0 hs a (b-a) (by rw[show a+(b-a)=b by omega];exact he)
 exact hp.2 (b-a) (by omega) ⟨by omega,this.symm⟩
theorem Lx{α:Type}[DecidableEq α]{l m:List α}(hl:l.Nodup)(hs:l⊆m)(hlen:m.length≤l.length):m⊆l:=by
 intro x hx
 apply Classical.byContradiction
 intro hn
 have h1:(x::l).Nodup:=List.nodup_cons.2 ⟨hn,hl⟩
 have h2:(x::l)⊆m:=by
  intro y hy
  rcases List.mem_cons.1 hy with rfl|hy
  ·exact hx
  ·exact hs hy
 have:=h1.length_le_of_subset h2
 simp at this
 omega
theorem Ma(hr:Reg L ts){s:Nat}(h0:0<s)(hs:s<2^L)(hp:uM L ts s (2^L-1)):((List.range (2^L-1)).map (stt L ts s)).Perm ((List.range (2^L-1)).map (· + 1)):=by
 have hnd:=Ux hr h0 hs hp
 have hsub:((List.range (2^L-1)).map (stt L ts s))⊆(List.range (2^L-1)).map (· + 1):=by
  intro x hx
  obtain⟨t,_,rfl⟩:=List.mem_map.1 hx
  obtain⟨a,b⟩:=jJ hr h0 hs t
  exact List.mem_map.2 ⟨stt L ts s t-1,List.mem_range.2 (by omega),by omega⟩
 have hnd2:((List.range (2^L-1)).map (· + 1)).Nodup:=by
  rw[List.nodup_iff_pairwise_ne,List.pairwise_map]
  exact List.Pairwise.imp (fun h=>by omega) List.pairwise_lt_range
 exact (List.perm_ext_iff_of_nodup hnd hnd2).2 fun x=>⟨fun h=>hsub h,fun h=>Lx hnd hsub (by simp) h⟩
theorem zK(hr:Reg L ts)(hm:Maxi L ts){s:Nat}(h0:0<s)(hs:s<2^L):uM L ts s (2^L-1):=by
 have h1:=pL hr
 have hmem:s∈(List.range (2^L-1)).map (stt L ts 1):=(Ma hr (by omega) h1 hm).mem_iff.2 (List.mem_map.2 ⟨s-1,List.mem_range.2 (by omega),by omega⟩)
 obtain⟨k,hk,rfl⟩:=List.mem_map.1 hmem
 refine⟨⟨hm.1.1,?_⟩,fun m hmlt hc=>?_⟩
 ·rw[← tS,Nat.add_comm,tS,hm.1.2]
 ·rw[← tS] at hc
  exact hm.2 m hmlt ⟨hc.1,(Mb hr (by omega) h1 k m hc.2.symm).symm⟩
theorem Ut{L:Nat}(h2:2≤L)(h8:L≤8):(((List.range (2^L-1)).map (· + 1)).map (· % 2)).sum=2^(L-1):=by
 rcases (show L=2∨L=3∨L=4∨L=5∨L=6∨L=7∨L=8 by omega) with rfl|rfl|rfl|rfl|rfl|rfl|rfl<;>decide +kernel
theorem aB3(hr:Reg L ts)(hm:Maxi L ts){s:Nat}(h0:0<s)(hs:s<2^L):((List.range (2^L-1)).map (bt L ts s)).sum=2^(L-1):=by
 have h1:=(Ma hr h0 hs (zK hr hm h0 hs)).map (· % 2)
 have h2:=h1.sum_nat
 rw[Ut hr.two hr.most,List.map_map] at h2
 exact h2
def isum(f:Nat→Int):Nat→Int
 | 0=>0
 | n+1=>isum f n+f n
theorem aG{f g:Nat→Int}:∀ {n:Nat},(∀ k,k<n→f k=g k)→isum f n=isum g n
 | 0,_=>rfl
 | n+1,h=>by unfold isum;rw[aG (fun k hk=>h k (by omega)),h n (by omega)]
theorem He(b:Nat→Nat):∀ n,isum (fun t=>1-2*((b t:Nat):Int)) n=n-2*((((List.range n).map b).sum:Nat):Int)
 | 0=>rfl
 | n+1=>by
  unfold isum
  rw[He b n,List.range_succ,List.map_append,List.sum_append]
  simp
  omega
theorem Hd(hr:Reg L ts)(hm:Maxi L ts){s:Nat}(h0:0<s)(hs:s<2^L):isum (fun t=>1-2*((bt L ts s t:Nat):Int)) (2^L-1) = -1:=by
 have hp:=rW (L:=L) (by have:=hr.two;omega)
 have:=Nat.two_pow_pos (L-1)
 rw[He,aB3 hr hm h0 hs]
 omega
theorem Qy(hr:Reg L ts){s n:Nat}(hp:stt L ts s n=s):∀(q t:Nat),stt L ts s (t+n*q)=stt L ts s t
 | 0,t=>by simp
 | q+1,t=>by
  have h:t+n*(q+1)=n+(t+n*q):=by rw[Nat.mul_add];omega
  rw[h,tS,hp,Qy hr hp q t]
theorem Ui(hr:Reg L ts){s:Nat}(h0:0<s)(hs:s<2^L)(d t:Nat):(1-2*((bt L ts s t:Nat):Int))*(1-2*((bt L ts s (d+t):Nat):Int))=1-2*((bt L ts (s ^^^ stt L ts s d) t:Nat):Int):=by
 have hd:=jJ hr h0 hs d
 have e:bt L ts (s ^^^ stt L ts s d) t=(bt L ts s t+bt L ts s (d+t))%2:=by
  unfold bt
  rw[Sm hr ⟨h0,hs⟩ hd,Lw,tS]
 rw[e]
 have b1:bt L ts s t=0∨bt L ts s t=1:=by unfold bt;omega
 have b2:bt L ts s (d+t)=0∨bt L ts s (d+t)=1:=by unfold bt;omega
 rcases b1 with h|h<;>rcases b2 with h'|h'<;>rw[h,h']<;>rfl
theorem Ee(hr:Reg L ts)(hm:Maxi L ts){s:Nat}(h0:0<s)(hs:s<2^L){d:Nat}(hd:d<2^L-1) :
 isum (fun t=>(1-2*((bt L ts s t:Nat):Int))*(1-2*((bt L ts s (d+t):Nat):Int))) (2^L-1)=if d=0 then ((2^L-1:Nat):Int) else -1:=by
 rw[aG (fun t _=>Ui hr h0 hs d t)]
 split
 ·rename_i h
  subst h
  have:s ^^^ stt L ts s 0=0:=Nat.xor_self s
  rw[this]
  have hz:∀ t,stt L ts 0 t=0:=by
   intro t
   induction t with
   | zero=>rfl
   | succ t ih=>show nx L ts _=0;rw[ih,Sj]
  have:∀ n,isum (fun t=>1-2*((bt L ts 0 t:Nat):Int)) n=n:=by
   intro n
   induction n with
   | zero=>rfl
   | succ n ih=>unfold isum;rw[ih];unfold bt;rw[hz];simp
  rw[this]
 ·rename_i h
  have hsd:=jJ hr h0 hs d
  have hne:s ^^^ stt L ts s d≠0:=by
   intro e
   have he:s=stt L ts s d:=by
    have h1:s ^^^ stt L ts s d ^^^ stt L ts s d=stt L ts s d:=by rw[e,Nat.zero_xor]
    rwa [Nat.xor_assoc,Nat.xor_self,Nat.xor_zero] at h1
   exact (zK hr hm h0 hs).2 d (by omega) ⟨by omega,he.symm⟩
  have hlt:s ^^^ stt L ts s d<2^L:=Nat.xor_lt_two_pow hs hsd.2
  exact Hd hr hm (by omega) hlt
end
end Go.Rex
namespace Go.Rex
open Go Go.Rex
set_option maxRecDepth 100000
theorem Fb(L:Nat)(ts:List Nat)(s n:Nat):∀ k,k<(sgl L ts s n).length→nL (atS (sgl L ts s n) k):=by
 intro k hk
 have h:=Cv hk
 rw[kQ] at hk
 have e:(sgl L ts s n)[k]?=some (1-2*((bt L ts s k:Nat):Int)):=by
  unfold sgl
  rw[List.getElem?_map,List.getElem?_range hk]
  rfl
 rw[e] at h
 have h:=Option.some.inj h
 unfold nL
 have:=aBk L ts s k
 omega
noncomputable def exG(w:List (Int×Int))(S:List Int):List (Nat×Nat)×Int:=if (rec (fold w S.length)).2≠0 then ([],(rec (fold w S.length)).2) else rec (wgh (fold w S.length) S)
theorem Jm(w:List (Int×Int)):((rec w).2=0∧(∀ z∈w,small z)∧(rec w).1=w.map dP)∨((rec w).2=8∧(rec w).1=[]):=by
 unfold rec
 by_cases h:∀ z∈w,small z
 ·rw[if_pos h];exact .inl ⟨rfl,h,rfl⟩
 ·rw[if_neg h];exact .inr ⟨rfl,rfl⟩
section
variable {L:Nat} {ts:List Nat} {s:Nat}
theorem Zb(hr:Reg L ts)(h0:0<s)(hs:s<2^L){l:List (Nat×Nat)}(G:GoodL l):((cR l).bind fun v12 =>
 (aE L (ints ts)).bind fun v13 =>
 (jK v12 v13).bind fun v14 =>
 (bG L (ints ts) s).bind fun v15 =>
 (bV v14).bind fun (v16,v17) =>
 if (decide (v17≠0))=true then
  (some (([]:List (Nat×Nat)),v17))
 else
  ((fD v14 v15).bind fun v18 =>
  (bV v18).bind fun (v19,v20) =>
  some (v19,v20)))=some (exG (nums l) (sgl L ts s (2^L-1))):=by
 have g:=G.len
 have hL:=hr.most
 have hp:=pow8 hL
 have h1:1<2^L:=pL hr
 have nw:(nums l).length≤1024:=by rw[zC];omega
 unfold bG
 rw[Ab G,Option.bind_some,tA hL,Option.bind_some,(Yt (Df G) nw (by omega)),Option.bind_some,Ax hr h0 hs,Option.bind_some,Option.bind_some,yF _ (by unfold fold;rw[xA];omega),Option.bind_some]
 unfold exG
 rw[kQ]
 have ln:=kQ L ts s (2^L-1)
 have sg:=Fb L ts s (2^L-1)
 generalize sgl L ts s (2^L-1)=S at *
 have lf:(fold (nums l) (2^L-1)).length=2^L-1:=by unfold fold;rw[xA]
 generalize fold (nums l) (2^L-1)=W at *
 rcases Jm W with⟨e1,e2,e3⟩|⟨e1,e2⟩
 ·rcases hR:rec W with⟨r1,r2⟩
  rw[hR] at e1
  obtain rfl:r2=0:=e1
  simp only
  rw[if_neg (by simp),if_neg (by simp),(Ul e2 sg (by omega) (by omega)),Option.bind_some,Hb]
  exact yF _ (by rw[xX];omega)
 ·rcases hR:rec W with⟨r1,r2⟩
  rw[hR] at e1
  obtain rfl:r2=8:=e1
  simp only
  rw[if_pos (by simp),if_pos (by simp)]
end
theorem Ra{l:List (Nat×Nat)}{L:Nat}{ts:List Nat}{s:Nat}(ht:(ints ts).length≤12)(hl:lE l=0)(hc:chk L (ints ts)=0)(hr:Reg L ts)(h0:0<s)(hs:s<2^L):jA l L (ints ts) s=some (exG (nums l) (sgl L ts s (2^L-1))):=by
 have hL:=hr.most
 have hin:1≤(s:Int)∧(s:Int)≤((2^L-1:Nat):Int):=by omega
 unfold jA iT aZ iA
 rw[Option.bind_some,Option.bind_some,Aj]
 simp only
 rw[Option.bind_some,if_neg (by simpa using hl),Ap _ _ ht,Option.bind_some,hc,if_neg (by decide),uX _ _ hL,Option.bind_some,if_pos hin,if_neg (by decide),Option.bind_some,if_neg (by decide)]
 exact Zb hr h0 hs (Jd hl)
end Go.Rex
namespace Go.Rex
open Go Go.Rex
set_option maxRecDepth 100000
section
variable {L:Nat} {ts:List Nat} {s:Nat}
theorem aBc(hr:Reg L ts){n:Nat}(hp:uM L ts 1 n)(hn:n≤2^L-1):cG L (ints ts)=some (if n=2^L-1 then 0 else 22):=by
 unfold cG eY aD aA
 have:=Un hr (s:=1) (by omega) (pL hr) hp hn
 rw[show (1:Int)=((1:Nat):Int) from rfl,this,Option.bind_some,tA hr.most,Option.bind_some]
 by_cases h:n=2^L-1
 ·simp[h]
 ·have h':¬((n:Int)=((2^L-1:Nat):Int)):=by omega
  rw[decide_eq_false h',if_neg h]
  simp
theorem aC2(hr:Reg L ts){n:Nat}(hp:uM L ts 1 n)(hn:n≤2^L-1):kA L (ints ts)=some (decide (n=2^L-1)):=by
 unfold kA
 have:=Jf hr (s:=1) (by omega) (pL hr) hp hn
 rw[show (1:Int)=((1:Nat):Int) from rfl,this,Option.bind_some,Jo hr.most,Option.bind_some]
 by_cases h:n=2^L-1
 ·simp[h]
 ·have h':¬((n:Int)=((2^L-1:Nat):Int)):=by omega
  rw[decide_eq_false h,decide_eq_false h']
noncomputable def unV(W:List (Int×Int))(S:List Int):List (Nat×Nat)×Int:=if ∀ z∈cor W S,even2 ((S.length+1:Nat):Int) z then rec ((cor W S).map (qtZ ((S.length+1:Nat):Int))) else ([],20)
theorem Wf(hr:Reg L ts)(h0:0<s)(hs:s<2^L){l:List (Nat×Nat)}(G:GoodL l)(hl:l.length=2^L-1):((bG L (ints ts) s).bind fun v12 =>
 (cR l).bind fun v13 =>
 (eZ v13 v12).bind fun v14 =>
 (aE L (ints ts)).bind fun v15 =>
 (kF v14 (IntKind.i64.wrap (v15+1))).bind fun (v16,v17) =>
 if v17=true then
  ((bV v16).bind fun (v18,v19) =>
  some (v18,v19))
 else
  (some (([]:List (Nat×Nat)),20)))=some (unV (nums l) (sgl L ts s (2^L-1))):=by
 have g:=G.len
 have hL:=hr.most
 have hp:=pow8 hL
 have h1:1<2^L:=pL hr
 unfold bG
 rw[Ax hr h0 hs,Option.bind_some,Option.bind_some,Ab G,Option.bind_some]
 have ln:=kQ L ts s (2^L-1)
 have sg:=Fb L ts s (2^L-1)
 generalize sgl L ts s (2^L-1)=S at *
 have lw:(nums l).length=S.length:=by rw[zC];omega
 have sm:=Df G
 generalize nums l=W at *
 rw[aAo sm sg lw (by omega),Option.bind_some,tA hL,Option.bind_some,← ln,wsucc (n:=1024) (by omega) (by decide),Wu (by omega) (by rw[oL];omega) (aCs sm sg (by omega)),Option.bind_some]
 unfold unV
 by_cases h:∀ z∈cor W S,even2 ((S.length+1:Nat):Int) z
 ·rw[if_pos h,if_pos h]
  simp only
  rw[if_pos trivial,Hb]
  exact yF _ (by rw[List.length_map,oL];omega)
 ·rw[if_neg h,if_neg h]
  simp only
  rw[if_neg (by simp)]
end
theorem Zh(l:List (Nat×Nat)){L:Nat}(t:List Int)(hL:L≤8):eJ l L t=some (if l.length=2^L-1 then 0 else 13):=by
 unfold eJ aD aA
 rw[tA hL,Option.bind_some]
 by_cases h:l.length=2^L-1
 ·simp[h]
 ·have h':¬((l.length:Int)=((2^L-1:Nat):Int)):=by omega
  rw[if_neg h,decide_eq_true h']
  simp
noncomputable def unG(l:List (Nat×Nat))(L:Nat)(ts:List Nat)(s n:Nat):List (Nat×Nat)×Int:=if n=2^L-1 then if l.length=2^L-1 then unV (nums l) (sgl L ts s (2^L-1)) else ([],13) else ([],22)
theorem aC3{l:List (Nat×Nat)}{L:Nat}{ts:List Nat}{s n:Nat}(ht:(ints ts).length≤12)(hl:lE l=0)(hc:chk L (ints ts)=0)(hr:Reg L ts)(h0:0<s)(hs:s<2^L)(hp:uM L ts 1 n)(hn:n≤2^L-1):jL l L (ints ts) s=some (unG l L ts s n):=by
 have hL:=hr.most
 have hin:1≤(s:Int)∧(s:Int)≤((2^L-1:Nat):Int):=by omega
 unfold unG
 unfold jL iT aZ iG
 rw[Option.bind_some,Option.bind_some,Aj]
 simp only
 rw[Option.bind_some,if_neg (by simpa using hl),Ap _ _ ht,Option.bind_some,hc,if_neg (by decide),uX _ _ hL,Option.bind_some,if_pos hin,if_neg (by decide),aBc hr hp hn,Option.bind_some,Zh l _ hL]
 by_cases h1:n=2^L-1
 ·rw[if_pos h1,if_pos h1,if_neg (by decide),Option.bind_some]
  by_cases h2:l.length=2^L-1
  ·rw[if_pos h2,if_pos h2,if_neg (by decide),Option.bind_some,if_neg (by decide)]
   exact Wf hr h0 hs (Jd hl) h2
  ·rw[if_neg h2,if_neg h2,if_pos (by decide),Option.bind_some,if_pos (by decide)]
 ·rw[if_neg h1,if_neg h1,if_pos (by decide),Option.bind_some,if_pos (by decide)]
end Go.Rex
namespace Go.Rex
open Go Go.Rex
set_option maxRecDepth 100000
theorem Cq{w:List (Int×Int)}{k:Nat}(hk:w.length≤k):at0 w k=(0,0):=by
 unfold at0
 rw[List.getD_eq_getElem?_getD,List.getElem?_eq_none hk]
 rfl
def Jr(a:List (Int×Int))(n:Nat):List (Int×Int):=(List.range n).map (at0 a)
theorem Sx(a:List (Int×Int))(n k:Nat):at0 (Jr a n) k=if k<n then at0 a k else (0,0):=by
 unfold Jr
 by_cases h:k<n
 ·rw[if_pos h]
  have hl:k<((List.range n).map (at0 a)).length:=by simp;exact h
  have:=iB hl
  rw[List.getElem?_map,List.getElem?_range h] at this
  exact (Option.some.inj this).symm
 ·rw[if_neg h,Cq (by simp;omega)]
structure ChirpOf(n:Nat)(c:List (Nat×Nat)):Prop where
 len:c.length=n
 val:∀ p∈c,∃ z,PV p z∧Yd z
theorem aAE{l:List (Nat×Nat)}(hl:0<l.length∧l.length≤1024)(h:∀ p∈l,∃ z,PV p z∧small z):lE l=0:=by
 unfold lE
 rw[if_neg (by omega),if_neg (by omega)]
 have:dY (yL l) l.length=none:=firstOf_none.2 (fun k hk=>by
  unfold yL
  rw[List.getElem?_eq_getElem hk]
  simp only
  rw[if_pos]
  obtain⟨z,z1,z2⟩:=h l[k] (List.getElem_mem hk)
  unfold cE
  rw[Mf z1.1,Mf z1.2]
  simp only
  rw[if_pos]
  unfold sm24
  simp only[decide_eq_true_eq]
  exact z2)
 rw[this]
 rfl
theorem Ez{w:List (Int×Int)}(h:∀ z∈w,small z):nums (w.map dP)=w:=by
 unfold nums
 rw[List.map_map]
 conv=>rhs;rw[← List.map_id w]
 exact List.map_congr_left (fun z hz=>Zs (h z hz))
theorem Jz{w:List (Int×Int)}(hl:0<w.length∧w.length≤1024)(h:∀ z∈w,small z):lE (w.map dP)=0:=
 aAE (by simp;exact hl) (fun p hp=>by
  obtain⟨z,hz,rfl⟩:=List.mem_map.1 hp
  exact⟨z,tD (h z hz),h z hz⟩)
structure Lists(v1 v2:List (Int×Int))(a b s:List (Int×Int)):Prop where
 la:a.length=v1.length
 lb:b.length=v1.length
 ls:s.length=v1.length
 ba:∀ k,zle 10000 (at0 a k)
 bb:∀ k,zle 10000 (at0 b k)
 sum:∀ k,at0 s k=zadd (at0 a k) (at0 b k)
theorem vD(n a b:Int):eS n a b=some (decide (a≤n∧n≤b)):=by
 unfold eS
 by_cases h:a≤n
 ·rw[if_pos (decide_eq_true h)]
  simp[h]
 ·rw[if_neg (by simpa using h)]
  simp[h]
theorem Uw{x y:Int}(hx:-10000≤x∧x≤10000)(hy:-10000≤y∧y≤10000):pC x y=some (dP (x,y)):=by
 have e:∀ z:Int,-10000≤z∧z≤10000→(if (if z<10000 then z else 10000)>(-10000) then (if z<10000 then z else 10000) else (-10000))=z:=fun z hz=>by
  split<;>split<;>omega
 unfold pC
 rw[e x hx,e y hy]
 rfl
theorem mS(f:Nat→Int)(c:Int):∀ n,isum (fun t=>f t*c) n=isum f n*c
 | 0=>by simp[isum]
 | n+1=>by simp only[isum];rw[mS f c n,Int.add_mul]
theorem mU(f:Nat→Int)(c:Int):∀ n,isum (fun t=>c*f t) n=c*isum f n
 | 0=>by simp[isum]
 | n+1=>by simp only[isum];rw[mU f c n,Int.mul_add]
theorem Nh(f g:Nat→Int):∀ n,isum (fun t=>f t+g t) n=isum f n+isum g n
 | 0=>by simp[isum]
 | n+1=>by simp only[isum];rw[Nh f g n];omega
theorem uW(f g:Nat→Int):∀ n,isum (fun t=>f t-g t) n=isum f n-isum g n
 | 0=>by simp[isum]
 | n+1=>by simp only[isum];rw[uW f g n];omega
theorem Hq:∀ n,isum (fun _=>0) n=0
 | 0=>rfl
 | n+1=>by simp only[isum];rw[Hq n];omega
theorem pZ(f:Nat→Nat→Int)(m:Nat):∀ n,isum (fun t=>isum (fun j=>f t j) m) n=isum (fun j=>isum (fun t=>f t j) n) m
 | 0=>by simp only[isum];rw[Hq]
 | n+1=>by simp only[isum];rw[pZ f m n,Nh]
theorem zS(x:Int)(k:Nat):∀ n,isum (fun j=>if j=k then x else 0) n=if k<n then x else 0
 | 0=>by simp[isum]
 | n+1=>by
  simp only[isum]
  rw[zS x k n]
  by_cases h1:k<n
  ·rw[if_pos h1,if_neg (by omega),if_pos (by omega)];omega
  ·by_cases h2:n=k
   ·rw[if_neg h1,if_pos h2,if_pos (by omega)];omega
   ·rw[if_neg h1,if_neg h2,if_neg (by omega)];omega
def sgq(L:Nat)(ts:List Nat)(s k:Nat):Int:=1-2*((bt L ts s k:Nat):Int)
section
variable {L:Nat} {ts:List Nat} {s:Nat}
theorem sJ(hr:Reg L ts)(s a t:Nat):sgq L ts s (t+a)=sgq L ts (stt L ts s a) t:=by
 unfold sgq bt
 rw[Nat.add_comm,tS]
theorem Hx(hr:Reg L ts)(hm:Maxi L ts)(h0:0<s)(hs:s<2^L)(a:Nat):isum (fun t=>sgq L ts s (t+a)) (2^L-1) = -1:=by
 rw[aG (fun t _=>sJ hr s a t)]
 obtain⟨h1,h2⟩:=jJ hr h0 hs a
 exact Hd hr hm h1 h2
theorem aAf(hr:Reg L ts)(hm:Maxi L ts)(h0:0<s)(hs:s<2^L){j k:Nat}(hj:j<2^L-1)(hk:k<2^L-1):isum (fun t=>sgq L ts s (t+(2^L-1-j))*sgq L ts s (t+(2^L-1-k))) (2^L-1)=if j=k then ((2^L-1:Nat):Int) else -1:=by
 have key:∀ j k:Nat,k≤j→j<2^L-1→isum (fun t=>sgq L ts s (t+(2^L-1-j))*sgq L ts s (t+(2^L-1-k))) (2^L-1)=if j=k then ((2^L-1:Nat):Int) else -1:=by
  intro j k hkj hj
  obtain⟨h1,h2⟩:=jJ hr h0 hs (2^L-1-j)
  have e:∀ t,t<2^L-1→sgq L ts s (t+(2^L-1-j))*sgq L ts s (t+(2^L-1-k))=sgq L ts (stt L ts s (2^L-1-j)) t*sgq L ts (stt L ts s (2^L-1-j)) (j-k+t):=by
   intro t _
   rw[show t+(2^L-1-k)=(j-k+t)+(2^L-1-j) by omega,sJ hr,sJ hr]
  rw[aG e]
  have c:=Ee hr hm h1 h2 (d:=j-k) (by omega)
  unfold sgq
  rw[c]
  by_cases h:j=k
  ·rw[if_pos h,if_pos (by omega)]
  ·rw[if_neg h,if_neg (by omega)]
 rcases Nat.le_total k j with h|h
 ·exact key j k h hj
 ·rw[aG (fun t _=>Int.mul_comm _ _),key k j h hk]
  by_cases e:j=k
  ·rw[if_pos e,if_pos e.symm]
  ·rw[if_neg e,if_neg (fun x=>e x.symm)]
theorem Gx(hr:Reg L ts)(hm:Maxi L ts)(h0:0<s)(hs:s<2^L)(a:Nat→Int){k:Nat}(hk:k<2^L-1) :
 isum (fun t=>isum (fun j=>a j*sgq L ts s (t+(2^L-1-j))) (2^L-1)*sgq L ts s (t+(2^L-1-k))) (2^L-1)-isum (fun t=>isum (fun j=>a j*sgq L ts s (t+(2^L-1-j))) (2^L-1)) (2^L-1)=a k*((2^L-1+1:Nat):Int):=by
 have e1:isum (fun t=>isum (fun j=>a j*sgq L ts s (t+(2^L-1-j))) (2^L-1)*sgq L ts s (t+(2^L-1-k))) (2^L-1)=isum (fun j=>a j*if j=k then ((2^L-1:Nat):Int) else -1) (2^L-1):=by
  rw[aG (fun t _=>(mS _ _ _).symm),pZ]
  refine aG (fun j hj=>?_)
  rw[← aAf hr hm h0 hs hj hk,← mU]
  exact aG (fun t _=>Int.mul_assoc _ _ _)
 have e2:isum (fun t=>isum (fun j=>a j*sgq L ts s (t+(2^L-1-j))) (2^L-1)) (2^L-1)=isum (fun j=>a j*-1) (2^L-1):=by
  rw[pZ]
  refine aG (fun j hj=>?_)
  rw[mU,Hx hr hm h0 hs]
 rw[e1,e2,← uW]
 have e3:∀ j,j<2^L-1→(a j*(if j=k then ((2^L-1:Nat):Int) else -1)-a j*-1)=if j=k then a k*((2^L-1+1:Nat):Int) else 0:=by
  intro j _
  by_cases h:j=k
  ·subst h
   rw[if_pos rfl,if_pos rfl,← Int.mul_sub]
   congr 1
  ·rw[if_neg h,if_neg h]
   omega
 rw[aG e3,zS,if_pos hk]
theorem Jk(hr:Reg L ts)(hm:Maxi L ts)(h0:0<s)(hs:s<2^L)(m:Nat):atS (sgl L ts s (2^L-1)) (m%(2^L-1))=sgq L ts s m:=by
 have h1:=pL hr
 have hlt:m%(2^L-1)<2^L-1:=Nat.mod_lt _ (by omega)
 have h:=Cv (S:=sgl L ts s (2^L-1)) (k:=m%(2^L-1)) (by rw[kQ];exact hlt)
 have e:(sgl L ts s (2^L-1))[m%(2^L-1)]?=some (sgq L ts s (m%(2^L-1))):=by
  unfold sgl sgq
  rw[List.getElem?_map,List.getElem?_range hlt]
  rfl
 rw[e] at h
 rw[← Option.some.inj h]
 unfold sgq bt
 have hp:=(zK hr hm h0 hs).1.2
 have:=Qy hr hp (m/(2^L-1)) (m%(2^L-1))
 rw[Nat.mod_add_div] at this
 rw[this]
end
theorem qR(f:Nat→Int×Int):∀ n,(zsum f n).1=isum (fun t=>(f t).1) n∧(zsum f n).2=isum (fun t=>(f t).2) n
 | 0=>⟨rfl,rfl⟩
 | n+1=>by
  obtain⟨h1,h2⟩:=qR f n
  simp only[zsum,zadd,isum]
  rw[h1,h2]
  exact⟨rfl,rfl⟩
theorem Ur{L:Nat}{ts:List Nat}{s:Nat}(hr:Reg L ts)(hm:Maxi L ts)(h0:0<s)(hs:s<2^L)(W:List (Int×Int)) :
 cor (wgh W (sgl L ts s (2^L-1))) (sgl L ts s (2^L-1))=(List.range (2^L-1)).map fun k=>zstr (at0 W k) ((2^L-1+1:Nat):Int):=by
 have hl:=kQ L ts s (2^L-1)
 have hS:=fun m=>Jk hr hm h0 hs m
 generalize hSS:sgl L ts s (2^L-1)=S at *
 unfold cor
 rw[hl]
 apply List.map_congr_left
 intro k hk
 rw[List.mem_range] at hk
 have w:∀ t,t<2^L-1→at0 (wgh W S) t=(isum (fun j=>(at0 W j).1*sgq L ts s (t+(2^L-1-j))) (2^L-1),isum (fun j=>(at0 W j).2*sgq L ts s (t+(2^L-1-j))) (2^L-1)):=by
  intro t ht
  rw[aAb (by omega),hl]
  unfold wgS
  obtain⟨h1,h2⟩:=qR (wgT W S t) (2^L-1)
  refine Prod.ext (h1.trans ?_) (h2.trans ?_)
  ·refine aG (fun j hj=>?_)
   unfold wgT zstr
   rw[hl,hS,show t+(2^L-1)-j=t+(2^L-1-j) by omega]
  ·refine aG (fun j hj=>?_)
   unfold wgT zstr
   rw[hl,hS,show t+(2^L-1)-j=t+(2^L-1-j) by omega]
 have c:∀ t,t<2^L-1→crT (wgh W S) S k t=(isum (fun j=>(at0 W j).1*sgq L ts s (t+(2^L-1-j))) (2^L-1)*sgq L ts s (t+(2^L-1-k)),isum (fun j=>(at0 W j).2*sgq L ts s (t+(2^L-1-j))) (2^L-1)*sgq L ts s (t+(2^L-1-k))):=by
  intro t ht
  unfold crT zstr
  rw[w t ht,hl,hS,show t+(2^L-1)-k=t+(2^L-1-k) by omega]
 obtain⟨a1,a2⟩:=qR (crT (wgh W S) S k) (2^L-1)
 obtain⟨b1,b2⟩:=qR (at0 (wgh W S)) (2^L-1)
 have x1:=Gx hr hm h0 hs (fun j=>(at0 W j).1) hk
 have x2:=Gx hr hm h0 hs (fun j=>(at0 W j).2) hk
 unfold zsub zstr crS
 refine Prod.ext ?_ ?_
 ·simp only
  rw[a1,b1,← x1,aG (fun t ht=>by rw[c t ht]),aG (n:=2^L-1) (f:=fun t=>(at0 (wgh W S) t).1) (fun t ht=>by rw[w t ht])]
 ·simp only
  rw[a2,b2,← x2,aG (fun t ht=>by rw[c t ht]),aG (n:=2^L-1) (f:=fun t=>(at0 (wgh W S) t).2) (fun t ht=>by rw[w t ht])]
theorem Zm{L:Nat}{ts:List Nat}{s:Nat}(hr:Reg L ts)(hm:Maxi L ts)(h0:0<s)(hs:s<2^L)(W:List (Int×Int)):unV (wgh W (sgl L ts s (2^L-1))) (sgl L ts s (2^L-1))=rec (Jr W (2^L-1)):=by
 have hl:=kQ L ts s (2^L-1)
 unfold unV
 rw[Ur hr hm h0 hs,hl]
 have e:∀ z∈(List.range (2^L-1)).map (fun k=>zstr (at0 W k) ((2^L-1+1:Nat):Int)),even2 ((2^L-1+1:Nat):Int) z:=by
  intro z hz
  obtain⟨k,_,rfl⟩:=List.mem_map.1 hz
  unfold even2 zstr
  exact⟨Int.mul_tmod_left _ _,Int.mul_tmod_left _ _⟩
 rw[if_pos e,List.map_map]
 congr 1
 unfold Jr
 apply List.map_congr_left
 intro k _
 show qtZ _ (zstr (at0 W k) _)=at0 W k
 unfold qtZ zstr
 simp only
 rw[Int.mul_tdiv_cancel _ (by omega),Int.mul_tdiv_cancel _ (by omega)]
end Go.Rex
namespace Go.Rex
def Pr(p:Nat):Prop:=2≤p∧∀ q,q ∣ p→q=1∨q=p
theorem Pr.coprime{p a:Nat}(h:Pr p)(ha:¬ p ∣ a):Nat.Coprime p a:=by
 rcases h.2 _ (Nat.gcd_dvd_left p a) with h1|h1
 ·exact h1
 ·exact absurd (h1 ▸ Nat.gcd_dvd_right p a) ha
theorem Pr.dvd_mul{p a b:Nat}(h:Pr p)(hd:p ∣ a*b):p ∣ a∨p ∣ b:=by
 rcases Nat.decEq (a%p) 0 with hn|hn
 ·right
  exact (h.coprime (fun hh=>hn (Nat.mod_eq_zero_of_dvd hh))).dvd_of_dvd_mul_left hd
 ·exact .inl (Nat.dvd_of_mod_eq_zero hn)
def dC(f:Nat→Nat):Nat→Nat
 | 0=>0
 | n+1=>dC f n+f n
theorem Di(f g:Nat→Nat):∀ n,dC (fun k=>f k+g k) n=dC f n+dC g n
 | 0=>rfl
 | n+1=>by simp only[dC,Di f g n];omega
theorem yG(f:Nat→Nat)(a:Nat):∀ n,dC (fun k=>a*f k) n=a*dC f n
 | 0=>rfl
 | n+1=>by simp only[dC,yG f a n,Nat.mul_add]
theorem tJ(f:Nat→Nat):∀ n,dC f (n+1)=f 0+dC (fun k=>f (k+1)) n
 | 0=>by simp[dC]
 | n+1=>by
  have:=tJ f n
  simp only[dC] at *
  omega
theorem El{f g:Nat→Nat}:∀ n,(∀ k,k<n→f k=g k)→dC f n=dC g n
 | 0,_=>rfl
 | n+1,h=>by simp only[dC];rw[El n (fun k hk=>h k (by omega)),h n (by omega)]
theorem Nj{f:Nat→Nat}{p:Nat}:∀ n,(∀ k,k<n→p ∣ f k)→p ∣ dC f n
 | 0,_=>⟨0,rfl⟩
 | n+1,h=>by simp only[dC];exact Nat.dvd_add (Nj n fun k hk=>h k (by omega)) (h n (by omega))
def choose':Nat→Nat→Nat
 | _,0=>1
 | 0,_+1=>0
 | n+1,k+1=>choose' n k+choose' n (k+1)
theorem vH(n:Nat):choose' n 0=1:=by cases n<;>rfl
theorem vV:∀ {n k:Nat},n<k→choose' n k=0
 | 0,k+1,_=>rfl
 | n+1,k+1,h=>by simp only[choose'];rw[vV (by omega),vV (by omega)]
theorem Bf:∀ n,choose' n n=1
 | 0=>rfl
 | n+1=>by simp only[choose'];rw[Bf n,vV (by omega)]
theorem oK:∀ n k,(k+1)*choose' (n+1) (k+1)=(n+1)*choose' n k
 | 0,0=>by simp[choose']
 | 0,k+1=>by simp[choose']
 | n+1,0=>by
  have:=oK n 0
  simp only[choose',vH] at *
  omega
 | n+1,k+1=>by
  have h1:=oK n (k+1)
  have h2:=oK n k
  have e:choose' (n+2) (k+2)=choose' (n+1) (k+1)+choose' (n+1) (k+2):=rfl
  have e2:choose' (n+1) (k+1)=choose' n k+choose' n (k+1):=rfl
  rw[show k+1+1=k+2 from rfl,show n+1+1=n+2 from rfl] at *
  rw[e,Nat.mul_add,h1,show (k+2)*choose' (n+1) (k+1)=(k+1)*choose' (n+1) (k+1)+choose' (n+1) (k+1) by rw[show k+2=(k+1)+1 from rfl,Nat.add_mul,Nat.one_mul],h2,show (n+2)*choose' (n+1) (k+1)=(n+1)*choose' (n+1) (k+1)+choose' (n+1) (k+1) by rw[show n+2=(n+1)+1 from rfl,Nat.add_mul,Nat.one_mul]]
  have:(n+1)*choose' (n+1) (k+1)=(n+1)*choose' n k+(n+1)*choose' n (k+1):=by rw[e2,Nat.mul_add]
  omega
theorem binom(a:Nat):∀ n,(a+1)^n=dC (fun k=>choose' n k*a^k) (n+1)
 | 0=>by simp[dC,choose']
 | n+1=>by
  rw[Nat.pow_succ,binom a n,tJ (fun k=>choose' (n+1) k*a^k)]
  have e:∀ k,choose' (n+1) (k+1)*a^(k+1)=a*(choose' n k*a^k)+choose' n (k+1)*a^(k+1):=by
   intro k
   show (choose' n k+choose' n (k+1))*a^(k+1)=_
   rw[Nat.add_mul,Nat.pow_succ,Nat.mul_comm (a^k) a,Nat.mul_left_comm]
  rw[El _ fun k _=>e k,Di,yG]
  have s:=tJ (fun k=>choose' n k*a^k) (n+1)
  have z:dC (fun k=>choose' n k*a^k) (n+1+1)=dC (fun k=>choose' n k*a^k) (n+1):=by
   show dC _ (n+1)+choose' n (n+1)*a^(n+1)=_
   rw[vV (by omega)]
   omega
  rw[z] at s
  simp only[vH,Nat.pow_zero,Nat.mul_one] at *
  rw[Nat.mul_add,Nat.mul_one,Nat.mul_comm _ a]
  omega
theorem Pr.choose{p k:Nat}(h:Pr p)(h1:0<k)(h2:k<p):p ∣ choose' p k:=by
 obtain⟨j,rfl⟩:∃ j,k=j+1:=⟨k-1,by omega⟩
 obtain⟨n,rfl⟩:∃ n,p=n+1:=⟨p-1,by omega⟩
 have:=oK n j
 rcases h.dvd_mul (a:=j+1) (b:=choose' (n+1) (j+1)) ⟨choose' n j,this⟩ with h3|h3
 ·exact absurd (Nat.le_of_dvd (by omega) h3) (by omega)
 ·exact h3
theorem Pr.fermat{p:Nat}(h:Pr p):∀ a,a^p%p=a%p
 | 0=>by
  have:=h.1
  rw[Nat.zero_pow (by omega)]
 | a+1=>by
  have ih:=h.fermat a
  rw[binom]
  obtain⟨n,rfl⟩:∃ n,p=n+1:=⟨p-1,by have:=h.1;omega⟩
  show (dC _ (n+1)+choose' (n+1) (n+1)*a^(n+1))%(n+1)=_
  rw[tJ,Bf,vH]
  obtain⟨c,hc⟩:=Nj (p:=n+1) (f:=fun k=>choose' (n+1) (k+1)*a^(k+1)) n (fun k hk=>Nat.dvd_mul_right_of_dvd (h.choose (by omega) (by omega)) _)
  rw[hc,Nat.pow_zero,Nat.one_mul,Nat.one_mul,Nat.add_right_comm,Nat.add_mul_mod_self_left,Nat.add_mod,ih,← Nat.add_mod,Nat.add_comm]
theorem Pr.fermat1{p a:Nat}(h:Pr p)(ha:¬ p ∣ a):a^(p-1)%p=1:=by
 have h1:=h.1
 have hf:=h.fermat a
 obtain⟨n,rfl⟩:∃ n,p=n+1:=⟨p-1,by omega⟩
 rw[Nat.add_sub_cancel]
 have hpos:0<a^n:=Nat.pow_pos (Nat.pos_of_ne_zero fun h=>ha (h ▸ Nat.dvd_zero _))
 have:(n+1) ∣ a*(a^n-1):=by
  rw[Nat.mul_sub,Nat.mul_one,Nat.mul_comm,← Nat.pow_succ]
  exact Nat.dvd_of_mod_eq_zero (Nat.sub_mod_eq_zero_of_mod_eq hf)
 rcases h.dvd_mul this with h2|h2
 ·exact absurd h2 ha
 ·obtain⟨c,hc⟩:=h2
  rw[show a^n=1+(n+1)*c by omega,Nat.add_mul_mod_self_left]
  exact Nat.mod_eq_of_lt (by omega)
def pev:List Int→Int→Int
 | [],_=>0
 | c::cs,x=>c+x*pev cs x
def qt(r:Int):List Int→List Int
 | []=>[]
 | [_]=>[]
 | _::c::cs=>pev (c::cs) r::qt r (c::cs)
theorem aAc(r:Int):∀ l,(qt r l).length=l.length-1
 | []=>rfl
 | [_]=>rfl
 | _::c::cs=>by simp only[qt,List.length_cons,aAc r (c::cs)];omega
theorem Sc(r:Int):∀ l,2≤l.length→(qt r l).getLast?=l.getLast?
 | [_,b],_=>by simp[qt,pev]
 | _::b::c::cs,_=>by
  have:=Sc r (b::c::cs) (by simp)
  simp only[qt,List.getLast?_cons_cons] at *
  exact this
theorem aBi(r x:Int):∀ l,pev l x-pev l r=(x-r)*pev (qt r l) x
 | []=>by simp[qt,pev]
 | [a]=>by simp[qt,pev]
 | a::c::cs=>by
  have ih:=aBi r x (c::cs)
  rw[show pev (a::c::cs) x=a+x*pev (c::cs) x from rfl,show pev (a::c::cs) r=a+r*pev (c::cs) r from rfl,show pev (qt r (a::c::cs)) x=pev (c::cs) r+x*pev (qt r (c::cs)) x from rfl]
  generalize pev (c::cs) x=A at *
  generalize pev (c::cs) r=B at *
  generalize pev (qt r (c::cs)) x=Q at *
  have h:(x-r)*(x*Q)=x*(A-B):=by rw[ih,Int.mul_left_comm]
  rw[Int.mul_add,h,Int.mul_sub,Int.sub_mul]
  omega
theorem Pr.dvd_mulI{p:Nat}{a b:Int}(h:Pr p)(hd:(p:Int) ∣ a*b):(p:Int) ∣ a∨(p:Int) ∣ b:=by
 rw[Int.ofNat_dvd_left,Int.natAbs_mul] at hd
 rcases h.dvd_mul hd with h1|h1
 ·exact .inl (Int.ofNat_dvd_left.2 h1)
 ·exact .inr (Int.ofNat_dvd_left.2 h1)
theorem Nb{p:Nat}(h:Pr p):∀(n:Nat) (l:List Int),l.length=n+1→(∀ a,l.getLast?=some a→¬(p:Int) ∣ a)→∀ rs:List Nat,rs.Nodup→(∀ x,x∈rs→x<p∧(p:Int) ∣ pev l x)→rs.length≤n
 | 0,l,hl,ha,rs,_,hr=>by
  match l,hl with
  | [a],_ =>
   cases rs with
   | nil=>simp
   | cons x t =>
    have:=(hr x (by simp)).2
    simp only[pev,Int.mul_zero,Int.add_zero] at this
    exact absurd this (ha a (by simp))
 | n+1,l,hl,ha,rs,hn,hr=>by
  cases rs with
  | nil=>simp
  | cons r t =>
   rw[List.nodup_cons] at hn
   have hr0:=hr r (by simp)
   have:=Nb h n (qt r l) (by rw[aAc];omega) (fun a hh=>ha a (by rw[← Sc r l (by omega)];exact hh)) t hn.2 fun x hx=>by
    have hx0:=hr x (by simp[hx])
    refine⟨hx0.1,?_⟩
    have hd:(p:Int) ∣ ((x:Int)-r)*pev (qt r l) x:=by rw[← aBi];exact Int.dvd_sub hx0.2 hr0.2
    rcases h.dvd_mulI hd with h1|h1
    ·exfalso
     have hne:x≠r:=fun e=>hn.1 (e ▸ hx)
     rw[Int.ofNat_dvd_left] at h1
     have:=Nat.le_of_dvd (by omega) h1
     omega
    ·exact h1
   simp only[List.length_cons]
   omega
def pw:Nat→List Int
 | 0=>[1]
 | d+1=>0::pw d
theorem aBj(x:Int):∀ d,pev (pw d) x=x^d
 | 0=>by simp[pw,pev]
 | d+1=>by simp only[pw,pev,aBj x d];rw[Int.pow_succ,Int.mul_comm];omega
theorem Kl:∀ d,(pw d).length=d+1
 | 0=>rfl
 | d+1=>by simp[pw,Kl d]
theorem Sd:∀ d,(pw d).getLast?=some 1
 | 0=>rfl
 | d+1=>by
  have:=Sd d
  have hl:=Kl d
  simp only[pw]
  cases hp:pw d with
  | nil=>rw[hp] at hl;simp at hl
  | cons a t=>rw[List.getLast?_cons_cons,← hp];exact this
theorem Pr.nonroot{p d:Nat}(h:Pr p)(hd:0<d)(hlt:d<p-1):∃ g,0<g∧g<p∧g^d%p≠1:=by
 have h2:=h.1
 refine Classical.byContradiction fun hc=>?_
 have hall:∀ g,0<g→g<p→g^d%p=1:=fun g h1 h2=>Classical.byContradiction fun h3=>hc ⟨g,h1,h2,h3⟩
 obtain⟨e,rfl⟩:∃ e,d=e+1:=⟨d-1,by omega⟩
 have:=Nb h (e+1) (-1::pw e) (by simp[Kl]) (fun a ha hdv=>by
  have hl:=Kl e
  have hp:=Sd e
  cases hq:pw e with
  | nil=>rw[hq] at hl;simp at hl
  | cons b t =>
   rw[hq] at ha hp
   rw[List.getLast?_cons_cons,hp] at ha
   obtain rfl:=Option.some.inj ha
   rw[Int.ofNat_dvd_left] at hdv
   have:=Nat.le_of_dvd (by decide) hdv
   simp at this
   omega) (List.range' 1 (p-1)) List.nodup_range' fun x hx=>by
   rw[List.mem_range'_1] at hx
   obtain⟨y,rfl⟩:∃ y,x=y+1:=⟨x-1,by omega⟩
   refine⟨by omega,?_⟩
   have e1:=hall (y+1) (by omega) (by omega)
   rw[show pev (-1::pw e) ((y+1:Nat):Int) = -1+((y+1:Nat):Int)*pev (pw e) ((y+1:Nat):Int) from rfl,aBj]
   have hpos:1≤(y+1)^(e+1):=Nat.pow_pos (by omega)
   have hk:p ∣ (y+1)^(e+1)-1:=by
    refine Nat.dvd_of_mod_eq_zero (Nat.sub_mod_eq_zero_of_mod_eq ?_)
    rw[e1,Nat.mod_eq_of_lt (by omega)]
   obtain⟨c,hcc⟩:=hk
   refine⟨(c:Int),?_⟩
   have:(((y+1)^(e+1):Nat):Int)=1+(p:Int)*c:=by
    rw[show (y+1)^(e+1)=1+p*c by omega];simp
   rw[Nat.pow_succ] at this
   simp only[Int.natCast_mul,Int.natCast_pow] at this
   rw[Int.mul_comm]
   omega
 simp at this
 omega
structure Ord(p a n:Nat):Prop where
 pos:0<n
 one:a^n%p=1
 least:∀ m,0<m→m<n→a^m%p≠1
theorem oX{p a n:Nat}(hp:2≤p)(h:a^n%p=1)(k:Nat):a^(n*k)%p=1:=by
 rw[Nat.pow_mul,Nat.pow_mod,h,Nat.one_pow]
 exact Nat.mod_eq_of_lt (by omega)
theorem Ord.dvd{p a n m:Nat}(hp:2≤p)(h:Ord p a n)(hm:a^m%p=1):n ∣ m:=by
 have hlt:=Nat.mod_lt m h.pos
 have e:a^(m%n)%p=1:=by
  have h1:a^m=a^(n*(m/n))*a^(m%n):=by rw[← Nat.pow_add,Nat.div_add_mod]
  rw[h1,Nat.mul_mod,oX hp h.one,Nat.one_mul,Nat.mod_mod] at hm
  exact hm
 rcases Nat.eq_zero_or_pos (m%n) with h0|h0
 ·exact Nat.dvd_of_mod_eq_zero h0
 ·exact absurd e (h.least _ h0 hlt)
theorem Ord.iff{p a n m:Nat}(hp:2≤p)(h:Ord p a n):a^m%p=1↔n ∣ m:=
 ⟨h.dvd hp,fun ⟨k,hk⟩=>hk ▸ oX hp h.one k⟩
theorem Ord.of_iff{p a n:Nat}(hn:0<n)(h:∀ m,a^m%p=1↔n ∣ m):Ord p a n:=
 ⟨hn,(h n).2 (Nat.dvd_refl n),fun m h1 h2 h3=>by have:=Nat.le_of_dvd h1 ((h m).1 h3);omega⟩
theorem Qz{p a n:Nat}(hn:0<n)(h:a^n%p=1):∃ m,Ord p a m:=by
 induction n using Nat.strongRecOn with
 | _ n ih =>
  refine Classical.byContradiction fun hc=>?_
  refine hc ⟨n,hn,h,fun m h1 h2 h3=>hc (ih m h2 h1 h3)⟩
theorem Ord.mod{p a n:Nat}(h:Ord p a n):Ord p (a%p) n:=
 ⟨h.pos,by rw[← Nat.pow_mod];exact h.one,fun m h1 h2=>by rw[← Nat.pow_mod];exact h.least m h1 h2⟩
theorem Ord.unmod{p a n:Nat}(h:Ord p (a%p) n):Ord p a n:=
 ⟨h.pos,by rw[Nat.pow_mod];exact h.one,fun m h1 h2=>by rw[Nat.pow_mod];exact h.least m h1 h2⟩
theorem Ord.pow{p a n k:Nat}(hp:2≤p)(hk:0<k)(h:Ord p a (n*k)):Ord p (a^k) n:=by
 have hn:0<n:=Nat.pos_of_mul_pos_right h.pos
 refine Ord.of_iff hn fun m=>?_
 rw[← Nat.pow_mul,h.iff hp,Nat.mul_comm n k]
 exact⟨fun hd=>Nat.dvd_of_mul_dvd_mul_left hk hd,fun hd=>Nat.mul_dvd_mul_left k hd⟩
theorem Ord.mul{p a b m n:Nat}(hp:2≤p)(ha:Ord p a m)(hb:Ord p b n)(hc:Nat.Coprime m n):Ord p (a*b) (m*n):=by
 refine Ord.of_iff (Nat.mul_pos ha.pos hb.pos) fun t=>⟨fun h=>?_,fun ⟨k,hk⟩=>?_⟩
 ·have key:∀ s,(a*b)^(t*s)%p=1:=fun s=>oX hp h s
  have h1:m ∣ t*n:=by
   refine ha.dvd hp ?_
   have:=key n
   rw[Nat.mul_pow,Nat.mul_mod,(hb.iff hp).2 (Nat.dvd_mul_left n t),Nat.mul_one,Nat.mod_mod] at this
   exact this
  have h2:n ∣ t*m:=by
   refine hb.dvd hp ?_
   have:=key m
   rw[Nat.mul_pow,Nat.mul_mod,(ha.iff hp).2 (Nat.dvd_mul_left m t),Nat.one_mul,Nat.mod_mod] at this
   exact this
  exact hc.mul_dvd_of_dvd_of_dvd (hc.dvd_of_dvd_mul_right h1) (hc.symm.dvd_of_dvd_mul_right h2)
 ·rw[Nat.mul_pow,Nat.mul_mod,(ha.iff hp).2 ⟨n*k,by rw[hk,Nat.mul_assoc]⟩,(hb.iff hp).2 ⟨m*k,by rw[hk,Nat.mul_assoc,Nat.mul_left_comm]⟩]
  exact Nat.mod_eq_of_lt (by omega)
theorem Gc{m:Nat}(hm:2≤m):∃ q,Pr q∧q ∣ m:=by
 induction m using Nat.strongRecOn with
 | _ m ih =>
  refine Classical.byContradiction fun hc=>?_
  refine hc ⟨m,⟨hm,fun q hq=>?_⟩,Nat.dvd_refl m⟩
  have hle:=Nat.le_of_dvd (by omega) hq
  have hpos:0<q:=Nat.pos_of_dvd_of_pos hq (by omega)
  refine Classical.byContradiction fun hn=>?_
  rw[not_or] at hn
  obtain⟨r,hr,hd⟩:=ih q (by omega) (by omega)
  exact hc ⟨r,hr,Nat.dvd_trans hd hq⟩
theorem Vi{q:Nat}(hq:2≤q):∀ m,0<m→∃ k m',m=q^k*m'∧¬ q ∣ m':=by
 intro m
 induction m using Nat.strongRecOn with
 | _ m ih =>
  intro hm
  rcases Nat.decEq (m%q) 0 with h|h
  ·exact⟨0,m,by simp,fun hd=>h (Nat.mod_eq_zero_of_dvd hd)⟩
  ·obtain⟨c,rfl⟩:=Nat.dvd_of_mod_eq_zero h
   have hc:0<c:=Nat.pos_of_mul_pos_left hm
   obtain⟨k,m',e,hn⟩:=ih c (by have:=Nat.mul_le_mul_right c hq;omega) hc
   exact⟨k+1,m',by rw[Nat.pow_succ,Nat.mul_comm (q^k) q,Nat.mul_assoc,← e],hn⟩
theorem Pr.coprime_pow{q m:Nat}(h:Pr q)(hm:¬ q ∣ m)(k:Nat):Nat.Coprime (q^k) m:=Nat.Coprime.pow_left k (h.coprime hm)
theorem Ke{p q k:Nat}(h:Pr p)(hq:Pr q)(hk:0<k)(hd:q^k ∣ p-1):∃ a,Ord p a (q^k):=by
 have hp:=h.1
 have hq2:=hq.1
 obtain⟨c,hc⟩:=hd
 obtain⟨j,rfl⟩:∃ j,k=j+1:=⟨k-1,by omega⟩
 have hcpos:0<c:=Nat.pos_of_ne_zero fun e=>by rw[e] at hc;omega
 have hqj:0<q^j:=Nat.pow_pos (by omega)
 have e1:(p-1)=c*q^j*q:=by rw[hc,Nat.pow_succ,Nat.mul_comm,Nat.mul_assoc]
 have hcq:0<c*q^j:=Nat.mul_pos hcpos hqj
 obtain⟨g,g1,g2,g3⟩:=h.nonroot (d:=c*q^j) hcq (by rw[e1];have:=Nat.mul_le_mul_left (c*q^j) hq2;omega)
 have hg:¬ p ∣ g:=fun hd=>by have:=Nat.le_of_dvd g1 hd;omega
 have one:(g^c)^(q^(j+1))%p=1:=by
  rw[← Nat.pow_mul,Nat.pow_succ,← Nat.mul_assoc,← e1]
  exact h.fermat1 hg
 obtain⟨n,hn⟩:=Qz (Nat.pow_pos (by omega:0<q)) one
 have d1:=hn.dvd hp one
 have d2:¬ n ∣ q^j:=fun hd=>g3 (by rw[Nat.pow_mul];exact (hn.iff hp).2 hd)
 have:n=q^(j+1):=by
  obtain⟨t,ht⟩:=d1
  rcases Nat.decEq (t%q) 0 with hh|hh
  ·have hcop:Nat.Coprime q t:=hq.coprime fun hd=>hh (Nat.mod_eq_zero_of_dvd hd)
   have:t ∣ 1:=by
    have h3:t ∣ q^(j+1):=⟨n,by rw[ht,Nat.mul_comm]⟩
    have h4:Nat.Coprime t (q^(j+1)):=(hcop.symm).pow_right _
    have:=Nat.Coprime.eq_one_of_dvd h4 h3
    rw[this]
    exact Nat.dvd_refl 1
   have:=Nat.dvd_one.1 this
   rw[ht,this,Nat.mul_one]
  ·obtain⟨s,rfl⟩:=Nat.dvd_of_mod_eq_zero hh
   refine absurd ⟨s,?_⟩ d2
   have:q*(q^j)=q*(n*s):=by rw[Nat.mul_comm q (q^j),← Nat.pow_succ,ht,Nat.mul_left_comm]
   exact Nat.eq_of_mul_eq_mul_left (by omega) this
 exact⟨g^c,this ▸ hn⟩
theorem aA1{p:Nat}(h:Pr p):∀ m,0<m→m ∣ p-1→∃ a,Ord p a m:=by
 have hp:=h.1
 intro m
 induction m using Nat.strongRecOn with
 | _ m ih =>
  intro hm hd
  rcases Nat.lt_or_ge m 2 with hl|hl
  ·obtain rfl:m=1:=by omega
   exact⟨1,by omega,by rw[Nat.one_pow];exact Nat.mod_eq_of_lt (by omega),fun k h1 h2=>by omega⟩
  ·obtain⟨q,hq,hqm⟩:=Gc hl
   obtain⟨k,m',rfl,hn⟩:=Vi hq.1 m hm
   have hq2:=hq.1
   have hk:0<k:=Nat.pos_of_ne_zero fun e=>by rw[e] at hqm;simp at hqm;exact hn hqm
   have hqk:2≤q^k:=by
    obtain⟨j,rfl⟩:∃ j,k=j+1:=⟨k-1,by omega⟩
    rw[Nat.pow_succ]
    exact Nat.le_trans hq2 (Nat.le_mul_of_pos_left q (Nat.pow_pos (by omega)))
   have hm':0<m':=Nat.pos_of_mul_pos_left hm
   obtain⟨a,ha⟩:=Ke h hq hk (Nat.dvd_trans (Nat.dvd_mul_right _ _) hd)
   obtain⟨b,hb⟩:=ih m' (by have:=Nat.mul_le_mul_right m' hqk;omega) hm' (Nat.dvd_trans (Nat.dvd_mul_left _ _) hd)
   exact⟨a*b,ha.mul hp hb (hq.coprime_pow hn k)⟩
theorem Pr.rooted{p n:Nat}(h:Pr p)(hn:0<n)(hd:n ∣ p-1):∃ g,0<g∧g<p∧Ord p (g^((p-1)/n)) n:=by
 have hp:=h.1
 obtain⟨a,ha⟩:=aA1 h (p-1) (by omega) (Nat.dvd_refl _)
 obtain⟨c,hc⟩:=hd
 have hcpos:0<c:=Nat.pos_of_ne_zero fun e=>by rw[e] at hc;omega
 refine⟨a%p,?_,Nat.mod_lt _ (by omega),?_⟩
 ·refine Nat.pos_of_ne_zero fun e=>?_
  have:=ha.one
  rw[Nat.pow_mod,e,Nat.zero_pow (by omega),Nat.zero_mod] at this
  omega
 ·rw[show (p-1)/n=c by rw[hc];exact Nat.mul_div_cancel_left c hn]
  have:=ha.mod
  rw[hc] at this
  exact this.pow hp hcpos
theorem zD{P:Nat→Prop}(h:∃ n,P n):∃ n,P n∧∀ m,m<n→¬ P m:=by
 obtain⟨n,hn⟩:=h
 induction n using Nat.strongRecOn with
 | _ n ih =>
  refine Classical.byContradiction fun hc=>hc ⟨n,hn,fun m hm hP=>hc (ih m hm hP)⟩
def trial(n q:Nat):Prop:=n<q*q∨q ∣ n
theorem Mt{n q:Nat}(hn:2≤n)(hq:2≤q)(h:∀ r,2≤r→r<q→¬ trial n r)(ht:trial n q):n<q*q↔Pr n:=by
 constructor
 ·intro hlt
  refine⟨hn,fun d hd=>Classical.byContradiction fun hc=>?_⟩
  rw[not_or] at hc
  obtain⟨e,he⟩:=hd
  have hd0:d≠0:=fun h0=>by rw[h0] at he;omega
  have he0:e≠0:=fun h0=>by rw[h0] at he;omega
  have he1:e≠1:=fun h1=>by rw[h1] at he;omega
  have key:d<q∨e<q:=by
   refine Classical.byContradiction fun hh=>?_
   rw[not_or] at hh
   have:=Nat.mul_le_mul (show q≤d by omega) (show q≤e by omega)
   omega
  rcases key with hk|hk
  ·exact h d (by omega) hk (.inr ⟨e,he⟩)
  ·exact h e (by omega) hk (.inr ⟨d,by rw[he,Nat.mul_comm]⟩)
 ·intro hp
  rcases ht with h1|h1
  ·exact h1
  ·rcases hp.2 q h1 with h2|h2
   ·omega
   ·subst h2
    have:=Nat.mul_le_mul_right q hq
    omega
theorem Tt{n:Nat}(hn:2≤n)(hm:n≤2147483647):∃ e,run (dV n) 2=some e∧((∃ u,e = .inr u)↔Pr n):=by
 obtain⟨m,hP,hl⟩:=zD (P:=fun k=>trial n (2+k)) ⟨n,.inl (by have:=Nat.mul_le_mul_right (2+n) (show 1≤2+n by omega);omega)⟩
 have small:∀ k,k≤m→(2+k)*(2+k)≤4294967296:=by
  intro k hk
  rcases Nat.eq_zero_or_pos k with h0|h0
  ·subst h0;decide
  ·have h1:=hl (k-1) (by omega)
   have h2:¬ n<(2+(k-1))*(2+(k-1)):=fun hh=>h1 (.inl hh)
   have h3:2+(k-1)<65536:=by
    refine Classical.byContradiction fun hc=>?_
    have:=Nat.mul_le_mul (show 65536≤2+(k-1) by omega) (show 65536≤2+(k-1) by omega)
    omega
   have:=Nat.mul_le_mul (show 2+k≤65536 by omega) (show 2+k≤65536 by omega)
   omega
 have hc:=Mt hn (q:=2+m) (by omega) (fun r h1 h2=>by have:=hl (r-2) (by omega);rwa [show 2+(r-2)=r by omega] at this) hP
 have sq:∀ k,k≤m→IntKind.i64.wrap (((2+k:Nat):Int)*((2+k:Nat):Int))=(((2+k)*(2+k):Nat):Int):=by
  intro k hk
  have:=small k hk
  rw[← Int.natCast_mul,w64 (by omega)]
 have step:∀ k,k<m→dV n ((2+k:Nat):Int)=some (.inl ((2+(k+1):Nat):Int)):=by
  intro k hk
  have h1:=hl k hk
  have h2:(2+k)*(2+k)≤n:=Nat.le_of_not_lt fun hh=>h1 (.inl hh)
  have h3:¬(2+k) ∣ n:=fun hh=>h1 (.inr hh)
  have hs:=small k (by omega)
  have hk2:2+k≤(2+k)*(2+k):=Nat.le_mul_of_pos_left _ (by omega)
  unfold dV
  rw[sq k (by omega),if_pos (by rw[decide_eq_true_eq];exact Int.ofNat_le.2 h2),if_neg (by omega),if_neg,w64 (by omega)]
  ·simp;omega
  ·rw[Int.tmod_eq_emod_of_nonneg (by omega)]
   simp only[decide_eq_true_eq]
   intro hh
   exact h3 (Nat.dvd_of_mod_eq_zero (by omega))
 by_cases hlast:n<(2+m)*(2+m)
 ·refine⟨.inr (),cT (fun k=>((2+k:Nat):Int)) (n:=m) step ?_,⟨fun _=>hc.1 hlast,fun _=>⟨(),rfl⟩⟩⟩
  unfold dV
  rw[sq m (Nat.le_refl _),if_neg (by rw[decide_eq_true_eq,Int.ofNat_le];exact Nat.not_le.2 hlast)]
 ·have hd:(2+m) ∣ n:=hP.resolve_left hlast
  refine⟨.inl (),cT (fun k=>((2+k:Nat):Int)) (n:=m) step ?_,(by constructor;(rintro⟨u,hu⟩;cases hu);(intro hp;exact absurd (hc.2 hp) hlast))⟩
  unfold dV
  rw[sq m (Nat.le_refl _),if_pos (by rw[decide_eq_true_eq,Int.ofNat_le];exact Nat.le_of_not_lt hlast),if_neg (by omega),if_pos]
  rw[Int.tmod_eq_emod_of_nonneg (by omega)]
  have:=Nat.mod_eq_zero_of_dvd hd
  simp only[decide_eq_true_eq]
  omega
theorem Yh(x n:Nat):x^n=(x*x)^(n/2)*x^(n%2):=by
 have e:x*x=x^2:=by rw[Nat.pow_succ,Nat.pow_one]
 rw[e,← Nat.pow_mul,← Nat.pow_add,Nat.div_add_mod]
theorem Wn{a b p:Nat}(ha:a<2147483648)(hb:b<2147483648):(IntKind.i64.wrap ((a:Int)*(b:Int))).tmod (p:Int)=((a*b%p:Nat):Int):=by
 have:=Nat.mul_le_mul (Nat.le_of_lt ha) (Nat.le_of_lt hb)
 rw[← Int.natCast_mul,w64 (by omega),Int.tmod_eq_emod_of_nonneg (by omega)]
 simp
theorem mR{p a b:Nat}(v2 v3:Int)(hp:0<p)(ha:a<2147483648)(hb:b<2147483648):aS p v2 v3 a b=some ((a*b%p:Nat):Int):=by
 unfold aS
 rw[if_neg (by omega),Wn ha hb]
theorem Pw{p:Nat}(v2 v3:Int)(hp:0<p)(hp2:p≤2147483647):∀(n x o:Nat),x<2147483648→o<p→n≤2147483648→run (cP p v2 v3) ((x:Int),(n:Int),(o:Int))=some ((o*x^n%p:Nat):Int):=by
 intro n
 induction n using Nat.strongRecOn with
 | _ n ih =>
  intro x o hx ho hn
  rcases Nat.eq_zero_or_pos n with h0|h0
  ·subst h0
   refine oV ?_
   unfold cP
   simp only[]
   rw[if_neg (by simp),Nat.pow_zero,Nat.mul_one,Nat.mod_eq_of_lt ho]
  ·have hxx:x*x%p<2147483648:=by have:=Nat.mod_lt (x*x) hp;omega
   have ih2:=ih (n/2) (by omega) (x*x%p)
   have ediv:IntKind.i64.wrap ((n:Int).tdiv 2)=((n/2:Nat):Int):=by
    rw[Int.tdiv_eq_ediv_of_nonneg (by omega),w64 (by omega)];omega
   have emod:(n:Int).tmod 2=((n%2:Nat):Int):=by rw[Int.tmod_eq_emod_of_nonneg (by omega)];omega
   have hpw:=Yh x n
   rcases Nat.mod_two_eq_zero_or_one n with h2|h2
   ·have:=ih2 o hxx ho (by omega)
    rw[sE (s':=(((x*x%p:Nat):Int),((n/2:Nat):Int),(o:Int))),this]
    ·rw[hpw,h2,Nat.pow_zero,Nat.mul_one,Nat.mul_mod,← Nat.pow_mod,← Nat.mul_mod]
    ·unfold cP
     simp only[]
     rw[if_pos (by simp;omega),if_neg (by rw[emod,h2];simp),mR _ _ hp hx hx,ediv]
     rfl
   ·have ho2:o*x%p<p:=Nat.mod_lt _ hp
    have:=ih2 (o*x%p) hxx ho2 (by omega)
    rw[sE (s':=(((x*x%p:Nat):Int),((n/2:Nat):Int),((o*x%p:Nat):Int))),this]
    ·rw[hpw,h2,Nat.pow_one,Nat.mul_mod,Nat.mod_mod,← Nat.pow_mod,← Nat.mul_mod,Nat.mul_right_comm,Nat.mul_assoc]
    ·unfold cP
     simp only[]
     rw[if_pos (by simp;omega),if_pos (by rw[emod,h2];simp),mR _ _ hp (by omega) hx,mR _ _ hp hx hx,ediv]
     rfl
theorem Xb{p n x:Nat}(v2 v3:Int)(hp:2≤p)(hp2:p≤2147483647)(hx:x<2147483648)(hn:n≤2147483648):eD p v2 v3 x n=some ((x^n%p:Nat):Int):=by
 unfold eD
 have:=Pw v2 v3 (by omega) hp2 n x 1 hx (by omega) hn
 rw[Nat.one_mul] at this
 rw[show ((1:Nat):Int)=(1:Int) from rfl] at this
 rw[this]
 rfl
theorem Bi{p r n:Nat}(hp:2≤p)(hp2:p≤2147483647)(hr:r<p)(hn:0<n)(hn2:n≤2147483647):∃ b,cQ p r n=some b∧(b=true↔Ord p r n):=by
 obtain⟨m,hP,hl⟩:=zD (P:=fun k=>r^(k+1)%p=1∨n≤k+1) ⟨n,.inr (by omega)⟩
 have hmn:m+1≤n:=by
  rcases Nat.eq_zero_or_pos m with h0|h0
  ·omega
  ·have:=hl (m-1) (by omega)
   rw[not_or] at this
   omega
 have hlt:∀ k,r^(k+1)%p<p:=fun k=>Nat.mod_lt _ (by omega)
 have hrun:run (cJ p r n) ((r:Int),1)=some (((r^(m+1)%p:Nat):Int),((m+1:Nat):Int)):=by
  have h0:(((r^(0+1)%p:Nat):Int),((0+1:Nat):Int))=((r:Int),(1:Int)):=by
   rw[show 0+1=1 from rfl,Nat.pow_one,Nat.mod_eq_of_lt hr];rfl
  rw[← h0]
  refine cT (fun k=>(((r^(k+1)%p:Nat):Int),((k+1:Nat):Int))) (n:=m) (fun k hk=>?_) ?_
  ·have h1:=hl k hk
   rw[not_or] at h1
   unfold cJ
   simp only[]
   have:=hlt k
   rw[if_pos (by rw[decide_eq_true_eq];omega),if_pos (by rw[decide_eq_true_eq];omega),mR _ _ (by omega) (by omega) (by omega),w64 (by omega)]
   rw[Option.bind_some,← Nat.mod_mul_mod,Nat.mod_mod,Nat.mod_mul_mod,← Nat.pow_succ]
   simp
  ·unfold cJ
   simp only[]
   rcases hP with h1|h1
   ·rw[if_neg (by rw[h1];simp)]
   ·by_cases h2:r^(m+1)%p=1
    ·rw[if_neg (by rw[h2];simp)]
    ·rw[if_pos (by rw[decide_eq_true_eq];omega),if_neg (by rw[decide_eq_true_eq];omega)]
 unfold cQ
 rw[hrun]
 simp only[Option.bind_some]
 by_cases h2:r^(m+1)%p=1
 ·rw[if_pos (by rw[decide_eq_true_eq];omega)]
  refine⟨_,rfl,?_⟩
  rw[decide_eq_true_eq]
  constructor
  ·intro h
   obtain rfl:m+1=n:=by omega
   exact⟨hn,h2,fun k h3 h4 h5=>hl (k-1) (by omega) (.inl (by rw[show k-1+1=k by omega];exact h5))⟩
  ·intro h
   refine Classical.byContradiction fun hc=>h.least (m+1) (by omega) (by omega) h2
 ·rw[if_neg (by rw[decide_eq_true_eq];omega)]
  refine⟨false,rfl,?_⟩
  constructor
  ·intro h;cases h
  ·intro h
   rcases hP with h1|h1
   ·exact absurd h1 h2
   ·obtain rfl:m+1=n:=by omega
    exact absurd h.one h2
structure PrimesInv(n:Nat)(n' q:Nat)(out:List Int):Prop where
 pos:0<n'
 le:n'≤n
 q2:2≤q
 up:∀ r,Pr r→q≤r→(r ∣ n↔r ∣ n')
 low:∀ r,Pr r→r<q→¬ r ∣ n'
 mem:∀ x:Int,x∈out↔∃ r:Nat,x=r∧Pr r∧r<q∧r ∣ n
 len:out.length≤q
theorem Jy(v a b:Int):cF v a b=some (decide (v<a∨v>b),2):=by
 unfold cF aD
 by_cases h:v<a<;>simp[h]
theorem Dt(b:Bool)(e:Int):aA b e=some (if b=true then e else 0):=by
 unfold aA
 cases b<;>rfl
structure Fld(p r n:Nat):Prop where
 prime:Pr p
 le:p≤2147483647
 pos:0<n
 small:n≤1024
 r0:0<r
 lt:r<p
 dvd:n ∣ p-1
 ord:Ord p r n
theorem Ex{x:Int}{p:Nat}(hp:0<p)(hp2:p≤2147483647):eH x p=some (x%(p:Int)):=by
 unfold eH
 rw[if_neg (by omega)]
 have h1:=Int.tmod_lt_of_pos x (show (0:Int)<p by omega)
 have h2:-(p:Int)<x.tmod p:=by
  have h:=Int.natAbs_tmod x p
  have h3:(x.tmod p).natAbs<p:=by
   rw[h]
   simp only[Int.natAbs_natCast]
   exact Nat.mod_lt _ hp
  omega
 have he:x.tmod p=x-p*x.tdiv p:=by have:=Int.tmod_add_mul_tdiv x p;omega
 rw[w64 (by omega),Int.tmod_eq_emod_of_nonneg (by omega),he]
 have:(x-p*x.tdiv p+p)%(p:Int)=x%p:=by
  rw[show x-(p:Int)*x.tdiv p+p=x+p*(1-x.tdiv p) by rw[Int.mul_sub,Int.mul_one];omega,Int.add_mul_emod_self_left]
 rw[this]
def res(p:Nat)(x:Int):Nat:=(x%(p:Int)).toNat
theorem vK{p:Nat}(hp:0<p)(x:Int):(res p x:Int)=x%(p:Int):=by
 have:=Int.emod_nonneg x (show (p:Int)≠0 by omega)
 unfold res
 omega
theorem Yr{p:Nat}(hp:0<p)(x:Int):res p x<p:=by
 have:=Int.emod_lt_of_pos x (show (0:Int)<p by omega)
 have:=vK hp x
 omega
def term(p:Nat)(l:List Int)(r k t:Nat):Nat:=res p (l[t]?.getD 0)*(r^(t*k)%p)%p
def mZ(p:Nat)(l:List Int)(r k:Nat):Nat:=dC (term p l r k) l.length%p
def yE(p r n:Nat):List Int:=(List.range n).map fun i=>((r^i%p:Nat):Int)
theorem Em(p r n:Nat):(yE p r n).length=n:=by simp[yE]
theorem Uj(p r n:Nat):yE p r (n+1)=yE p r n++[((r^n%p:Nat):Int)]:=by simp[yE,List.range_succ]
theorem So{p r n i:Nat}(h:i<n):(yE p r n)[i]?=some ((r^i%p:Nat):Int):=by simp[yE,h]
theorem Ud{p r n:Nat}(hp:2≤p)(hp2:p≤2147483647)(hr:r<p)(hn:0<n)(hn2:n≤1024):gK p r n=some (yE p r n):=by
 unfold gK
 have h1:yE p r (0+1)=[1]:=by
  show [((r^0%p:Nat):Int)]=[1]
  rw[Nat.pow_zero,Nat.mod_eq_of_lt (by omega)]
  rfl
 have:run (dE p r n) [1]=some (yE p r n):=by
  rw[← h1]
  refine cT (fun k=>yE p r (k+1)) (n:=n-1) (fun k hk=>?_) ?_
  ·unfold dE
   have hlt:r^k%p<p:=Nat.mod_lt _ (by omega)
   rw[Em,if_pos (by rw[decide_eq_true_eq];omega),w64 (by omega),tQ (k:=k) (by omega),So (by omega),Option.bind_some,mR _ _ (by omega) (by omega) (by omega),Option.bind_some,yU (by rw[Em];omega) (by omega),Option.bind_some,Uj p r (k+1)]
   rw[Nat.pow_succ,Nat.mod_mul_mod]
  ·unfold dE
   rw[Em,if_neg (by rw[decide_eq_true_eq];omega),show n-1+1=n by omega]
 rw[this]
 rfl
theorem Tj{f:Nat→Nat}{b:Nat}:∀ n,(∀ k,k<n→f k≤b)→dC f n≤n*b
 | 0,_=>by simp[dC]
 | n+1,h=>by
  have h1:=Tj n (fun k hk=>h k (by omega))
  have h2:=h n (by omega)
  simp only[dC,Nat.add_mul,Nat.one_mul]
  omega
theorem Pz{p r n m:Nat}(hp:2≤p)(h:r^n%p=1):r^(m%n)%p=r^m%p:=by
 have e:r^m=r^(n*(m/n))*r^(m%n):=by rw[← Nat.pow_add,Nat.div_add_mod]
 rw[e,Nat.mul_mod,oX hp h,Nat.one_mul,Nat.mod_mod]
theorem To{p:Nat}(hp:0<p)(l:List Int)(r k t:Nat):term p l r k t<p:=Nat.mod_lt _ hp
def trL(p:Nat)(l:List Int)(r n:Nat):List Int:=(List.range n).map fun k=>((mZ p l r k:Nat):Int)
def sQ(p:Nat)(l:List Int)(r n k:Nat):List Int:=(List.range n).map fun j=>if j<k then ((mZ p l r j:Nat):Int) else 0
theorem rT(p:Nat)(l:List Int)(r n k:Nat):(sQ p l r n k).length=n:=by simp[sQ]
theorem zF{p:Nat}{l:List Int}{r n k j:Nat}(h:j<n):(sQ p l r n k)[j]?=some (if j<k then ((mZ p l r j:Nat):Int) else 0):=by simp[sQ,h]
theorem Vm(p:Nat)(l:List Int)(r n:Nat):sQ p l r n 0=List.replicate n 0:=by
 apply List.ext_getElem?
 intro j
 rcases Nat.lt_or_ge j n with h|h
 ·rw[zF h];simp[h]
 ·simp[sQ,h]
theorem Zi(p:Nat)(l:List Int)(r n:Nat):sQ p l r n n=trL p l r n:=by
 unfold sQ trL
 refine List.map_congr_left fun j hj=>?_
 rw[List.mem_range] at hj
 simp[hj]
theorem Zr{p:Nat}{l:List Int}{r n k:Nat}(h:k<n):(sQ p l r n k).set k ((mZ p l r k:Nat):Int)=sQ p l r n (k+1):=by
 apply List.ext_getElem?
 intro j
 rw[List.getElem?_set]
 rcases Nat.lt_or_ge j n with hj|hj
 ·by_cases e:k=j
  ·subst e
   rw[if_pos rfl,if_pos (by rw[rT];exact h),zF hj]
   simp
  ·rw[if_neg e,zF hj,zF hj]
   have:(j<k)↔(j<k+1):=by omega
   simp[this]
 ·by_cases e:k=j
  ·omega
  ·rw[if_neg e]
   simp[sQ,hj]
theorem Vc{p n r k:Nat}{l:List Int}{w:Int}(F:Ord p r n)(hp:2≤p)(hp2:p≤2147483647)(hr:r<p)(hn2:n≤1024)(hl:l.length=n)(hk:k<n) :
 run (bJ p w n l (yE p r n) k) (sQ p l r n k,0)=some ((sQ p l r n k).set k ((dC (term p l r k) n:Nat):Int)):=by
 have hn:=F.pos
 have bound:∀ t,t≤n→dC (term p l r k) t≤t*2147483647:=fun t _=>Tj t fun j _=>by have:=To (show 0<p by omega) l r k j;omega
 have h0:(sQ p l r n k).set k ((dC (term p l r k) 0:Nat):Int)=sQ p l r n k:=by
  apply List.ext_getElem?
  intro j
  rw[List.getElem?_set]
  by_cases e:k=j
  ·subst e
   rw[if_pos rfl,if_pos (by rw[rT];exact hk),zF hk]
   simp[dC]
  ·rw[if_neg e]
 have key:=cT (step:=bJ p w n l (yE p r n) k) (fun t=>((sQ p l r n k).set k ((dC (term p l r k) t:Nat):Int),(t:Int))) (n:=n) (e:=(sQ p l r n k).set k ((dC (term p l r k) n:Nat):Int)) (fun t ht=>?_) ?_
 ·simp only[h0] at key
  exact key
 ·unfold bJ
  simp only[]
  have htk:t*k≤1048576:=Nat.le_trans (Nat.mul_le_mul (show t≤1024 by omega) (show k≤1024 by omega)) (by decide)
  have b1:=bound t (by omega)
  have b2:=To (show 0<p by omega) l r k t
  have hres:=Yr (show 0<p by omega) (l[t]'(by omega))
  have hpl:r^(t*k%n)%p<p:=Nat.mod_lt _ (by omega)
  rw[if_pos (by rw[decide_eq_true_eq];omega),aW,List.getElem?_eq_getElem (by omega),Option.bind_some,aW,List.getElem?_set_self (by rw[rT];exact hk),Option.bind_some,Ex (by omega) hp2,Option.bind_some,if_neg (by omega)]
  rw[tQ (k:=t*k%n) (by rw[← Int.natCast_mul,w64 (by omega),Int.tmod_eq_emod_of_nonneg (by omega)];simp),So (Nat.mod_lt _ hn),Option.bind_some,← vK (show 0<p by omega),mR _ _ (by omega) (by omega) (by omega),Option.bind_some,Pz hp F.one]
  have e:res p (l[t]'(by omega))*(r^(t*k)%p)%p=term p l r k t:=by
   unfold term
   rw[List.getElem?_eq_getElem (by omega)]
   rfl
  rw[e,Int.toNat_natCast,List.set_set,w64 (by omega),w64 (by omega)]
  simp[dC]
 ·unfold bJ
  simp only[]
  rw[if_neg (by rw[decide_eq_true_eq];omega)]
theorem yX{p n r:Nat}{l:List Int}(F:Ord p r n)(hp:2≤p)(hp2:p≤2147483647)(hr:r<p)(hn2:n≤1024)(hl:l.length=n):bE p r n l=some (trL p l r n):=by
 have hn:=F.pos
 unfold bE
 rw[Ud hp hp2 hr hn hn2,Option.bind_some]
 have hmk:mkI 8 (n:Int) (0:Int)=some (List.replicate n 0):=by
  unfold mkI
  simp
  omega
 rw[hmk,Option.bind_some,← Vm p l r n]
 have:run (bX p r n l (yE p r n) (sQ p l r n 0)) (sQ p l r n 0,0)=some (trL p l r n):=by
  rw[← Zi]
  refine cT (fun k=>(sQ p l r n k,(k:Int))) (n:=n) (fun k hk=>?_) ?_
  ·unfold bX
   simp only[]
   rw[rT,if_pos (by rw[decide_eq_true_eq];omega),Vc F hp hp2 hr hn2 hl hk,Option.bind_some,aW,List.getElem?_set_self (by rw[rT];exact hk),Option.bind_some,if_neg (by omega),Int.toNat_natCast,List.set_set,Int.tmod_eq_emod_of_nonneg (by omega),← Int.natCast_emod]
   have e:dC (term p l r k) n%p=mZ p l r k:=by unfold mZ;rw[hl]
   rw[e,Zr hk,w64 (by omega)]
   simp
  ·unfold bX
   simp only[]
   rw[rT,if_neg (by simp)]
 rw[this]
 rfl
theorem Kx(p:Nat)(l:List Int)(r n:Nat):(trL p l r n).length=n:=by simp[trL]
def inv(p a:Nat):Nat:=a^(p-2)%p
theorem yH{p a:Nat}(h:Pr p)(ha:0<a)(hl:a<p):inv p a*a%p=1:=by
 have hp:=h.1
 unfold inv
 rw[Nat.mod_mul_mod,← Nat.pow_succ,show (p-2).succ=p-1 by omega]
 exact h.fermat1 fun hd=>by have:=Nat.le_of_dvd ha hd;omega
theorem Qi{p a:Nat}(v2 v3:Int)(hp:2≤p)(hp2:p≤2147483647)(ha:a<p):cX p v2 v3 a=some ((inv p a:Nat):Int):=by
 unfold cX
 rw[w64 (by omega),show (p:Int)-2=((p-2:Nat):Int) by omega,Xb _ _ hp hp2 (by omega) (by omega)]
 rfl
theorem Tc{p u r n:Nat}(hp:2≤p)(h:u*r%p=1)(F:Ord p r n):Ord p u n:=by
 refine Ord.of_iff F.pos fun m=>?_
 rw[← F.iff hp]
 have e:u^m*r^m%p=1:=by rw[← Nat.mul_pow,Nat.pow_mod,h,Nat.one_pow,Nat.mod_eq_of_lt (by omega)]
 constructor
 ·intro h1
  rw[Nat.mul_mod,h1,Nat.one_mul,Nat.mod_mod] at e
  exact e
 ·intro h1
  rw[Nat.mul_mod,h1,Nat.mul_one,Nat.mod_mod] at e
  exact e
def bkL(p:Nat)(l:List Int)(r n k:Nat):List Int:=(List.range n).map fun j=>if j<k then ((mZ p l (inv p r) j*inv p n%p:Nat):Int) else ((mZ p l (inv p r) j:Nat):Int)
theorem zH(p:Nat)(l:List Int)(r n k:Nat):(bkL p l r n k).length=n:=by simp[bkL]
theorem Jh{p:Nat}{l:List Int}{r n k j:Nat}(h:j<n):(bkL p l r n k)[j]?=some (if j<k then ((mZ p l (inv p r) j*inv p n%p:Nat):Int) else ((mZ p l (inv p r) j:Nat):Int)):=by simp[bkL,h]
theorem Xp(p:Nat)(l:List Int)(r n:Nat):bkL p l r n 0=trL p l (inv p r) n:=by simp[bkL,trL]
theorem aA4{p:Nat}{l:List Int}{r n k:Nat}(h:k<n):(bkL p l r n k).set k ((mZ p l (inv p r) k*inv p n%p:Nat):Int)=bkL p l r n (k+1):=by
 apply List.ext_getElem?
 intro j
 rw[List.getElem?_set]
 rcases Nat.lt_or_ge j n with hj|hj
 ·by_cases e:k=j
  ·subst e
   rw[if_pos rfl,if_pos (by rw[zH];exact h),Jh hj]
   simp
  ·rw[if_neg e,Jh hj,Jh hj]
   have:(j<k)↔(j<k+1):=by omega
   simp[this]
 ·by_cases e:k=j
  ·omega
  ·rw[if_neg e]
   simp[bkL,hj]
theorem Fld.nlt{p r n:Nat}(F:Fld p r n):n<p:=by
 have h1:=F.prime.1
 have:=Nat.le_of_dvd (by omega) F.dvd
 omega
theorem Fld.iord{p r n:Nat}(F:Fld p r n):Ord p (inv p r) n:=Tc F.prime.1 (yH F.prime F.r0 F.lt) F.ord
theorem Zu{p a:Nat}(hp:0<p):inv p a<p:=Nat.mod_lt _ hp
theorem Cu{p:Nat}(hp:0<p)(l:List Int)(r k:Nat):mZ p l r k<p:=Nat.mod_lt _ hp
theorem aAD{p r n:Nat}{l:List Int}(F:Fld p r n)(hl:l.length=n):jP p r n l=some (bkL p l r n n):=by
 have hp:=F.prime.1
 have hp2:=F.le
 have hn2:=F.small
 have hi:=Zu (p:=p) (a:=r) (by omega)
 have hj:=Zu (p:=p) (a:=n) (by omega)
 unfold jP
 rw[Qi _ _ hp hp2 F.lt,Option.bind_some,Qi _ _ hp hp2 F.nlt,Option.bind_some,yX F.iord hp hp2 hi hn2 hl,Option.bind_some]
 have:run (eQ p r n ((inv p n:Nat):Int) (trL p l (inv p r) n)) (trL p l (inv p r) n,0)=some (bkL p l r n n):=by
  rw[← Xp]
  refine cT (fun k=>(bkL p l r n k,(k:Int))) (n:=n) (fun k hk=>?_) ?_
  ·unfold eQ
   simp only[]
   have ht:=Cu (show 0<p by omega) l (inv p r) k
   rw[zH,if_pos (by rw[decide_eq_true_eq];omega),aW,Jh hk,if_neg (by omega),Option.bind_some,mR _ _ (by omega) (by omega) (by omega),Option.bind_some,Int.toNat_natCast,aA4 hk,w64 (by omega)]
   simp
  ·unfold eQ
   simp only[]
   rw[zH,if_neg (by simp)]
 rw[this]
 rfl
theorem Gp(f:Nat→Nat→Nat)(m:Nat):∀ n,dC (fun t=>dC (fun s=>f t s) m) n=dC (fun s=>dC (fun t=>f t s) n) m
 | 0=>by
  show 0=dC (fun _=>0) m
  induction m with
  | zero=>rfl
  | succ m ih=>simp only[dC];omega
 | n+1=>by
  simp only[dC]
  rw[Gp f m n,← Di]
theorem jG{f g:Nat→Nat}{p:Nat}:∀ n,(∀ k,k<n→f k%p=g k%p)→dC f n%p=dC g n%p
 | 0,_=>rfl
 | n+1,h=>by
  simp only[dC]
  rw[Nat.add_mod,jG n (fun k hk=>h k (by omega)),h n (by omega),← Nat.add_mod]
theorem geo(z:Nat):∀ n,(z-1)*dC (fun t=>z^t) n=z^n-1
 | 0=>by simp[dC]
 | n+1=>by
  rcases Nat.eq_zero_or_pos z with h|h
  ·subst h;simp
  ·simp only[dC]
   have:=geo z n
   have h1:1≤z^n:=Nat.pow_pos h
   rw[Nat.mul_add,this,Nat.sub_mul,Nat.one_mul,Nat.pow_succ,Nat.mul_comm z (z^n)]
   have:z^n≤z^n*z:=Nat.le_mul_of_pos_right _ h
   omega
theorem Nl{p z n:Nat}(h:Pr p)(h1:z%p≠1)(hz:0<z)(h2:z^n%p=1):dC (fun t=>z^t) n%p=0:=by
 have hp:=h.1
 have g:=geo z n
 have hd:p ∣ z^n-1:=Nat.dvd_of_mod_eq_zero (Nat.sub_mod_eq_zero_of_mod_eq (by rw[h2,Nat.mod_eq_of_lt (by omega)]))
 rw[← g] at hd
 rcases h.dvd_mul hd with h3|h3
 ·exfalso
  obtain⟨c,hc⟩:=h3
  refine h1 ?_
  rw[show z=1+p*c by omega,Nat.add_mul_mod_self_left,Nat.mod_eq_of_lt (by omega)]
 ·exact Nat.mod_eq_zero_of_dvd h3
theorem Xz(n:Nat):dC (fun _=>1) n=n:=by
 induction n with
 | zero=>rfl
 | succ n ih=>simp only[dC,ih]
theorem Hh{f:Nat→Nat}:∀ n,(∀ k,k<n→f k=0)→dC f n=0
 | 0,_=>rfl
 | n+1,h=>by simp only[dC];rw[Hh n (fun k hk=>h k (by omega)),h n (by omega)]
theorem Bt{f:Nat→Nat}{k:Nat}:∀ n,k<n→(∀ j,j<n→j≠k→f j=0)→dC f n=f k
 | n+1,hk,h=>by
  simp only[dC]
  by_cases e:k=n
  ·subst e
   rw[Hh k (fun j hj=>h j (by omega) (by omega))]
   omega
  ·rw[Bt n (by omega) (fun j hj hh=>h j (by omega) hh),h n (by omega) (fun e2=>e e2.symm)]
   rfl
theorem cross{p u r n s k:Nat}(h:Pr p)(hu:u*r%p=1)(hu0:0<u)(hr0:0<r)(F:Ord p r n)(hs:s<n)(hk:k<n):dC (fun t=>(r^s*u^k)^t) n%p=if s=k then n%p else 0:=by
 have hp:=h.1
 have G:=Tc hp hu F
 by_cases e:s=k
 ·rw[if_pos e]
  subst e
  have h1:(r^s*u^s)%p=1:=by rw[← Nat.mul_pow,Nat.mul_comm,Nat.pow_mod,hu,Nat.one_pow,Nat.mod_eq_of_lt (by omega)]
  rw[jG (g:=fun _=>1) n (fun t _=>by rw[Nat.pow_mod,h1,Nat.one_pow])]
  rw[Xz]
 ·rw[if_neg e]
  refine Nl h (fun h1=>e ?_) (Nat.mul_pos (Nat.pow_pos hr0) (Nat.pow_pos hu0)) ?_
  ·
   rcases Nat.lt_or_ge s k with hlt|hge
   ·exfalso
    have:u^(k-s)%p=1:=by
     rw[show k=s+(k-s) by omega,Nat.pow_add,← Nat.mul_assoc,← Nat.mul_pow,Nat.mul_comm r u,Nat.mul_mod,Nat.pow_mod,hu,Nat.one_pow,Nat.mod_eq_of_lt (show 1<p by omega),Nat.one_mul,Nat.mod_mod] at h1
     exact h1
    exact G.least (k-s) (by omega) (by omega) this
   ·refine Classical.byContradiction fun hne=>?_
    have:r^(s-k)%p=1:=by
     rw[show s=k+(s-k) by omega,Nat.pow_add,Nat.mul_right_comm,← Nat.mul_pow,Nat.mul_comm r u,Nat.mul_mod,Nat.pow_mod,hu,Nat.one_pow,Nat.mod_eq_of_lt (show 1<p by omega),Nat.one_mul,Nat.mod_mod] at h1
     exact h1
    exact F.least (s-k) (by omega) (by omega) this
  ·rw[Nat.mul_pow,← Nat.pow_mul,← Nat.pow_mul,Nat.mul_mod,(F.iff hp).2 (Nat.dvd_mul_left n s),(G.iff hp).2 (Nat.dvd_mul_left n k),Nat.mod_eq_of_lt (by omega)]
theorem Ws{p a:Nat}(h:a<p):res p (a:Int)=a:=by
 have:=vK (show 0<p by omega) (a:Int)
 rw[Int.emod_eq_of_lt (by omega) (by omega)] at this
 omega
theorem aBP{p:Nat}{l:List Int}{r n t:Nat}(h:t<n):(trL p l r n)[t]?=some ((mZ p l r t:Nat):Int):=by simp[trL,h]
theorem xP(p:Nat)(l:List Int)(r k:Nat):mZ p l r k=dC (fun t=>res p (l[t]?.getD 0)*r^(t*k)) l.length%p:=by
 unfold mZ
 refine jG _ fun t _=>?_
 unfold term
 rw[Nat.mod_mod,Nat.mul_mod_mod]
theorem Pl{p r n k:Nat}{l:List Int}(F:Fld p r n)(hl:l.length=n)(hk:k<n):mZ p (trL p l r n) (inv p r) k*inv p n%p=res p (l[k]?.getD 0):=by
 have hp:=F.prime.1
 have hu:=yH F.prime F.r0 F.lt
 have hu0:0<inv p r:=Nat.pos_of_ne_zero fun e=>by rw[e,Nat.zero_mul,Nat.zero_mod] at hu;omega
 have hnn:=yH F.prime F.pos F.nlt
 have e1:mZ p (trL p l r n) (inv p r) k=res p (l[k]?.getD 0)*n%p:=by
  rw[xP,Kx]
  have a1:dC (fun t=>res p ((trL p l r n)[t]?.getD 0)*inv p r^(t*k)) n%p=dC (fun t=>dC (fun s=>res p (l[s]?.getD 0)*(r^s*inv p r^k)^t) n) n%p:=by
   refine jG _ fun t ht=>?_
   rw[aBP ht,Option.getD_some,Ws (Cu (by omega) _ _ _),xP,hl,Nat.mod_mul_mod,Nat.mul_comm,← yG]
   refine jG _ fun s _=>?_
   rw[Nat.mul_pow,← Nat.pow_mul,← Nat.pow_mul,Nat.mul_comm k t,Nat.mul_left_comm,Nat.mul_comm (inv p r^(t*k))]
  rw[a1,Gp]
  have a2:dC (fun s=>dC (fun t=>res p (l[s]?.getD 0)*(r^s*inv p r^k)^t) n) n%p=dC (fun s=>if s=k then res p (l[s]?.getD 0)*n else 0) n%p:=by
   refine jG _ fun s hs=>?_
   rw[yG,← Nat.mul_mod_mod,cross F.prime hu hu0 F.r0 F.ord hs hk]
   by_cases e:s=k
   ·simp[e]
   ·simp[e]
  rw[a2,Bt n hk (fun j _ hj=>by simp[hj])]
  simp
 rw[e1,Nat.mod_mul_mod,Nat.mul_assoc,Nat.mul_comm n,← Nat.mul_mod_mod,hnn,Nat.mul_one,Nat.mod_eq_of_lt (Yr (by omega) _)]
end Go.Rex
namespace Go.Rex
open Go Go.Rex
set_option maxRecDepth 100000
def cg(p:Nat)(a b:Int):Prop:=(p:Int) ∣ a-b
theorem Lb(p:Nat)(a:Int):cg p a a:=⟨0,by omega⟩
theorem yY{p:Nat}{a b:Int}(h:cg p a b):cg p b a:=by
 obtain⟨c,hc⟩:=h
 exact⟨-c,by rw[Int.mul_neg];omega⟩
theorem oY{p:Nat}{a b c:Int}(h:cg p a b)(g:cg p b c):cg p a c:=by
 obtain⟨x,hx⟩:=h
 obtain⟨y,hy⟩:=g
 exact⟨x+y,by rw[Int.mul_add];omega⟩
theorem Po{p:Nat}{a b c d:Int}(h:cg p a b)(g:cg p c d):cg p (a+c) (b+d):=by
 obtain⟨x,hx⟩:=h
 obtain⟨y,hy⟩:=g
 exact⟨x+y,by rw[Int.mul_add];omega⟩
theorem oC{p:Nat}{a b:Int}(c:Int)(h:cg p a b):cg p (c*a) (c*b):=by
 obtain⟨x,hx⟩:=h
 exact⟨c*x,by rw[← Int.mul_sub,hx,Int.mul_left_comm]⟩
theorem Ry{p:Nat}{a b c d:Int}(h:cg p a b)(g:cg p c d):cg p (a*c) (b*d):=by
 have h1:=oC c h
 have h2:=oC b g
 rw[Int.mul_comm c a,Int.mul_comm c b] at h1
 exact oY h1 h2
theorem Wm{p:Nat}(a:Int):cg p (a%(p:Int)) a:=by
 have:=Int.mul_ediv_add_emod a p
 exact⟨-(a/p),by rw[Int.mul_neg];omega⟩
theorem aCL{p:Nat}{a b:Int}(h:cg p a b):a%(p:Int)=b%(p:Int):=(Int.emod_emod_of_dvd a (Int.dvd_refl _)).symm.trans (by
 obtain⟨c,hc⟩:=h
 rw[show a=b+p*c by omega,Int.add_mul_emod_self_left,Int.emod_emod_of_dvd _ (Int.dvd_refl _)])
theorem vQ{p:Nat}{f g:Nat→Int}:∀ n:Nat,(∀ t,t<n→cg p (f t) (g t))→cg p (isum f n) (isum g n)
 | 0,_=>Lb _ _
 | n+1,h=>by
  simp only[isum]
  exact Po (vQ n fun t ht=>h t (by omega)) (h n (by omega))
theorem Az(g:Nat→Int):∀ n:Nat,isum g (n+1)=g 0+isum (fun t=>g (t+1)) n
 | 0=>by simp[isum]
 | n+1=>by
  have:=Az g n
  rw[isum,this]
  simp only[isum]
  omega
theorem yV{p:Nat}{G:Nat→Int}{n:Nat}(hper:∀ u,cg p (G (u+n)) (G u)):∀ m:Nat,cg p (isum (fun t=>G (t+m)) n) (isum G n)
 | 0=>Lb _ _
 | m+1=>by
  have ih:=yV hper m
  have h1:=Az (fun t=>G (t+m)) n
  simp only[isum] at h1
  have h2:=hper m
  have e:isum (fun t=>G (t+(m+1))) n=isum (fun t=>G (t+m)) n+(G (n+m)-G (0+m)):=by
   have e0:isum (fun t=>G (t+(m+1))) n=isum (fun t=>G (t+1+m)) n:=aG fun t _=>by rw[show t+(m+1)=t+1+m by omega]
   omega
  rw[e]
  have h3:cg p (G (n+m)-G (0+m)) 0:=by
   obtain⟨c,hc⟩:=h2
   rw[Nat.add_comm] at hc
   exact⟨c,by rw[Nat.zero_add];omega⟩
  have:=Po ih h3
  rwa [Int.add_zero] at this
def pwr(r k t:Nat):Int:=((r^(t*k):Nat):Int)
def hat(n r:Nat)(a:Nat→Int)(k:Nat):Int:=isum (fun t=>a t*pwr r k t) n
theorem Cs(r k s t:Nat):pwr r k (s+t)=pwr r k s*pwr r k t:=by
 unfold pwr
 rw[Nat.add_mul,Nat.pow_add,Int.natCast_mul]
theorem Td{p r n:Nat}(hp:2≤p)(h:r^n%p=1)(k:Nat):cg p (pwr r k n) 1:=by
 unfold pwr
 have:=oX hp h k
 have e:=Nat.div_add_mod (r^(n*k)) p
 exact⟨((r^(n*k)/p:Nat):Int),by rw[← Int.natCast_mul];omega⟩
section
variable {p r n:Nat} (hp:2≤p) (h1:r^n%p=1) {s:Nat→Int} (hs:∀ u,s (u+n)=s u)
include hp h1 hs
theorem aAs(k u:Nat):cg p (s (u+n)*pwr r k (u+n)) (s u*pwr r k u):=by
 rw[hs,Cs]
 refine oC _ ?_
 have:=oC (pwr r k u) (Td hp h1 k)
 rwa [Int.mul_one] at this
theorem conv(a:Nat→Int)(k:Nat):cg p (hat n r (fun t=>isum (fun j=>a j*s (t+(n-j))) n) k) (hat n r a k*hat n r s k):=by
 unfold hat
 have e1:isum (fun t=>isum (fun j=>a j*s (t+(n-j))) n*pwr r k t) n=isum (fun j=>a j*isum (fun t=>s (t+(n-j))*pwr r k t) n) n:=by
  rw[aG (fun t _=>(mS _ _ _).symm),pZ]
  refine aG (fun j _=>?_)
  rw[← mU]
  exact aG (fun t _=>Int.mul_assoc _ _ _)
 rw[e1,← mS]
 refine vQ n (fun j hj=>?_)
 rw[Int.mul_assoc]
 refine oC _ ?_
 have sh:=yV (G:=fun u=>s u*pwr r k u) (aAs hp h1 hs k) (n-j)
 refine oY ?_ (oC _ sh)
 rw[← mU]
 refine vQ n (fun t _=>?_)
 have e:pwr r k j*(s (t+(n-j))*pwr r k (t+(n-j)))=s (t+(n-j))*(pwr r k t*pwr r k n):=by
  rw[Int.mul_left_comm,← Cs,← Cs,show j+(t+(n-j))=t+n by omega]
 rw[e]
 refine oC _ (yY ?_)
 have:=oC (pwr r k t) (Td hp h1 k)
 rwa [Int.mul_one] at this
theorem spectrum{w:Nat}(hw:w*r%p=1)(k:Nat):cg p (hat n r s k*hat n w s k) (isum (fun t=>isum (fun u=>s u*s (t+u)) n*pwr r k t) n):=by
 have inv_:∀ u,cg p (pwr r k u*pwr w k u) 1:=by
  intro u
  unfold pwr
  rw[← Int.natCast_mul,← Nat.mul_pow,Nat.mul_comm r w]
  have e:(w*r)^(u*k)%p=1:=by
   rw[Nat.pow_mod,hw,Nat.one_pow,Nat.mod_eq_of_lt (by omega)]
  have e2:=Nat.div_add_mod ((w*r)^(u*k)) p
  exact⟨(((w*r)^(u*k)/p:Nat):Int),by rw[← Int.natCast_mul];omega⟩
 have e1:hat n r s k*hat n w s k=isum (fun u=>s u*pwr w k u*hat n r s k) n:=by
  rw[mS,Int.mul_comm];rfl
 have e2:isum (fun t=>isum (fun u=>s u*s (t+u)) n*pwr r k t) n=isum (fun u=>isum (fun t=>s u*s (t+u)*pwr r k t) n) n:=by
  rw[aG (fun t _=>(mS _ _ _).symm),pZ]
 rw[e1,e2]
 refine vQ n (fun u _=>?_)
 have sh:=yY (yV (G:=fun u=>s u*pwr r k u) (aAs hp h1 hs k) u)
 refine oY (oC _ sh) ?_
 rw[← mU]
 refine vQ n (fun t _=>?_)
 have e:s u*pwr w k u*(s (t+u)*pwr r k (t+u))=s u*s (t+u)*pwr r k t*(pwr r k u*pwr w k u):=by
  rw[Cs]
  generalize s u=x;generalize pwr w k u=y;generalize s (t+u)=z;generalize pwr r k t=v;generalize pwr r k u=q
  rw[Int.mul_assoc x y,Int.mul_assoc (x*z) v,Int.mul_assoc x z]
  congr 1
  rw[Int.mul_left_comm y z,Int.mul_comm y (v*q),Int.mul_assoc v q y]
 rw[e]
 have:=oC (s u*s (t+u)*pwr r k t) (inv_ u)
 rwa [Int.mul_one] at this
end
end Go.Rex
namespace Go.Rex
open Go Go.Rex
set_option maxRecDepth 100000
theorem Hf{α β γ ε:Type}(g:α→β)(h:α→γ)(fin:List β×List γ→ε):∀(l:List α) (b:List β×List γ),walk (fun b z=>(.inl (b.1++[g z],b.2++[h z]):List β×List γ ⊕ ε)) fin b l=fin (b.1++l.map g,b.2++l.map h)
 | [],b=>by simp[walk]
 | z::l,b=>by
  simp only[walk]
  rw[Hf g h fin l]
  simp
noncomputable def nr(x:Int):Nat:=FloatKind.f32.nearest x
def mx{α:Type}(old new:Nat→α)(m k:Nat):List α:=(List.range m).map fun i=>if i<k then new i else old i
section
variable {α:Type} {old new:Nat→α} {m:Nat}
theorem Wj(k:Nat):(mx old new m k).length=m:=by unfold mx;simp
theorem Vy(k:Nat){i:Nat}(hi:i<m):(mx old new m k)[i]?=some (if i<k then new i else old i):=by
 unfold mx
 rw[List.getElem?_map,List.getElem?_range hi]
 rfl
theorem aCz{k:Nat}(hk:k<m):(mx old new m k)[k]?=some (old k):=by rw[Vy k hk,if_neg (by omega)]
theorem aCf{k:Nat}(hk:k<m):(mx old new m k).set k (new k)=mx old new m (k+1):=by
 apply List.ext_getElem?
 intro i
 rw[List.getElem?_set,Wj]
 by_cases hi:i<m
 ·rw[Vy (k+1) hi]
  by_cases q:k=i
  ·subst q
   rw[if_pos rfl,if_pos hi,if_pos (by omega)]
  ·rw[if_neg q,Vy k hi]
   by_cases c:i<k
   ·rw[if_pos c,if_pos (by omega)]
   ·rw[if_neg c,if_neg (by omega)]
 ·have hn2:∀ j,(mx old new m j)[i]?=none:=fun j=>List.getElem?_eq_none (by rw[Wj];omega)
  rw[hn2,hn2,if_neg (by omega)]
theorem aAW:mx old new m 0=(List.range m).map old:=by
 unfold mx
 apply List.map_congr_left
 intro i _
 rw[if_neg (by omega)]
theorem aAy:mx old new m m=(List.range m).map new:=by
 unfold mx
 apply List.map_congr_left
 intro i hi
 rw[List.mem_range] at hi
 rw[if_pos hi]
end
section
variable {v:List (List (Nat×Nat))} {m:Nat} (hv:∀ l∈v,GoodL l∧l.length=m) (lv:1≤v.length∧v.length≤32) (lm:m≤1024)
include hv lv
include lm
end
theorem aCX(x:Option (List (Nat×Nat)×Int)):(x.bind fun (a,b)=>some (a,b))=x:=by cases x<;>rfl
end Go.Rex
namespace Go.Rex
open Go Go.Rex
set_option maxRecDepth 100000
def qA(p:Nat)(l S:List Int)(r k:Nat):Nat:=mZ p l r k*inv p (mZ p S r k)%p
def Kr(p:Nat)(l S:List Int)(r n:Nat):List Int:=(List.range n).map fun k=>((qA p l S r k:Nat):Int)
def bA(p:Nat)(l S:List Int)(r n k:Nat):Nat:=mZ p (Kr p l S r n) (inv p r) k*inv p n%p
def aA7(p:Nat)(x:Int):Int:=if 2*x>p then x-p else x
def unX(p:Nat)(l S:List Int)(r n k:Nat):Int:=aA7 p (bA p l S r n k)
def unW(p:Nat)(l S:List Int)(r n:Nat):List Int:=(List.range n).map (unX p l S r n)
section
variable {p r n:Nat} {l S:List Int} (F:Fld p r n)
include F
theorem Wv(k:Nat):bA p l S r n k<p:=Nat.mod_lt _ (by have:=F.r0;have:=F.lt;omega)
theorem aAS{a b:Nat}(ha:a<p)(hb:b<p):IntKind.i64.wrap ((a:Int)*(b:Int))=((a*b:Nat):Int)∧(((a*b:Nat):Int)).tmod (p:Int)=((a*b%p:Nat):Int):=by
 have hp:=F.le
 have h:a*b≤2147483647*2147483647:=Nat.mul_le_mul (by omega) (by omega)
 constructor
 ·rw[← Int.natCast_mul,w64 (by omega)]
 ·rw[Int.tmod_eq_emod_of_nonneg (by omega)];exact (Int.natCast_emod _ _).symm
theorem aBl(hl:l.length=n):bE p r n l=some (trL p l r n):=by
 have h2:=F.prime.1
 exact yX F.ord h2 F.le F.lt F.small hl
theorem Se{k:Nat}(hk:k<n):(trL p l r n)[k]?=some ((mZ p l r k:Nat):Int):=by simp[trL,hk]
theorem Vh(hl:l.length=n):fJ p r n (trL p l r n) (trL p S r n)=some (Kr p l S r n):=by
 have h2:=F.prime.1
 have hs:=F.small
 have key:=lU (step:=bQ p r n (trL p l r n) (trL p S r n)) (st:=fun k (_:Unit)=>((List.range k).map (fun k=>((qA p l S r k:Nat):Int)),(k:Int))) (g:=fun _ x=>x) (fin:=fun _=>Kr p l S r n) n (fun _ _=>True) (b0:=()) trivial
  (fun k _ hk _=>⟨by
   have a1:mZ p l r k<p:=Nat.mod_lt _ (by omega)
   have a2:mZ p S r k<p:=Nat.mod_lt _ (by omega)
   have a3:inv p (mZ p S r k)<p:=Nat.mod_lt _ (by omega)
   obtain⟨p1,p2⟩:=aAS F a1 a3
   unfold bQ aS
   try simp only
   rw[if_pos (by rw[decide_eq_true_eq];rw[Kx];omega),aW,Se F hk,Option.bind_some,aW,Se F hk,Option.bind_some,Qi _ _ h2 F.le a2,Option.bind_some,if_neg (by omega),p1,p2,Option.bind_some]
   unfold nB
   rw[if_pos (by simp;omega),Option.bind_some,wsucc (n:=1024) (by omega) (by decide),List.range_succ,List.map_append]
   rfl,trivial⟩) (fun _ _=>by
   unfold bQ
   try simp only
   rw[if_neg (by rw[decide_eq_true_eq];rw[Kx];omega)]
   rfl)
 have k1:=key.1
 unfold fJ
 have k2:run (bQ p r n (trL p l r n) (trL p S r n)) (([]:List Int),0)=some (Kr p l S r n):=k1
 rw[k2,Option.bind_some]
theorem aBK:bkL p (Kr p l S r n) r n n=(List.range n).map fun k=>((bA p l S r n k:Nat):Int):=by
 unfold bkL
 apply List.map_congr_left
 intro k hk
 rw[List.mem_range] at hk
 rw[if_pos hk]
 rfl
theorem Zk(k:Nat):gN p r n ((bA p l S r n k:Nat):Int)=some (unX p l S r n k):=by
 have hp:=F.le
 have h:=Wv (l:=l) (S:=S) F k
 unfold gN unX aA7
 have e:(p:Int).tdiv 2=((p/2:Nat):Int):=by rw[Int.tdiv_eq_ediv_of_nonneg (by omega)];omega
 rw[e,w64 (x:=((p/2:Nat):Int)) (by omega),w64 (x:=((bA p l S r n k:Nat):Int)-p) (by omega)]
 by_cases c:2*((bA p l S r n k:Nat):Int)>p
 ·rw[if_pos c,if_pos (by rw[decide_eq_true_eq];omega)]
 ·rw[if_neg c,if_neg (by rw[decide_eq_true_eq];omega)]
theorem Sg(hl:l.length=n):bT p r n l (trL p S r n)=some (unW p l S r n):=by
 have hs:=F.small
 have key:=lU (step:=cL p r n (bkL p (Kr p l S r n) r n n)) (st:=fun k (_:Unit)=>(mx (fun k=>((bA p l S r n k:Nat):Int)) (unX p l S r n) n k,(k:Int))) (g:=fun _ x=>x) (fin:=fun _=>unW p l S r n) n (fun _ _=>True) (b0:=()) trivial
  (fun k _ hk _=>⟨by
   unfold cL
   try simp only
   rw[if_pos (by rw[decide_eq_true_eq,zH];omega),aW,aCz hk,Option.bind_some,Zk F,Option.bind_some,show ((k:Int)).toNat=k by omega,← aCf (old:=fun k=>((bA p l S r n k:Nat):Int)) (new:=unX p l S r n) hk,wsucc (n:=1024) (by omega) (by decide)],trivial⟩) (fun _ _=>by
   unfold cL
   try simp only
   rw[if_neg (by rw[decide_eq_true_eq,zH];omega),aAy]
   rfl)
 have k1:=key.1
 simp only[Int.natCast_zero] at k1
 rw[aAW,← aBK F] at k1
 unfold bT
 rw[aBl F hl,Option.bind_some,Vh F hl,Option.bind_some,aAD F (by unfold Kr;simp),Option.bind_some,k1,Option.bind_some]
end
theorem Vk(X Y:Nat→Int){n:Nat}(hn:n≤1024):run (bZ ((List.range n).map X) ((List.range n).map Y)) (([]:List (Int×Int)),0)=some ((List.range n).map fun k=>(X k,Y k)):=by
 have at_:∀(f:Nat→Int) (k:Nat),k<n→((List.range n).map f)[k]?=some (f k):=fun f k hk=>by rw[List.getElem?_map,List.getElem?_range hk];rfl
 have key:=lU (step:=bZ ((List.range n).map X) ((List.range n).map Y)) (st:=fun k (_:Unit)=>((List.range k).map (fun k=>(X k,Y k)),(k:Int))) (g:=fun _ x=>x) (fin:=fun _=>(List.range n).map fun k=>(X k,Y k)) n (fun _ _=>True) (b0:=()) trivial
  (fun k _ hk _=>⟨by
   unfold bZ
   try simp only
   rw[if_pos (by rw[decide_eq_true_eq];simp only[List.length_map,List.length_range];omega),aW,at_ X k hk,Option.bind_some,aW,at_ Y k hk,Option.bind_some]
   unfold nB
   rw[if_pos (by simp;omega),Option.bind_some,wsucc (n:=1024) (by omega) (by decide),List.range_succ,List.map_append]
   rfl,trivial⟩) (fun _ _=>by
   unfold bZ
   try simp only
   rw[if_neg (by rw[decide_eq_true_eq];simp only[List.length_map,List.length_range];omega)])
 exact key.1
theorem Ru(W:List (Int×Int))(lW:W.length≤1024):mT W=some (W.map (·.1),W.map (·.2)):=by
 have key:=xW (step:=gM W) (fun k (b:List Int×List Int)=>(b.1,b.2,(k:Int))) (fun b z=>(.inl (b.1++[z.1],b.2++[z.2]):(List Int×List Int) ⊕ (List Int×List Int))) (fun b=>b) (fun k b=>b.1.length=k∧b.2.length=k) W
  (fun k z b hz hb=>by
   have hk:=(List.getElem?_eq_some_iff.1 hz).1
   refine⟨?_,fun b' hb'=>by obtain rfl:=Sum.inl.inj hb';simp[hb.1,hb.2]⟩
   unfold gM
   try simp only
   rw[if_pos (by rw[decide_eq_true_eq];omega),aW,hz,Option.bind_some]
   try simp only
   unfold nB
   rw[if_pos (by simp;omega),Option.bind_some,if_pos (by simp;omega),Option.bind_some,wsucc (n:=1024) (by omega) (by decide)])
  (fun b hb=>by
   unfold gM
   try simp only
   rw[if_neg (by rw[decide_eq_true_eq];omega)]) (b0:=([],[])) ⟨rfl,rfl⟩
 rw[Hf] at key
 have k2:run (gM W) (([]:List Int),([]:List Int),0)=some (W.map (·.1),W.map (·.2)):=key
 unfold mT
 rw[k2,Option.bind_some]
end Go.Rex
namespace Go.Rex
open Go Go.Rex
set_option maxRecDepth 100000
noncomputable def otV(W:List (Int×Int))(S:List Int)(p r n:Nat):List (Nat×Nat)×Int:=rec ((List.range n).map fun k=>(unX p (W.map (·.1)) S r n k,unX p (W.map (·.2)) S r n k))
section
variable {L:Nat} {ts:List Nat} {s p r n:Nat}
theorem Xd(hr:Reg L ts)(h0:0<s)(hs:s<2^L)(F:Fld p r n){l:List (Nat×Nat)}(G:GoodL l)(hl:l.length=n)(hn:n=2^L-1):((cB L (ints ts) s).bind fun v15 =>
 (bE p r n v15).bind fun v16 =>
 (cR l).bind fun v17 =>
 (mT v17).bind fun (v18,v19) =>
 (bT p r n v18 v16).bind fun v20 =>
 (bT p r n v19 v16).bind fun v21 =>
 (run (bZ v20 v21) (([]:List (Int×Int)),0)).bind fun v31 =>
 (bV v31).bind fun (v32,v33) =>
 some (v32,v33))=some (otV (nums l) (sgl L ts s (2^L-1)) p r n):=by
 have hs2:=F.small
 have ln:=kQ L ts s (2^L-1)
 have nl:=zC l
 rw[Ax hr h0 hs,Option.bind_some]
 generalize sgl L ts s (2^L-1)=S at *
 rw[aBl F (l:=S) (by omega),Option.bind_some,Ab G,Option.bind_some]
 generalize nums l=W at *
 rw[Ru W (by omega),Option.bind_some]
 dsimp only
 rw[Sg F (l:=W.map (·.1)) (by rw[List.length_map];omega),Option.bind_some,Sg F (l:=W.map (·.2)) (by rw[List.length_map];omega),Option.bind_some]
 unfold unW
 rw[Vk _ _ hs2,Option.bind_some,aCX]
 exact yF _ (by simp only[List.length_map,List.length_range];omega)
end
theorem Uk(l:List (Nat×Nat)){L:Nat}(t:List Int)(p r n:Int)(hL:L≤8):dK l L t p r n=some (if l.length=2^L-1∧n=((2^L-1:Nat):Int) then 0 else 13):=by
 unfold dK aD aA
 rw[tA hL,Option.bind_some]
 by_cases h:l.length=2^L-1
 ·rw[if_neg (by simp;omega),Option.bind_some]
  by_cases h2:n=((2^L-1:Nat):Int)
  ·rw[if_pos ⟨h,h2⟩,decide_eq_false (show ¬ n≠((2^L-1:Nat):Int) from fun x=>x h2)]
   rfl
  ·rw[if_neg (fun x=>h2 x.2),decide_eq_true h2]
   rfl
 ·have h':¬((l.length:Int)=((2^L-1:Nat):Int)):=by omega
  rw[if_pos (show decide ((l.length:Int)≠((2^L-1:Nat):Int))=true from decide_eq_true h'),if_neg (show ¬(l.length=2^L-1∧n=((2^L-1:Nat):Int)) from fun x=>h x.1)]
  rfl
theorem aCZ{l:List (Nat×Nat)}{L:Nat}{ts:List Nat}{s p r n:Nat}(ht:(ints ts).length≤12)(hl:lE l=0)(hc:chk L (ints ts)=0)(hr:Reg L ts)(h0:0<s)(hs:s<2^L)(hp:uM L ts 1 (2^L-1))(F:Fld p r n)(c1:gE p r n=some 0)(h2:l.length=2^L-1)(h3:n=2^L-1):gJ l L (ints ts) s p r n=some (otV (nums l) (sgl L ts s (2^L-1)) p r n):=by
 have hL:=hr.most
 have hin:1≤(s:Int)∧(s:Int)≤((2^L-1:Nat):Int):=by omega
 unfold gJ iT aZ gZ kR
 rw[Option.bind_some,Option.bind_some,Aj]
 simp only
 rw[Option.bind_some,if_neg (by simpa using hl),Ap _ _ ht,Option.bind_some,hc,if_neg (by decide),uX _ _ hL,Option.bind_some,if_pos hin,if_neg (by decide),c1,Option.bind_some,Option.bind_some,aBc hr hp (Nat.le_refl _),Option.bind_some,Uk l _ _ _ _ hL,if_neg (by decide),if_pos rfl,if_neg (by decide),Option.bind_some,if_pos (show l.length=2^L-1∧(n:Int)=((2^L-1:Nat):Int) from ⟨h2,by omega⟩),if_neg (by decide),Option.bind_some,if_neg (by decide)]
 exact Xd hr h0 hs F (Jd hl) (by omega) (by omega)
end Go.Rex
namespace Go.Rex
open Go Go.Rex
set_option maxRecDepth 100000
theorem xV{L:Nat}{ts:List Nat}{q:Nat}(hr:Reg L ts)(hm:Maxi L ts)(h0:0<q)(hs:q<2^L)(u:Nat):sgq L ts q (u+(2^L-1))=sgq L ts q u:=by
 have hp:=(zK hr hm h0 hs).1.2
 have:=Qy hr hp 1 u
 rw[Nat.mul_one] at this
 unfold sgq bt
 rw[this]
theorem zZ(f:Nat→Nat):∀ n,((dC f n:Nat):Int)=isum (fun t=>((f t:Nat):Int)) n
 | 0=>rfl
 | n+1=>by
  simp only[dC,isum]
  rw[Int.natCast_add,zZ f n]
theorem aCa{L:Nat}{ts:List Nat}{q p r:Nat}(hr:Reg L ts)(hm:Maxi L ts)(h0:0<q)(hs:q<2^L)(F:Fld p r (2^L-1))(hlt:2^L<p){k:Nat}(hk:k<2^L-1):¬ cg p (hat (2^L-1) r (sgq L ts q) k) 0:=by
 have hp:=F.prime.1
 have h1:=pL hr
 intro h
 rcases Nat.eq_zero_or_pos k with rfl|hk0
 ·have e : hat (2 ^ L - 1) r (sgq L ts q) 0 = -1 := by
    have:=Hx hr hm h0 hs 0
    rw[← this]
    unfold hat
    refine aG (fun t _=>?_)
    unfold pwr
    rw[Nat.mul_zero,Nat.pow_zero,Nat.add_zero]
    exact Int.mul_one _
  rw[e] at h
  obtain⟨c,hc⟩:=h
  have:(p:Int) ∣ 1:=⟨-c,by rw[Int.mul_neg];omega⟩
  have:=Int.le_of_dvd (by decide) this
  omega
 ·have sp:=spectrum hp F.ord.one (fun u=>xV hr hm h0 hs u) (yH F.prime F.r0 F.lt) k
  have e:isum (fun t=>isum (fun u=>sgq L ts q u*sgq L ts q (t+u)) (2^L-1)*pwr r k t) (2^L-1)=((2^L:Nat):Int)-isum (pwr r k) (2^L-1):=by
   have e1:∀ t,t<2^L-1→isum (fun u=>sgq L ts q u*sgq L ts q (t+u)) (2^L-1)*pwr r k t=(if t=0 then ((2^L:Nat):Int) else 0)-pwr r k t:=by
    intro t ht
    have c:=Ee hr hm h0 hs ht
    have c':isum (fun u=>sgq L ts q u*sgq L ts q (t+u)) (2^L-1)=if t=0 then ((2^L-1:Nat):Int) else -1:=c
    rw[c']
    by_cases z:t=0
    ·subst z
     have p0:pwr r k 0=1:=by unfold pwr;rw[Nat.zero_mul,Nat.pow_zero];rfl
     rw[if_pos rfl,if_pos rfl,p0]
     omega
    ·rw[if_neg z,if_neg z]
     omega
   rw[aG e1,uW,zS,if_pos (by omega)]
  rw[e] at sp
  have g:cg p (isum (pwr r k) (2^L-1)) 0:=by
   have z:=Nl F.prime (z:=r^k) (n:=2^L-1) (F.ord.least k hk0 hk) (Nat.pow_pos F.r0) (by rw[← Nat.pow_mul,Nat.mul_comm,Nat.pow_mul,Nat.pow_mod,F.ord.one,Nat.one_pow,Nat.mod_eq_of_lt (by omega)])
   have e2:isum (pwr r k) (2^L-1)=((dC (fun t=>(r^k)^t) (2^L-1):Nat):Int):=by
    rw[zZ]
    refine aG (fun t _=>?_)
    unfold pwr
    rw[← Nat.pow_mul,Nat.mul_comm]
   rw[e2]
   obtain⟨c,hc⟩:=Nat.dvd_of_mod_eq_zero z
   exact⟨(c:Int),by rw[hc,Int.natCast_mul];omega⟩
  have a:=oC (hat (2^L-1) (inv p r) (sgq L ts q) k) h
  rw[Int.mul_zero,Int.mul_comm] at a
  have b:=Po (oY (yY sp) a) g
  have b':cg p ((2^L:Nat):Int) 0:=by
   rw[Int.add_zero] at b
   rwa [show ((2^L:Nat):Int)-isum (pwr r k) (2^L-1)+isum (pwr r k) (2^L-1)=((2^L:Nat):Int) by omega] at b
  have b2:(p:Int) ∣ ((2^L:Nat):Int):=by
   unfold cg at b'
   rwa [Int.sub_zero] at b'
  have:=Int.le_of_dvd (by omega) b2
  omega
theorem Qc{p r n:Nat}{l:List Int}(hp:2≤p)(hl:l.length=n)(k:Nat):cg p ((mZ p l r k:Nat):Int) (hat n r (fun t=>l[t]?.getD 0) k):=by
 rw[xP,hl,Int.natCast_emod]
 refine oY (Wm _) ?_
 rw[zZ]
 refine vQ n (fun t _=>?_)
 rw[Int.natCast_mul,vK (by omega)]
 have:=oC (((r^(t*k):Nat):Int)) (Wm (p:=p) (l[t]?.getD 0))
 rw[Int.mul_comm,Int.mul_comm ((r^(t*k):Nat):Int)] at this
 unfold pwr
 exact this
theorem Va{p a b:Nat}(h:cg p ((a:Nat):Int) ((b:Nat):Int)):a%p=b%p:=by
 have:=aCL h
 rw[← Int.natCast_emod,← Int.natCast_emod] at this
 exact Int.ofNat.inj this
theorem Gs{L:Nat}{ts:List Nat}{q p r:Nat}(hr:Reg L ts)(hm:Maxi L ts)(h0:0<q)(hs:q<2^L)(F:Fld p r (2^L-1))(hlt:2^L<p)(a:Nat→Int)(y:List Int)(hy:y.length=2^L-1)
 (hya:∀ t,t<2^L-1→y[t]?.getD 0=isum (fun j=>a j*sgq L ts q (t+(2^L-1-j))) (2^L-1)) {k:Nat} (hk:k<2^L-1) (hb:2*(a k).natAbs<p):unX p y (sgl L ts q (2^L-1)) r (2^L-1) k=a k:=by
 have hp:=F.prime.1
 have h1:=pL hr
 have la:((List.range (2^L-1)).map a).length=2^L-1:=by simp
 have aat:∀ t,t<2^L-1→((List.range (2^L-1)).map a)[t]?.getD 0=a t:=fun t ht=>by rw[List.getElem?_map,List.getElem?_range ht];rfl
 have sat:∀ t,t<2^L-1→(sgl L ts q (2^L-1))[t]?.getD 0=sgq L ts q t:=fun t ht=>by
  have:=Jk hr hm h0 hs t
  rw[Nat.mod_eq_of_lt ht] at this
  rw[← this]
  unfold atS
  rw[List.getD_eq_getElem?_getD]
 have key:Kr p y (sgl L ts q (2^L-1)) r (2^L-1)=Rex.trL p ((List.range (2^L-1)).map a) r (2^L-1):=by
  unfold Kr Rex.trL
  apply List.map_congr_left
  intro k hk
  rw[List.mem_range] at hk
  congr 1
  have t1:=Qc (r:=r) hp hy k
  have t2:=Qc (r:=r) hp la k
  have t3:=Qc (r:=r) hp (kQ L ts q (2^L-1)) k
  have e1:hat (2^L-1) r (fun t=>y[t]?.getD 0) k=hat (2^L-1) r (fun t=>isum (fun j=>a j*sgq L ts q (t+(2^L-1-j))) (2^L-1)) k:=aG fun t ht=>by show y[t]?.getD 0*_=_;rw[hya t ht]
  have e2:hat (2^L-1) r (fun t=>((List.range (2^L-1)).map a)[t]?.getD 0) k=hat (2^L-1) r a k:=aG fun t ht=>by show ((List.range (2^L-1)).map a)[t]?.getD 0*_=_;rw[aat t ht]
  have e3:hat (2^L-1) r (fun t=>(sgl L ts q (2^L-1))[t]?.getD 0) k=hat (2^L-1) r (sgq L ts q) k:=aG fun t ht=>by show (sgl L ts q (2^L-1))[t]?.getD 0*_=_;rw[sat t ht]
  rw[e1] at t1
  rw[e2] at t2
  rw[e3] at t3
  have cv:=conv hp F.ord.one (fun u=>xV hr hm h0 hs u) a k
  have ne:=aCa hr hm h0 hs F hlt hk
  have lA:mZ p ((List.range (2^L-1)).map a) r k<p:=Cu (by omega) _ _ _
  have lS:mZ p (sgl L ts q (2^L-1)) r k<p:=Cu (by omega) _ _ _
  have m:=oY (oY t1 cv) (yY (Ry t2 t3))
  unfold qA
  generalize mZ p y r k=Y at *
  generalize mZ p ((List.range (2^L-1)).map a) r k=A at *
  generalize mZ p (sgl L ts q (2^L-1)) r k=Z at *
  have hZ:0<Z:=Nat.pos_of_ne_zero fun e=>by
   subst e
   exact ne (yY t3)
  have iv:=yH F.prime hZ lS
  have m2:cg p ((Y*inv p Z:Nat):Int) ((A:Nat):Int):=by
   rw[Int.natCast_mul]
   refine oY (Ry m (Lb p ((inv p Z:Nat):Int))) ?_
   rw[Int.mul_assoc]
   have one:cg p (((Z:Nat):Int)*((inv p Z:Nat):Int)) 1:=by
    rw[← Int.natCast_mul,Nat.mul_comm]
    have e2:=Nat.div_add_mod (inv p Z*Z) p
    exact⟨((inv p Z*Z/p:Nat):Int),by rw[← Int.natCast_mul];omega⟩
   have:=oC ((A:Nat):Int) one
   rwa [Int.mul_one] at this
  have:=Va m2
  rwa [Nat.mod_eq_of_lt lA] at this
 have hB:bA p y (sgl L ts q (2^L-1)) r (2^L-1) k=res p (a k):=by
  unfold bA
  rw[key,Pl F la hk,aat k hk]
 unfold unX
 rw[hB]
 unfold aA7
 rw[vK (by omega)]
 generalize a k=x at *
 by_cases c:0≤x
 ·rw[Int.emod_eq_of_lt c (by omega),if_neg (by omega)]
 ·have e : x % (p : Int) = x + p := by
    rw[← Int.add_emod_right,Int.emod_eq_of_lt (by omega) (by omega)]
  rw[e,if_pos (by omega)]
  omega
theorem Ae{n:Nat}(hn:2≤n)(hm:n≤2147483647):∃ b,kH n=some b∧(b=true↔Pr n):=by
 obtain⟨e,he,hp⟩:=Tt hn hm
 unfold kH
 rw[he]
 cases e with
 | inl u=>exact⟨false,rfl,(by constructor;(intro h;cases h);(intro h;obtain⟨u,hu⟩:=hp.2 h;cases hu))⟩
 | inr u=>exact⟨true,rfl,⟨fun _=>hp.1 ⟨u,rfl⟩,fun _=>rfl⟩⟩
theorem Yk{p r n:Nat}(F:Fld p r n):gE p r n=some 0:=by
 have h2:=F.prime.1
 have hp:=F.le
 have hn:=F.small
 have hn0:=F.pos
 have hr0:=F.r0
 have hr:=F.lt
 obtain⟨b1,p1,p3⟩:=Ae (n:=p) (by omega) (by omega)
 obtain⟨b2,q1,q2⟩:=Bi (p:=p) (r:=r) (n:=n) (by omega) (by omega) (by omega) (by omega) (by omega)
 obtain rfl:b1=true:=p3.2 F.prime
 obtain rfl:b2=true:=q2.2 F.ord
 obtain⟨c,hc⟩:=F.dvd
 have hm:((p:Int)-1).tmod n=0:=by
  rw[show (p:Int)-1=(n:Int)*c by rw[← Int.natCast_mul,← hc];omega]
  exact Int.mul_tmod_right _ _
 have n1:¬((p:Int)<2∨(p:Int)>2147483647):=by omega
 have n3:¬((n:Int)<1∨(n:Int)>1024):=by omega
 have n2:¬((r:Int)<1∨(r:Int)>(p:Int)-1):=by omega
 have hn0':¬(n=0):=by omega
 unfold gE
 simp only[Jy,Option.bind_some,iD,Dt]
 simp only[fG,fE,fF,p1,q1,Option.bind_some,aD,Dt,w64 (x:=(p:Int)-1) (by omega),n1,n2,n3]
 simp[hm,hn0']
theorem Rm{p n:Nat}(hp:Pr p)(hp2:p≤2147483647)(hn:0<n)(hn2:n≤1024)(hd:n ∣ p-1):∃ r:Nat,run (iP n p) 1=some (r:Int)∧Ord p r n∧r<p:=by
 have h2:=hp.1
 obtain⟨m,hP,hl⟩:=zD (P:=fun k=>k+1<p∧Ord p ((k+1)^((p-1)/n)) n) (by
  obtain⟨g,g1,g2,g3⟩:=hp.rooted hn hd
  exact⟨g-1,by omega,by rwa [show g-1+1=g by omega]⟩)
 have ew:IntKind.i64.wrap ((IntKind.i64.wrap ((p:Int)-1)).tdiv n)=(((p-1)/n:Nat):Int):=by
  rw[w64 (x:=(p:Int)-1) (by omega),show (p:Int)-1=((p-1:Nat):Int) by omega,Int.tdiv_eq_ediv_of_nonneg (by omega),← Int.natCast_ediv]
  have:=Nat.div_le_self (p-1) n
  generalize (p-1)/n=z at *
  exact w64 (by omega)
 have hdle:=Nat.div_le_self (p-1) n
 have pw1:∀ k,k≤m→eD p 0 n ((k+1:Nat):Int) (((p-1)/n:Nat):Int)=some (((k+1)^((p-1)/n)%p:Nat):Int):=fun k hk=>Xb _ _ h2 hp2 (by omega) (by generalize (p-1)/n=z at *;omega)
 have t1:∀ k,k≤m→∃ b,cQ p (((k+1)^((p-1)/n)%p:Nat):Int) n=some b∧(b=true↔k=m):=by
  intro k hk
  have hlt:(k+1)^((p-1)/n)%p<p:=Nat.mod_lt _ (by omega)
  obtain⟨b1,q1,q2⟩:=Bi (p:=p) (n:=n) h2 hp2 hlt hn (by omega)
  refine⟨b1,q1,?_⟩
  rw[q2]
  constructor
  ·intro h
   refine Classical.byContradiction fun hc=>hl k (by omega) ⟨by omega,h.unmod⟩
  ·intro h
   subst h
   exact hP.2.mod
 refine⟨(m+1)^((p-1)/n)%p,?_,hP.2.mod,Nat.mod_lt _ (by omega)⟩
 refine cT (fun k=>((k+1:Nat):Int)) (n:=m) (fun k hk=>?_) ?_
 ·obtain⟨b,b1,b3⟩:=t1 k (by omega)
  have hb:b=false:=by cases b with|false=>rfl|true=>exact absurd (b3.1 rfl) (by omega)
  unfold iP
  rw[if_neg (by omega),ew,pw1 k (by omega),Option.bind_some,b1,Option.bind_some,hb,if_neg (by simp),w64 (by omega)]
  simp
 ·obtain⟨b,b1,b3⟩:=t1 m (by omega)
  have hb:b=true:=b3.2 rfl
  unfold iP
  rw[if_neg (by omega),ew,pw1 m (by omega),Option.bind_some,b1,Option.bind_some,hb,if_pos rfl]
theorem Nt{n P:Nat}{s:Int}(hn:1≤n∧n≤1024)(hs:2≤s∧s≤P)(hP:Pr P)(hPle:P≤2147483647)(hPn:n ∣ P-1):∃ p r:Nat,lV n s=some ((p:Int),(r:Int),(n:Int),0)∧Fld p r n∧s≤p∧p≤P:=by
 have hmod:=Int.emod_nonneg (1-s) (show (n:Int)≠0 by omega)
 have hmlt:=Int.emod_lt_of_pos (1-s) (show (0:Int)<n by omega)
 have hdm:=Int.emod_add_mul_ediv (1-s) n
 obtain⟨a,ha⟩:∃ a:Nat,s+(1-s)%(n:Int)=a:=⟨(s+(1-s)%(n:Int)).toNat,by omega⟩
 have hn1:n ∣ a-1:=by
  have:((a-1:Nat):Int)=n*(-((1-s)/(n:Int))):=by rw[Int.mul_neg];omega
  exact Int.natCast_dvd_natCast.1 ⟨_,this⟩
 have hPge:a≤P:=by
  refine Classical.byContradiction fun hc=>?_
  obtain⟨x,hx⟩:=hPn
  obtain⟨y,hy⟩:=hn1
  have h1:n*y-n*x<n:=by omega
  have h2:n*x<n*y:=by omega
  have h3:x<y:=Nat.lt_of_mul_lt_mul_left h2
  have h4:n*(x+1)≤n*y:=Nat.mul_le_mul_left n h3
  rw[Nat.mul_add] at h4
  omega
 obtain⟨j,hj⟩:∃ j,P=a+j*n:=by
  obtain⟨x,hx⟩:=hPn
  obtain⟨y,hy⟩:=hn1
  refine⟨x-y,?_⟩
  have:y≤x:=by
   refine Classical.byContradiction fun hc=>?_
   have h4:n*(x+1)≤n*y:=Nat.mul_le_mul_left n (by omega)
   rw[Nat.mul_add] at h4
   omega
  rw[Nat.mul_comm,Nat.mul_sub]
  have:=Nat.mul_le_mul_left n this
  omega
 have startP:IntKind.i64.wrap (s+(1-s)%(n:Int))=(a:Int):=by rw[w64 (by omega)];exact ha
 have hmodulo:eH (IntKind.i64.wrap (1-s)) n=some ((1-s)%(n:Int)):=by
  rw[w64 (x:=1-s) (by omega)]
  exact Ex (by omega) (by omega)
 obtain⟨m,hm,hl⟩:=zD (P:=fun k=>Pr (a+k*n)) ⟨j,by rw[← hj];exact hP⟩
 have hmj:m≤j:=by
  refine Classical.byContradiction fun hc=>hl j (by omega) (by rw[← hj];exact hP)
 have le:∀ k,k≤m→a+k*n≤P:=fun k hk=>by
  have:=Nat.mul_le_mul_right n (show k≤j by omega)
  omega
 have next:∀ k,a+k*n≤2147483647→IntKind.i64.wrap (((a+k*n:Nat):Int)+n)=((a+(k+1)*n:Nat):Int):=fun k hk=>by
  rw[Nat.add_mul,Nat.one_mul,← Nat.add_assoc]
  generalize a+k*n=z at *
  rw[w64 (by omega)]
  simp
 have h0:((a+0*n:Nat):Int)=(a:Int):=by simp
 have ge2:∀ k,2≤a+k*n:=fun k=>by omega
 have stepP:∀ k,k<m→fC n ((a+k*n:Nat):Int)=some (.inl ((a+(k+1)*n:Nat):Int)):=by
  intro k hk
  have l1:=le k (by omega)
  obtain⟨b,b1,b3⟩:=Ae (ge2 k) (by omega)
  have hb:b=false:=by cases b with|false=>rfl|true=>exact absurd (b3.1 rfl) (hl k hk)
  unfold fC
  rw[if_pos (by rw[decide_eq_true_eq];omega),b1,Option.bind_some,hb,if_neg (by simp),next k (by omega)]
 have hle:a+m*n≤2147483647:=by have:=le m (Nat.le_refl _);omega
 have hd:n ∣ a+m*n-1:=by
  rw[show a+m*n-1=a-1+m*n by omega]
  exact Nat.dvd_add hn1 (Nat.dvd_mul_left _ _)
 obtain⟨r,r1,r2,r3⟩:=Rm hm hle (by omega) (by omega) hd
 obtain⟨b,b1,b3⟩:=Ae (ge2 m) hle
 have hb:b=true:=b3.2 hm
 have rP:run (fC n) (a:Int)=some (.inl (((a+m*n:Nat):Int),(r:Int),(n:Int))):=by
  rw[← h0]
  refine cT (fun k=>((a+k*n:Nat):Int)) (n:=m) stepP ?_
  unfold fC
  rw[if_pos (by rw[decide_eq_true_eq];omega),b1,Option.bind_some,hb,if_pos rfl,pP,r1]
  rfl
 have r0:0<r:=Nat.pos_of_ne_zero fun e=>by
  subst e
  have:=r2.one
  rw[Nat.zero_pow (by omega),Nat.zero_mod] at this
  cases this
 refine⟨a+m*n,r,?_,⟨hm,hle,by omega,by omega,r0,r3,hd,r2⟩,by omega,le m (Nat.le_refl _)⟩
 unfold lV
 rw[qD,qD]
 simp only[Option.bind_some]
 rw[decide_eq_true (show 1≤(n:Int)∧(n:Int)≤1024 by omega),decide_eq_true (show 2≤s∧s≤2147483647 by omega),fe9 _ _ _ _ (by decide)]
 simp only[Bool.not_true,Bool.false_eq_true,if_false,Option.bind_some,ne_eq,not_true_eq_false,decide_false]
 rw[hmodulo]
 simp only[Option.bind_some]
 rw[startP,rP]
 rfl
def aAd(p k:Nat):Bool:=Nat.rec (motive:=fun _=>Bool) true (fun q ih=>(p%(q+2) != 0)&&ih) k
theorem Mp{p:Nat}:∀ {k:Nat},aAd p k=true→∀ q,q<k→p%(q+2)≠0
 | 0,_,q,hq=>by omega
 | k+1,h,q,hq=>by
  have h':((p%(k+2) != 0)&&aAd p k)=true:=h
  rw[Bool.and_eq_true] at h'
  by_cases e:q=k
  ·subst e
   simpa using h'.1
  ·exact Mp h'.2 q (by omega)
theorem Sf{p k:Nat}(h2:2≤p)(h:aAd p k=true)(hk:p<(k+2)*(k+2)):Pr p:=by
 refine⟨h2,fun q hq=>?_⟩
 obtain⟨c,hc⟩:=hq
 refine Classical.byContradiction fun hn=>?_
 rw[not_or] at hn
 have hq0:q≠0:=fun e=>by subst e;omega
 have hc0:c≠0:=fun e=>by subst e;omega
 have hc1:c≠1:=fun e=>by subst e;omega
 have key:∀ d,2≤d→d<k+2→d ∣ p→False:=fun d d1 d2 d3=>by
  have:=Mp h (d-2) (by omega)
  rw[show d-2+2=d by omega] at this
  exact this (Nat.mod_eq_zero_of_dvd d3)
 rcases Nat.lt_or_ge q (k+2) with g|g
 ·exact key q (by omega) g ⟨c,hc⟩
 ·rcases Nat.lt_or_ge c (k+2) with g2|g2
  ·exact key c (by omega) g2 ⟨q,by rw[hc,Nat.mul_comm]⟩
  ·have:=Nat.mul_le_mul g g2
   omega
theorem Mu(f:Nat→Int):∀ n,isum (fun k=>f (n-1-k)) n=isum f n
 | 0=>rfl
 | n+1=>by
  rw[Az,isum]
  have e:isum (fun t=>f (n+1-1-(t+1))) n=isum (fun k=>f (n-1-k)) n:=aG fun t _=>by rw[show n+1-1-(t+1)=n-1-t by omega]
  rw[e,Mu f n,show n+1-1-0=n by omega]
  omega
theorem Xf{G:Nat→Int}{n:Nat}(hper:∀ u,G (u+n)=G u)(m:Nat):isum (fun t=>G (t+m)) n=isum G n:=by
 have h:=yV (p:=0) (G:=G) (n:=n) (fun u=>⟨0,by rw[hper];omega⟩) m
 obtain⟨c,hc⟩:=h
 rw[show ((0:Nat):Int)=0 from rfl,Int.zero_mul] at hc
 omega
theorem Tp{G:Nat→Int}{n:Nat}(hper:∀ u,G (u+n)=G u):isum (fun k=>G (n-k)) n=isum G n:=by
 have e:isum (fun k=>G (n-k)) n=isum (fun k=>(fun u=>G (u+1)) (n-1-k)) n:=aG fun k hk=>by
  show G (n-k)=G (n-1-k+1)
  rw[show n-1-k+1=n-k by omega]
 rw[e,Mu (fun u=>G (u+1)),Xf hper 1]
section
variable {L:Nat} {ts:List Nat} {q:Nat} (hr:Reg L ts) (hm:Maxi L ts) (h0:0<q) (hs:q<2^L)
include hr hm h0 hs
theorem Tx{a b:Nat}(ha:a<2^L-1)(hb:b<2^L-1):isum (fun t=>sgq L ts q (t+a)*sgq L ts q (t+b)) (2^L-1)=if a=b then ((2^L-1:Nat):Int) else -1:=by
 have key:∀ a b:Nat,a≤b→b<2^L-1→isum (fun t=>sgq L ts q (t+a)*sgq L ts q (t+b)) (2^L-1)=if a=b then ((2^L-1:Nat):Int) else -1:=by
  intro a b hab hb
  obtain⟨h1,h2⟩:=jJ hr h0 hs a
  have e:∀ t,t<2^L-1→sgq L ts q (t+a)*sgq L ts q (t+b)=sgq L ts (stt L ts q a) t*sgq L ts (stt L ts q a) (b-a+t):=by
   intro t _
   rw[show t+b=(b-a+t)+a by omega,sJ hr,sJ hr]
  rw[aG e]
  have c:=Ee hr hm h1 h2 (d:=b-a) (by omega)
  unfold sgq
  rw[c]
  by_cases h:a=b
  ·rw[if_pos h,if_pos (by omega)]
  ·rw[if_neg h,if_neg (by omega)]
 rcases Nat.le_total a b with h|h
 ·exact key a b h hb
 ·rw[aG (fun t _=>Int.mul_comm _ _),key b a h ha]
  by_cases e:a=b
  ·rw[if_pos e,if_pos e.symm]
  ·rw[if_neg e,if_neg (fun x=>e x.symm)]
theorem Xl{a b:Nat}(ha:a<2^L-1)(hb:b<2^L-1):isum (fun k=>sgq L ts q (a+(2^L-1-k))*sgq L ts q (b+(2^L-1-k))) (2^L-1)=if a=b then ((2^L-1:Nat):Int) else -1:=by
 rw[← Tx hr hm h0 hs ha hb]
 have h:=Tp (G:=fun u=>sgq L ts q (a+u)*sgq L ts q (b+u)) (n:=2^L-1) (fun u=>by
  show sgq L ts q (a+(u+(2^L-1)))*sgq L ts q (b+(u+(2^L-1)))=_
  rw[← Nat.add_assoc,← Nat.add_assoc,xV hr hm h0 hs,xV hr hm h0 hs])
 rw[h]
 exact aG fun t _=>by rw[Nat.add_comm a,Nat.add_comm b]
theorem Mn(a:Nat):isum (fun k=>sgq L ts q (a+(2^L-1-k))) (2^L-1) = -1:=by
 rw[← Hx hr hm h0 hs a]
 have h:=Tp (G:=fun u=>sgq L ts q (a+u)) (n:=2^L-1) (fun u=>by
  show sgq L ts q (a+(u+(2^L-1)))=_
  rw[← Nat.add_assoc,xV hr hm h0 hs])
 rw[h]
 exact aG fun t _=>by rw[Nat.add_comm a]
theorem Sk(y a:Nat→Int)(hA:∀ k,k<2^L-1→isum (fun t=>y t*sgq L ts q (t+(2^L-1-k))) (2^L-1)-isum y (2^L-1)=a k*((2^L-1+1:Nat):Int)){t:Nat}(ht:t<2^L-1):isum (fun j=>a j*sgq L ts q (t+(2^L-1-j))) (2^L-1)=y t:=by
 have e1:isum (fun j=>a j*sgq L ts q (t+(2^L-1-j))) (2^L-1)*((2^L-1+1:Nat):Int)=y t*((2^L-1+1:Nat):Int):=by
  rw[← mS]
  have s1:∀ j,j<2^L-1→a j*sgq L ts q (t+(2^L-1-j))*((2^L-1+1:Nat):Int)=isum (fun u=>y u*(sgq L ts q (u+(2^L-1-j))*sgq L ts q (t+(2^L-1-j)))) (2^L-1)-isum y (2^L-1)*sgq L ts q (t+(2^L-1-j)):=by
   intro j hj
   rw[Int.mul_assoc,Int.mul_comm (sgq L ts q _),← Int.mul_assoc,← hA j hj,Int.sub_mul,← mS]
   congr 1
   exact aG fun u _=>Int.mul_assoc _ _ _
  rw[aG s1,uW,pZ,mU,Mn hr hm h0 hs]
  have s2:∀ u,u<2^L-1→isum (fun j=>y u*(sgq L ts q (u+(2^L-1-j))*sgq L ts q (t+(2^L-1-j)))) (2^L-1)=(if u=t then y t*((2^L-1+1:Nat):Int) else 0)-y u:=by
   intro u hu
   rw[mU,Xl hr hm h0 hs hu ht]
   by_cases h:u=t
   ·subst h
    rw[if_pos rfl,if_pos rfl,Int.natCast_add,Int.mul_add]
    omega
   ·rw[if_neg h,if_neg h]
    omega
  rw[aG s2,uW,zS,if_pos ht]
  omega
 exact Int.eq_of_mul_eq_mul_right (by omega) e1
end
end Go.Rex
namespace Go.Rex
open Go Go.Rex
set_option maxRecDepth 100000
theorem aAN(l:List (Nat×Nat))(h:l.length≤1024):nB 8 ([]:List (Nat×Nat)) l=some l:=by
 unfold nB
 rw[if_pos (by simp;omega)]
 rfl
theorem Lo{w:List (Int×Int)}(h:∀ k,zle 16777216 (at0 w k)):∀ z∈w,small z:=by
 intro z hz
 obtain⟨k,hk⟩:=List.mem_iff_getElem?.1 hz
 have hkl:=(List.getElem?_eq_some_iff.1 hk).1
 have:=iB hkl
 rw[hk] at this
 rw[Option.some.inj this]
 have:=h k
 unfold zle at this
 exact this
theorem Lq{A B:Int}{z:Int×Int}(h:A≤B)(hz:zle A z):zle B z:=by unfold zle at *;omega
def inM(M:Int)(z:Int×Int):Prop:=(-M≤z.1∧z.1≤M)∧(-M≤z.2∧z.2≤M)
instance (M:Int) (z:Int×Int):Decidable (inM M z):=by unfold inM;exact inferInstance
theorem Tl{α β ε:Type}(P:α→Prop)[DecidablePred P](g:α→β)(e:ε)(fin:List β→ε):∀(l:List α) (b:List β),walk (fun b z=>if P z then (.inl (b++[g z]):List β ⊕ ε) else .inr e) fin b l=if ∀ z∈l,P z then fin (b++l.map g) else e
 | [],b=>by simp[walk]
 | z::l,b=>by
  simp only[walk]
  by_cases h:P z
  ·rw[if_pos h]
   simp only
   rw[Tl P g e fin l]
   by_cases h2:∀ z∈l,P z
   ·rw[if_pos h2,if_pos (by intro y hy;rcases List.mem_cons.1 hy with rfl|hy;exact h;exact h2 y hy)]
    simp
   ·rw[if_neg h2,if_neg (fun h3=>h2 fun y hy=>h3 y (List.mem_cons_of_mem _ hy))]
  ·rw[if_neg h,if_neg (fun h3=>h (h3 z List.mem_cons_self))]
theorem Rj(w:List (Int×Int)){M:Int}(hM:0≤M∧M≤10000)(lw:w.length≤1000):jQ w M=some (if ∀ z∈w,inM M z then (w.map dP,true) else ([],false)):=by
 have key:=xW (step:=eP w M) (fun k (b:List (Nat×Nat))=>(b,(k:Int))) (fun b z=>if inM M z then (.inl (b++[dP z]):List (Nat×Nat) ⊕ (Unit ⊕ List (Nat×Nat))) else .inr (.inl ())) (fun b=>.inr b) (fun k b=>b.length=k) w
  (fun k z b hz hb=>by
   have hk:=(List.getElem?_eq_some_iff.1 hz).1
   constructor
   ·unfold eP
    try simp only
    rw[if_pos (by rw[decide_eq_true_eq];omega),aW,hz,Option.bind_some]
    try simp only
    rw[w64 (x:=0-M) (by omega),vD,Option.bind_some,show (0:Int)-M = -M by omega]
    by_cases h1:-M≤z.1∧z.1≤M
    ·rw[if_pos (decide_eq_true h1),vD,Option.bind_some]
     by_cases h2:-M≤z.2∧z.2≤M
     ·rw[if_pos (decide_eq_true h2),if_pos (show inM M z from ⟨h1,h2⟩),Uw (by omega) (by omega),Option.bind_some]
      unfold nB
      rw[wsucc (n:=1024) (by omega) (by decide)]
      dsimp only
      rw[if_pos (by simp;omega),Option.bind_some]
     ·rw[if_neg (by simpa using h2),if_neg (show ¬ inM M z from fun h=>h2 h.2)]
    ·rw[if_neg (by simpa using h1),if_neg (show ¬ inM M z from fun h=>h1 h.1)]
   ·intro b' hb'
    split at hb'
    ·obtain rfl:=Sum.inl.inj hb'
     simp[hb]
    ·cases hb')
  (fun b hb=>by
   unfold eP
   try simp only
   rw[if_neg (by rw[decide_eq_true_eq];omega)]) (b0:=[]) rfl
 rw[Tl] at key
 simp only[Int.natCast_zero,List.nil_append] at key
 unfold jQ
 rw[key,Option.bind_some]
 by_cases h:∀ z∈w,inM M z
 ·rw[if_pos h,if_pos h]
 ·rw[if_neg h,if_neg h]
structure Whole(L:Int)(t:List Int)(s:Int)(n:Nat)(ts:List Nat)(q:Nat):Prop where
 eL:L=n
 et:t=ints ts
 es:s=q
 lt:(ints ts).length≤8
 reg:Reg n ts
 chk:chk n (ints ts)=0
 pos:0<q
 les:q<2^n
 le5:n≤5
 max:Maxi n ts
theorem We(L:Int)(t:List Int)(s:Int):gF L t s=some false∨(gF L t s=some true∧∃ n ts q,Whole L t s n ts q):=by
 unfold gF
 by_cases h0:(t.length:Int)≤8
 rotate_left
 ·rw[if_neg (by simpa using h0)];exact .inl rfl
 rw[if_pos (decide_eq_true h0)]
 have ht:t.length≤12:=by omega
 by_cases hc:chk L t=0
 rotate_left
 ·have e : gU L t s = some (chk L t) := by
    unfold gU
    rw[Su _ _ ht,Option.bind_some,if_pos (by simpa using hc)]
  rw[e,Option.bind_some,if_neg (by simpa using hc)]
  exact .inl rfl
 obtain⟨n,ts,rfl,rfl,hr⟩:=aB1 ht hc
 have hL:=hr.most
 have hp:=pow8 hL
 rw[Np s ht hc hL,Option.bind_some]
 by_cases hs:1≤s∧s≤((2^n-1:Nat):Int)
 rotate_left
 ·rw[if_neg hs,if_neg (by decide)];exact .inl rfl
 rw[if_pos hs,if_pos (by decide)]
 by_cases h5:(n:Int)≤5
 rotate_left
 ·rw[if_neg (by simpa using h5)];exact .inl rfl
 rw[if_pos (decide_eq_true h5)]
 obtain⟨m,hp2,hm⟩:=Pp hr (s:=1) (by omega) (pL hr)
 rw[aC2 hr hp2 hm,Option.bind_some]
 by_cases h:m=2^n-1
 ·subst h
  rw[decide_eq_true rfl]
  refine .inr ⟨rfl,n,ts,s.toNat,⟨rfl,rfl,by omega,by omega,hr,hc,by omega,by omega,by omega,hp2⟩⟩
 ·rw[decide_eq_false h];exact .inl rfl
theorem pow5{n:Nat}(h:n≤5):2^n≤32:=Nat.pow_le_pow_right (by omega) h
theorem vL{a b:List (Int×Int)}(hl:a.length=b.length)(h:∀ k,k<a.length→at0 a k=at0 b k):a=b:=by
 apply List.ext_getElem?
 intro k
 by_cases hk:k<a.length
 ·rw[iB hk,iB (by omega),h k hk]
 ·rw[List.getElem?_eq_none (by omega),List.getElem?_eq_none (by omega)]
theorem Wi(w:List (Int×Int))(N:Nat):∀ t k:Nat,t≤N→k<N→at0 (fo w N t) k=if k<t then at0 w k else (0,0)
 | 0,k,_,hk=>by
  rw[if_neg (by omega)]
  unfold fo at0
  rw[List.getD_eq_getElem?_getD,List.getElem?_replicate,if_pos hk]
  rfl
 | t+1,k,ht,hk=>by
  simp only[fo]
  rw[Nat.mod_eq_of_lt (by omega),Rz,xA]
  by_cases q:t=k
  ·subst q
   rw[if_pos ⟨rfl,hk⟩,if_pos (by omega),Wi w N t t (by omega) hk,if_neg (by omega)]
   unfold zadd;simp
  ·rw[if_neg (fun h=>q h.1),Wi w N t k (by omega) hk]
   by_cases c:k<t
   ·rw[if_pos c,if_pos (by omega)]
   ·rw[if_neg c,if_neg (by omega)]
theorem Ec(w:List (Int×Int))(N:Nat):(Jr w N).length=N:=by unfold Jr;simp
theorem Pg{w:List (Int×Int)}{N:Nat}(h:w.length≤N):fold w N=Jr w N:=by
 unfold fold
 refine vL (by rw[xA,Ec]) (fun k hk=>?_)
 rw[xA] at hk
 rw[Wi w N w.length k h hk,Sx,if_pos hk]
 by_cases c:k<w.length
 ·rw[if_pos c]
 ·rw[if_neg c,Cq (by omega)]
theorem sL{w:List (Int×Int)}(h:∀ z∈w,small z):rec w=(w.map dP,0):=by
 unfold rec
 rw[if_pos h]
section
variable {w:List (Int×Int)} {A:Int} (hA:0≤A∧A≤10000) (hw:∀ k,zle A (at0 w k)) (lw:0<w.length∧w.length≤31)
include hA hw lw
end
theorem Pa(l:List (Nat×Nat))(h:l.length≤1024):iZ l=some l:=by
 unfold iZ
 rw[aAN l h,Option.bind_some]
end Go.Rex
namespace Go.Rex
open Go Go.Rex
set_option maxRecDepth 100000
theorem aCB{s:Bool}{m:Nat}{e x y:Int}(h3:NV s m e x)(g3:NV s m e y):x=y:=by
 rcases h3 with⟨p,q⟩|⟨p,q⟩<;>rcases g3 with⟨p',q'⟩|⟨p',q'⟩
 ·omega
 ·omega
 ·omega
 ·have hp:(0:Int)<2^(-e).toNat:=Int.pow_pos (by decide)
  exact Int.eq_of_mul_eq_mul_right (Int.ne_of_gt hp) (q.symm.trans q')
theorem yR{b c:Nat}{x y:Int}(h:SV b x)(g:SV c y):∃ v w,f2f .f32 b .f64=some v∧f2f .f32 c .f64=some w∧fbits .f64 v=some ((v:Nat):Int)∧fbits .f64 w=some ((w:Nat):Int)∧(v=w→x=y):=by
 obtain⟨s,m,e,h1,h2,h3⟩:=h
 obtain⟨s',m',e',g1,g2,g3⟩:=g
 obtain⟨M,E,hd⟩:=wZ (s:=s) h2
 obtain⟨M',E',gd⟩:=wZ (s:=s') g2
 have hn:=oG (k:=.f64) hd.rd
 have gn:=oG (k:=.f64) gd.rd
 refine⟨_,_,tL h1 h2,tL g1 g2,?_,?_,fun e1=>?_⟩
 ·unfold fbits;rw[if_neg (by rw[hn];decide)]
 ·unfold fbits;rw[if_neg (by rw[gn];decide)]
 ·have r1:=hd.rd
  have r2:=gd.rd
  rw[e1,r2] at r1
  cases r1
  exact aCB ((hd.nv x).2 h3) ((gd.nv y).2 g3)
theorem Uz(w u:List (Int×Int))(hw:∀ z∈w,small z)(hu:∀ z∈u,small z)(lw:w.length≤1024):∃ b,bY (w.map dP) (u.map dP)=some b∧(b=true→w=u):=by
 unfold bY
 by_cases hl:w.length=u.length
 rotate_left
 ·refine⟨false,?_,fun h=>by cases h⟩
  rw[if_pos (by rw[decide_eq_true_eq,List.length_map,List.length_map];omega)]
 rw[if_neg (by rw[decide_eq_true_eq,List.length_map,List.length_map];omega)]
 have key:=xW (step:=bP (w.map dP) (u.map dP)) (fun k (b:Bool)=>(k:Int)) (fun (b:Bool) (z:(Int×Int)×(Int×Int))=>if (f2f .f32 (dP z.1).1 .f64=f2f .f32 (dP z.2).1 .f64)∧(f2f .f32 (dP z.1).2 .f64=f2f .f32 (dP z.2).2 .f64) then (.inl true:Bool ⊕ (Unit ⊕ Unit)) else .inr (.inl ())) (fun b=>.inr ()) (fun k b=>True) (w.zip u)
  (fun k z b hz hb=>by
   refine⟨?_,fun _ _=>trivial⟩
   obtain⟨h1,h2⟩:=List.getElem?_zip_eq_some.1 hz
   have hk:=(List.getElem?_eq_some_iff.1 h1).1
   have s1:=tD (hw z.1 (List.mem_iff_getElem?.2 ⟨k,h1⟩))
   have s2:=tD (hu z.2 (List.mem_iff_getElem?.2 ⟨k,h2⟩))
   obtain⟨a,b,a1,b1,a2,b2,_⟩:=yR s1.1 s2.1
   obtain⟨c,d,c1,d1,c2,d2,_⟩:=yR s1.2 s2.2
   unfold bP lY
   rw[if_pos (by rw[decide_eq_true_eq,List.length_map];omega),aW,List.getElem?_map,h1]
   simp only[Option.map_some,Option.bind_some,a1,c1]
   rw[aW,List.getElem?_map,h2]
   simp only[Option.map_some,Option.bind_some,b1,d1,a2,b2,c2,d2]
   rw[wsucc (n:=1024) (by omega) (by decide)]
   by_cases e1:a=b
   ·by_cases e2:c=d
    ·subst e1;subst e2;simp
    ·have e2':¬((c:Int)=(d:Int)):=by omega
     simp[e1,e2,e2']
   ·have e1':¬((a:Int)=(b:Int)):=by omega
    simp[e1,e1'])
  (fun b hb=>by
   unfold bP
   rw[if_neg (by rw[decide_eq_true_eq,List.length_map,List.length_zip];omega)]) (b0:=true) trivial
 simp only[Int.natCast_zero] at key
 rw[key,Option.bind_some]
 have fin:∀(l:List ((Int×Int)×(Int×Int))) (b:Bool),(∀ z∈l,small z.1∧small z.2)→walk (fun (b:Bool) (z:(Int×Int)×(Int×Int))=>if (f2f .f32 (dP z.1).1 .f64=f2f .f32 (dP z.2).1 .f64)∧(f2f .f32 (dP z.1).2 .f64=f2f .f32 (dP z.2).2 .f64) then (.inl true:Bool ⊕ (Unit ⊕ Unit)) else .inr (.inl ())) (fun b=>.inr ()) b l = .inr ()→∀ z∈l,z.1=z.2:=by
  intro l
  induction l with
  | nil=>intro b _ _ z hz;cases hz
  | cons z l ih =>
   intro b hs h y hy
   simp only[walk] at h
   by_cases c:(f2f .f32 (dP z.1).1 .f64=f2f .f32 (dP z.2).1 .f64)∧(f2f .f32 (dP z.1).2 .f64=f2f .f32 (dP z.2).2 .f64)
   ·rw[if_pos c] at h
    rcases List.mem_cons.1 hy with rfl|hy
    ·obtain⟨s1,s2⟩:=hs y List.mem_cons_self
     have p1:=tD s1
     have p2:=tD s2
     obtain⟨a,b,a1,b1,_,_,a3⟩:=yR p1.1 p2.1
     obtain⟨c',d,c1,d1,_,_,c3⟩:=yR p1.2 p2.2
     rw[a1,b1,c1,d1] at c
     exact Prod.ext (a3 (Option.some.inj c.1)) (c3 (Option.some.inj c.2))
    ·exact ih true (fun z hz=>hs z (List.mem_cons_of_mem _ hz)) h y hy
   ·rw[if_neg c] at h
    cases h
 cases hW:walk (fun (b:Bool) (z:(Int×Int)×(Int×Int))=>if (f2f .f32 (dP z.1).1 .f64=f2f .f32 (dP z.2).1 .f64)∧(f2f .f32 (dP z.1).2 .f64=f2f .f32 (dP z.2).2 .f64) then (.inl true:Bool ⊕ (Unit ⊕ Unit)) else .inr (.inl ())) (fun b=>.inr ()) true (w.zip u) with
 | inl _=>exact⟨false,rfl,fun h=>by cases h⟩
 | inr _ =>
  refine⟨true,rfl,fun _=>?_⟩
  have h:=fin _ _ (fun z hz=>⟨hw _ (List.of_mem_zip hz).1,hu _ (List.of_mem_zip hz).2⟩) hW
  refine vL hl (fun k hk=>?_)
  have h1:=iB hk
  have h2:=iB (w:=u) (k:=k) (by omega)
  have:=h (at0 w k,at0 u k) (List.mem_iff_getElem?.2 ⟨k,List.getElem?_zip_eq_some.2 ⟨h1,h2⟩⟩)
  exact this
theorem Tw{n:Nat}(h:n=3∨n=7∨n=15∨n=31):∃ P:Nat,Pr P∧16000000≤P∧P≤33554432∧n ∣ P-1:=by
 rcases h with rfl|rfl|rfl|rfl
 ·exact⟨16000057,Sf (k:=4001) (by omega) (by decide +kernel) (by omega),by omega,by omega,by decide⟩
 ·exact⟨16000097,Sf (k:=4001) (by omega) (by decide +kernel) (by omega),by omega,by omega,by decide⟩
 ·exact⟨16000081,Sf (k:=4001) (by omega) (by decide +kernel) (by omega),by omega,by omega,by decide⟩
 ·exact⟨16000403,Sf (k:=4001) (by omega) (by decide +kernel) (by omega),by omega,by omega,by decide⟩
theorem Sq(w:List (Int×Int))(t:Nat):(w.map (·.1))[t]?.getD 0=(at0 w t).1∧(w.map (·.2))[t]?.getD 0=(at0 w t).2:=by
 unfold at0
 rw[List.getElem?_map,List.getElem?_map,List.getD_eq_getElem?_getD]
 cases w[t]?<;>exact⟨rfl,rfl⟩
theorem Gv{L:Nat}{ts:List Nat}{s:Nat}(hr:Reg L ts)(hm:Maxi L ts)(h0:0<s)(hs:s<2^L)(W:List (Int×Int)){k:Nat}(hk:k<2^L-1) :
 (at0 (cor W (sgl L ts s (2^L-1))) k).1=isum (fun t=>(at0 W t).1*sgq L ts s (t+(2^L-1-k))) (2^L-1)-isum (fun t=>(at0 W t).1) (2^L-1) ∧
 (at0 (cor W (sgl L ts s (2^L-1))) k).2=isum (fun t=>(at0 W t).2*sgq L ts s (t+(2^L-1-k))) (2^L-1)-isum (fun t=>(at0 W t).2) (2^L-1):=by
 have hl:=kQ L ts s (2^L-1)
 have hS:=fun m=>Jk hr hm h0 hs m
 generalize hSS:sgl L ts s (2^L-1)=S at *
 have g:=iB (w:=cor W S) (k:=k) (by rw[oL];omega)
 obtain⟨_,e⟩:=Yc g
 rw[e,hl]
 obtain⟨a1,a2⟩:=qR (crT W S k) (2^L-1)
 obtain⟨b1,b2⟩:=qR (at0 W) (2^L-1)
 have c:∀ t,t<2^L-1→crT W S k t=((at0 W t).1*sgq L ts s (t+(2^L-1-k)),(at0 W t).2*sgq L ts s (t+(2^L-1-k))):=fun t ht=>by
  unfold crT zstr
  rw[hl,hS,show t+(2^L-1)-k=t+(2^L-1-k) by omega]
 unfold zsub crS
 refine⟨?_,?_⟩
 ·show (zsum (crT W S k) (2^L-1)).1-(zsum (at0 W) (2^L-1)).1=_
  rw[a1,b1,aG (fun t ht=>by rw[c t ht])]
 ·show (zsum (crT W S k) (2^L-1)).2-(zsum (at0 W) (2^L-1)).2=_
  rw[a2,b2,aG (fun t ht=>by rw[c t ht])]
theorem Gn{L:Nat}{ts:List Nat}{s:Nat}(hr:Reg L ts)(hm:Maxi L ts)(h0:0<s)(hs:s<2^L)(W:List (Int×Int)){t:Nat}(ht:t<2^L-1) :
 at0 (wgh W (sgl L ts s (2^L-1))) t=(isum (fun j=>(at0 W j).1*sgq L ts s (t+(2^L-1-j))) (2^L-1),isum (fun j=>(at0 W j).2*sgq L ts s (t+(2^L-1-j))) (2^L-1)):=by
 have hl:=kQ L ts s (2^L-1)
 have hS:=fun m=>Jk hr hm h0 hs m
 generalize hSS:sgl L ts s (2^L-1)=S at *
 rw[aAb (by omega),hl]
 unfold wgS
 obtain⟨h1,h2⟩:=qR (wgT W S t) (2^L-1)
 refine Prod.ext (h1.trans ?_) (h2.trans ?_)
 ·refine aG (fun j hj=>?_)
  unfold wgT zstr
  rw[hl,hS,show t+(2^L-1)-j=t+(2^L-1-j) by omega]
 ·refine aG (fun j hj=>?_)
  unfold wgT zstr
  rw[hl,hS,show t+(2^L-1)-j=t+(2^L-1-j) by omega]
theorem Pe{L:Nat}{ts:List Nat}{s:Nat}(hr:Reg L ts)(hm:Maxi L ts)(h0:0<s)(hs:s<2^L){W:List (Int×Int)}(hW:W.length=2^L-1)(hE:∀ z∈cor W (sgl L ts s (2^L-1)),even2 ((2^L-1+1:Nat):Int) z) :
 wgh ((cor W (sgl L ts s (2^L-1))).map (qtZ ((2^L-1+1:Nat):Int))) (sgl L ts s (2^L-1))=W:=by
 have hl:=kQ L ts s (2^L-1)
 have ha:∀ k,k<2^L-1→(at0 (cor W (sgl L ts s (2^L-1))) k).1=(at0 ((cor W (sgl L ts s (2^L-1))).map (qtZ ((2^L-1+1:Nat):Int))) k).1*((2^L-1+1:Nat):Int)∧(at0 (cor W (sgl L ts s (2^L-1))) k).2=(at0 ((cor W (sgl L ts s (2^L-1))).map (qtZ ((2^L-1+1:Nat):Int))) k).2*((2^L-1+1:Nat):Int):=by
  intro k hk
  have g:=iB (w:=cor W (sgl L ts s (2^L-1))) (k:=k) (by rw[oL];omega)
  have g2:=iB (w:=(cor W (sgl L ts s (2^L-1))).map (qtZ ((2^L-1+1:Nat):Int))) (k:=k) (by rw[List.length_map,oL];omega)
  rw[List.getElem?_map,g] at g2
  have e:=(Option.some.inj g2).symm
  obtain⟨e1,e2⟩:=hE _ (List.mem_iff_getElem?.2 ⟨k,g⟩)
  rw[e]
  unfold qtZ
  exact⟨(Int.tdiv_mul_cancel (Int.dvd_of_tmod_eq_zero e1)).symm,(Int.tdiv_mul_cancel (Int.dvd_of_tmod_eq_zero e2)).symm⟩
 refine vL (by rw[xX];omega) (fun t ht=>?_)
 rw[xX,hl] at ht
 rw[Gn hr hm h0 hs _ ht]
 refine Prod.ext ?_ ?_
 ·exact Sk hr hm h0 hs (fun t=>(at0 W t).1) (fun j=>(at0 ((cor W (sgl L ts s (2^L-1))).map (qtZ ((2^L-1+1:Nat):Int))) j).1) (fun k hk=>by rw[← (Gv hr hm h0 hs W hk).1];exact (ha k hk).1) ht
 ·exact Sk hr hm h0 hs (fun t=>(at0 W t).2) (fun j=>(at0 ((cor W (sgl L ts s (2^L-1))).map (qtZ ((2^L-1+1:Nat):Int))) j).2) (fun k hk=>by rw[← (Gv hr hm h0 hs W hk).2];exact (ha k hk).2) ht
theorem Ua{w:List (Int×Int)}{N:Nat}(h:w.length=N):Jr w N=w:=by
 refine vL (by rw[Ec];omega) (fun k hk=>?_)
 rw[Ec] at hk
 rw[Sx,if_pos hk]
theorem Db{n:Nat}{ts:List Nat}{q:Nat}{L:Int}{t:List Int}{s:Int}(R:Whole L t s n ts q){w:List (Int×Int)}(hw:∀ z∈w,small z)(hN:w.length=2^n-1) :
 jA (w.map dP) n (ints ts) q=some (rec (wgh w (sgl n ts q (2^n-1)))):=by
 have hr:=R.reg
 have lt:=R.lt
 have h1:=pL hr
 have h32:=pow5 R.le5
 rw[(Ra (s:=q) (by omega) (Jz (by omega) hw) R.chk hr R.pos R.les)]
 unfold exG
 rw[Ez hw,kQ,Pg (by omega),Ua hN,sL hw,if_neg (by simp)]
theorem Um{n:Nat}{ts:List Nat}{q:Nat}{L:Int}{t:List Int}{s:Int}(R:Whole L t s n ts q){w:List (Int×Int)}(hw:∀ z∈w,small z)(hN:w.length=2^n-1) :
 jL (w.map dP) n (ints ts) q=some (unV w (sgl n ts q (2^n-1))):=by
 have hr:=R.reg
 have lt:=R.lt
 have h1:=pL hr
 have h32:=pow5 R.le5
 rw[(aC3 (s:=q) (by omega) (Jz (by omega) hw) R.chk hr R.pos R.les R.max (Nat.le_refl _))]
 unfold unG
 rw[if_pos rfl,if_pos (by rw[List.length_map];exact hN),Ez hw]
def otX(w:List (Int×Int))(S:List Int)(p r n:Nat):List (Int×Int):=(List.range n).map fun k=>(unX p (w.map (·.1)) S r n k,unX p (w.map (·.2)) S r n k)
theorem Hm{p r n:Nat}(F:Fld p r n)(hp:p≤33554432)(w:List (Int×Int))(S:List Int):∀ z∈otX w S p r n,small z:=by
 intro z hz
 obtain⟨k,_,rfl⟩:=List.mem_map.1 hz
 have h1:=Wv (l:=w.map (·.1)) (S:=S) F k
 have h2:=Wv (l:=w.map (·.2)) (S:=S) F k
 unfold small unX aA7
 try dsimp only
 constructor
 ·split<;>omega
 ·split<;>omega
theorem Zp{n:Nat}{ts:List Nat}{q:Nat}{L:Int}{t:List Int}{s:Int}(R:Whole L t s n ts q){w:List (Int×Int)}(hw:∀ z∈w,small z)(hN:w.length=2^n-1){p r:Nat}(F:Fld p r (2^n-1))(hp:p≤33554432) :
 gJ (w.map dP) n (ints ts) q p r ((2^n-1:Nat):Int)=some ((otX w (sgl n ts q (2^n-1)) p r (2^n-1)).map dP,0):=by
 have hr:=R.reg
 have lt:=R.lt
 have h1:=pL hr
 have h32:=pow5 R.le5
 rw[aCZ (s:=q) (by omega) (Jz (by omega) hw) R.chk hr R.pos R.les R.max F (Yk F) (by rw[List.length_map];exact hN) rfl,Ez hw]
 unfold otV
 have:=sL (Hm F hp w (sgl n ts q (2^n-1)))
 unfold otX at this
 rw[this]
 rfl
theorem Ph{w:List (Int×Int)}{S:List Int}(hw:∀ k,zle 10000 (at0 w k))(hS:∀ k,k<S.length→nL (atS S k))(lS:3≤S.length∧S.length≤31):∀ k,zle 620000 (at0 ((cor w S).map (qtZ ((S.length+1:Nat):Int))) k):=by
 intro k
 by_cases hk:k<S.length
 ·have g:=iB (w:=cor w S) (k:=k) (by rw[oL];omega)
  have g2:=iB (w:=(cor w S).map (qtZ ((S.length+1:Nat):Int))) (k:=k) (by rw[List.length_map,oL];omega)
  rw[List.getElem?_map,g] at g2
  have e:=(Option.some.inj g2).symm
  obtain⟨_,ez⟩:=Yc g
  rw[e,ez,← Ct]
  have b:=Mh (f:=coT w S k) (B:=20000) (n:=S.length) (fun t ht=>by
   have h1:=hw t
   have h2:=hS _ (Nat.mod_lt (t+S.length-k) (by omega))
   unfold coT zstr
   unfold zle at *
   rcases h2 with h2|h2<;>rw[h2]
   ·simp
   ·simp only[show (-1:Int)-1 = -2 from rfl];omega)
  unfold zle at *
  unfold qtZ
  have d1:=Cw (M:=S.length+1) b.1 (by omega)
  have d2:=Cw (M:=S.length+1) b.2 (by omega)
  try dsimp only
  omega
 ·rw[Cq (by rw[List.length_map,oL];omega)]
  unfold zle;simp
theorem aAt(v1:List (Int×Int))(L:Int)(t:List Int)(s b:Int):iU v1 L t s b=some true:=by
 unfold iU nE
 by_cases h0:(v1.length:Int)=0
 ·rw[if_pos (decide_eq_true h0)]
 rw[if_neg (by simpa using h0)]
 by_cases h1:(v1.length:Int)>31
 ·rw[if_pos (decide_eq_true h1)]
 rw[if_neg (by simpa using h1)]
 rcases We L t s with hw|⟨hw,m,ts,q,R⟩
 ·rw[hw,Option.bind_some,if_neg (by decide)]
 rw[hw,Option.bind_some,if_pos (show true=true from rfl)]
 have lt:=R.lt
 have hr:=R.reg
 have hm8:=hr.most
 have h2':=hr.two
 have h5:=R.le5
 have h32:=pow5 R.le5
 obtain rfl:=R.eL
 obtain rfl:=R.et
 obtain rfl:=R.es
 rw[Jo hm8,Option.bind_some]
 by_cases h2:(v1.length:Int)=((2^m-1:Nat):Int)
 rotate_left
 ·rw[if_pos (by simpa using h2)]
 rw[if_neg (by simpa using h2),vD,Option.bind_some]
 by_cases hb:3000000≤b∧b≤16000000
 rotate_left
 ·rw[if_neg (by simpa using hb)]
 rw[if_pos (decide_eq_true hb),Rj v1 (M:=10000) (by omega) (by omega),Option.bind_some]
 by_cases hk:∀ z∈v1,inM 10000 z
 rotate_left
 ·rw[if_neg hk];rfl
 rw[if_pos hk]
 try dsimp only
 rw[if_pos (show true=true from rfl)]
 have hz:∀ k,zle 10000 (at0 v1 k):=by
  intro k
  by_cases h:k<v1.length
  ·have g:=iB h
   exact hk _ (List.mem_iff_getElem?.2 ⟨k,g⟩)
  ·rw[Cq (by omega)];unfold zle;simp
 have lw:v1.length=2^m-1:=by omega
 have sw:=Lo (w:=v1) (fun k=>Lq (by decide) (hz k))
 have hN:2^m-1=3∨2^m-1=7∨2^m-1=15∨2^m-1=31:=by
  rcases (show m=2∨m=3∨m=4∨m=5 by omega) with rfl|rfl|rfl|rfl<;>decide
 obtain⟨P,P1,P2,P3,P4⟩:=Tw hN
 obtain⟨p,r,eF,F,p1,p2⟩:=Nt (n:=2^m-1) (s:=b) (by omega) (by omega) P1 (by omega) P4
 have ln:(v1.map dP).length=v1.length:=List.length_map _
 have eU:=Um R sw lw
 have eO:=Zp R sw lw F (by omega)
 have sX:=Hm F (by omega) v1 (sgl m ts q (2^m-1))
 have lX:(otX v1 (sgl m ts q (2^m-1)) p r (2^m-1)).length=2^m-1:=by unfold otX;simp
 have eX:=Db R sX lX
 have hS:=Fb m ts q (2^m-1)
 have lS:=kQ m ts q (2^m-1)
 have refl:∀ w:List (Int×Int),w.length≤4096→(∀ z∈w,small z)→bY (w.map dP) (w.map dP)=some true:=fun w h1 h2=>Ve _ (by rw[List.length_map];exact h1) (fun p hp=>by
  obtain⟨x,hx,rfl⟩:=List.mem_map.1 hp
  exact⟨x,tD (h2 x hx)⟩)
 rw[ln,h2,eF,Option.bind_some]
 try dsimp only
 rw[Pa _ (by omega),Option.bind_some,Vv _ _ (by omega),Option.bind_some]
 try dsimp only
 rw[eU,Option.bind_some]
 try dsimp only
 rw[Option.bind_some,Option.bind_some]
 try dsimp only
 rw[Option.bind_some]
 try dsimp only
 rw[eO,Option.bind_some]
 try dsimp only
 rw[if_neg (by simp),if_neg (by simp),if_neg (by rw[List.length_map,lX];simp)]
 by_cases hE:∀ z∈cor v1 (sgl m ts q (2^m-1)),even2 ((2^m-1+1:Nat):Int) z
 ·have sA:=Ph hz hS (by omega)
  rw[lS] at sA
  have sA2:=Lo (fun k=>Lq (show (620000:Int)≤16777216 by decide) (sA k))
  have lA:((cor v1 (sgl m ts q (2^m-1))).map (qtZ ((2^m-1+1:Nat):Int))).length=2^m-1:=by rw[List.length_map,oL,lS]
  have eW:=Pe hr R.max R.pos R.les lw hE
  have eE:=Db R sA2 lA
  have eV:unV v1 (sgl m ts q (2^m-1))=(((cor v1 (sgl m ts q (2^m-1))).map (qtZ ((2^m-1+1:Nat):Int))).map dP,0):=by
   unfold unV
   rw[lS,if_pos hE,sL sA2]
  have eXA:otX v1 (sgl m ts q (2^m-1)) p r (2^m-1)=(cor v1 (sgl m ts q (2^m-1))).map (qtZ ((2^m-1+1:Nat):Int)):=by
   generalize hA:(cor v1 (sgl m ts q (2^m-1))).map (qtZ ((2^m-1+1:Nat):Int))=A at *
   refine vL (by omega) (fun k hk=>?_)
   rw[lX] at hk
   have g:=iB (w:=otX v1 (sgl m ts q (2^m-1)) p r (2^m-1)) (k:=k) (by omega)
   unfold otX at g
   rw[List.getElem?_map,List.getElem?_range hk] at g
   have e:=(Option.some.inj g).symm
   have bA:=sA k
   unfold zle at bA
   have hwt:∀ t,t<2^m-1→at0 v1 t=(isum (fun j=>(at0 A j).1*sgq m ts q (t+(2^m-1-j))) (2^m-1),isum (fun j=>(at0 A j).2*sgq m ts q (t+(2^m-1-j))) (2^m-1)):=fun t ht=>by
    have:=Gn hr R.max R.pos R.les A ht
    rwa [eW] at this
   have x1:=Gs hr R.max R.pos R.les F (by omega) (fun j=>(at0 A j).1) (v1.map (·.1)) (by rw[List.length_map];exact lw) (fun t ht=>by rw[(Sq v1 t).1,hwt t ht]) hk (by omega)
   have x2:=Gs hr R.max R.pos R.les F (by omega) (fun j=>(at0 A j).2) (v1.map (·.2)) (by rw[List.length_map];exact lw) (fun t ht=>by rw[(Sq v1 t).2,hwt t ht]) hk (by omega)
   unfold otX
   rw[e]
   exact Prod.ext x1 x2
  rw[eV]
  try dsimp only
  rw[if_pos (by simp),Pa _ (by rw[List.length_map,lA];omega),Option.bind_some,Option.bind_some]
  try dsimp only
  rw[eE,eW,sL sw,Option.bind_some]
  try dsimp only
  rw[if_pos (by simp),refl v1 (by omega) sw,Option.bind_some,if_pos (show true=true from rfl),eXA,refl _ (by omega) sA2,Option.bind_some]
 ·have eV : unV v1 (sgl m ts q (2 ^ m - 1)) = ([], 20) := by
    unfold unV
    rw[lS,if_neg hE]
  rw[eV]
  try dsimp only
  rw[if_neg (by decide),Option.bind_some]
  try dsimp only
  rw[eX,Option.bind_some]
  rcases Jm (wgh (otX v1 (sgl m ts q (2^m-1)) p r (2^m-1)) (sgl m ts q (2^m-1))) with⟨e1,e2,e3⟩|⟨e1,e2⟩
  ·rw[sL e2]
   try dsimp only
   rw[if_pos (by simp),if_neg (by simp),if_pos (by simp)]
   obtain⟨x,x1,x2⟩:=Uz _ v1 e2 sw (by rw[xX];omega)
   rw[x1,Option.bind_some]
   cases x with
   | false=>rfl
   | true =>
    exfalso
    have hx:=x2 rfl
    have ue:=Zm hr R.max R.pos R.les (otX v1 (sgl m ts q (2^m-1)) p r (2^m-1))
    rw[hx,eV] at ue
    rcases Jm (Jr (otX v1 (sgl m ts q (2^m-1)) p r (2^m-1)) (2^m-1)) with⟨f1,_,_⟩|⟨f1,_⟩
    ·rw[← ue] at f1;cases f1
    ·rw[← ue] at f1;cases f1
  ·rcases hR:rec (wgh (otX v1 (sgl m ts q (2^m-1)) p r (2^m-1)) (sgl m ts q (2^m-1))) with⟨z1,z2⟩
   rw[hR] at e1
   obtain rfl:z2=8:=e1
   try dsimp only
   rw[if_pos (by simp),if_pos (by simp)]
end Go.Rex
namespace Go.Rex
open Go Go.ChangeShapes Go.WideShapes Go.ChangeAt Go.RowKit Go.Joins Go.Proofs
structure Arg(W:World)(v':Value)(p:TV)(bs:List Blk)(is:List Info)(av:Nat→Value):Prop where
 vr:∀(D:Nat→Prop) (m:NMap) n,(∀ j,j<bs.length→D (n+j))→(∀(j:Nat) i,is[j]?=some i→m (n+j)=i)→VR D m (av n) v'
 vl:∀(Fz:Nat→Prop) (h:List Blk) n,(∀ j,j<bs.length→Fz (n+j))→(∀(j:Nat) b,bs[j]?=some b→h[n+j]?=some b)→VL Fz h noL p (av n)
 ok:∀(D:Nat→Prop) (m:NMap) n,(∀ j,j<bs.length→D (n+j))→(∀(j:Nat) i,is[j]?=some i→m (n+j)=i)→∀(j:Nat) b,bs[j]?=some b→BlkOk D m W (n+j) b
 lt:∀(j:Nat) b i,bs[j]?=some b→is[j]?=some i→b ≠ .dead→i.block<W.heap.size
 len:is.length=bs.length
structure Args(W:World)(vs':List Value)(ps:List TV)(bs:List Blk)(is:List Info)(av:Nat→List Value):Prop where
 vr:∀(D:Nat→Prop) (m:NMap) n,(∀ j,j<bs.length→D (n+j))→(∀(j:Nat) i,is[j]?=some i→m (n+j)=i)→VRs D m (av n) vs'
 vl:∀(Fz:Nat→Prop) (h:List Blk) n,(∀ j,j<bs.length→Fz (n+j))→(∀(j:Nat) b,bs[j]?=some b→h[n+j]?=some b)→VLs Fz h noL ps (av n)
 ok:∀(D:Nat→Prop) (m:NMap) n,(∀ j,j<bs.length→D (n+j))→(∀(j:Nat) i,is[j]?=some i→m (n+j)=i)→∀(j:Nat) b,bs[j]?=some b→BlkOk D m W (n+j) b
 lt:∀(j:Nat) b i,bs[j]?=some b→is[j]?=some i→b ≠ .dead→i.block<W.heap.size
 len:is.length=bs.length
def nm(is:List Info):NMap:=fun n=>is.getD n ⟨0,0,0,0⟩
section
variable {W:World} {vs':List Value} {ps:List TV} {bs:List Blk} {is:List Info} {av:Nat→List Value}
end
theorem len1{α:Type}{l:List α}(h:l.length=1):∃ x0,l=[x0]:=by
 match l,h with
 | [x0],_=>exact⟨_,rfl⟩
theorem len2{α:Type}{l:List α}(h:l.length=2):∃ x0 x1,l=[x0,x1]:=by
 match l,h with
 | [x0,x1],_=>exact⟨_,_,rfl⟩
theorem len3{α:Type}{l:List α}(h:l.length=3):∃ x0 x1 x2,l=[x0,x1,x2]:=by
 match l,h with
 | [x0,x1,x2],_=>exact⟨_,_,_,rfl⟩
def Sv(c:Value):Prop:=rH c=true∧∀ D m,VR D m c c
theorem sN(k:IntKind)(n:Int):Sv (.int k n):=⟨rfl,fun _ _=>.int _ _⟩
theorem Arg.atom{W:World}{v:Value}(h:Sv v):Arg W v (.v v) [] [] (fun _=>v):=
 ⟨fun _ _ _ _ _=>h.2 _ _,fun _ _ _ _ _=>.v _ _ h.1,fun _ _ _ _ _ j b h=>by simp at h,fun j b i h=>by simp at h,rfl⟩
theorem Ep{α β:Type}{g:α→List β}{es:Nat}(hg:∀ x,(g x).length=es)(he:0<es):∀(xs:List α) i,(xs.flatMap g)[i]?=(xs[i/es]?).bind fun x=>(g x)[i%es]?
 | [],i=>by simp
 | x::t,i=>by
  rw[List.flatMap_cons]
  rcases Nat.lt_or_ge i es with h|h
  ·rw[List.getElem?_append_left (by rw[hg];exact h),Nat.div_eq_of_lt h,Nat.mod_eq_of_lt h]
   rfl
  ·rw[List.getElem?_append_right (by rw[hg];exact h),hg,Ep hg he t (i-es)]
   have e1:i/es=(i-es)/es+1:=by rw[Nat.div_eq_sub_div he h]
   have e2:i%es=(i-es)%es:=Nat.mod_eq_sub_mod h
   rw[e1,e2]
   rfl
theorem Bc{α β:Type}{g:α→List β}{es:Nat}(hg:∀ x,(g x).length=es):∀(xs:List α),(xs.flatMap g).length=xs.length*es
 | []=>by simp
 | x::t=>by rw[List.flatMap_cons,List.length_append,hg,Bc hg t,List.length_cons,Nat.add_mul];omega
theorem Bh{α:Type}{f:α→List TV}{g:α→List Value}(hf:∀ x,f x=(g x).map .v):∀(xs:List α),(xs.map f).flatten=(xs.flatMap g).map .v
 | []=>rfl
 | x::t=>by rw[List.map_cons,List.flatten_cons,Bh hf t,List.flatMap_cons,List.map_append,hf]
theorem Bu{α:Type}{Q:Nat→α→Prop}:∀ n,(∀ i,i<n→∃ x,Q i x)→∃ xs:List α,xs.length=n∧∀(i:Nat) x,xs[i]?=some x→Q i x
 | 0,_=>⟨[],rfl,fun i x h=>by simp at h⟩
 | n+1,h=>by
  obtain⟨xs,hl,hq⟩:=Bu n (fun i hi=>h i (by omega))
  obtain⟨x,hx⟩:=h n (by omega)
  refine⟨xs++[x],by simp[hl],fun i y hy=>?_⟩
  rcases Nat.lt_or_ge i n with hi|hi
  ·rw[List.getElem?_append_left (by omega)] at hy
   exact hq i y hy
  ·rw[List.getElem?_append_right (by omega),hl] at hy
   have:i=n:=by
    rcases Nat.lt_or_ge 0 (i-n) with g|g
    ·rw[List.getElem?_eq_none (by simp;omega)] at hy;cases hy
    ·omega
   subst this
   simp at hy
   subst hy
   exact hx
section
variable {H:Type} {enc:TypeId×Value→H} {W:World} {base:Nat} {spare:Nat→Bool} {held:Bool}
theorem Dd{α:Type}{f:α→List TV}{g:α→List Value}{es:Nat}(he:0<es)(hf:∀ x,f x=(g x).map .v)(hg:∀ x,(g x).length=es)(hat:∀ x,∀ c∈g x,Sv c)
 {P:Program} {t te:TypeId} (ht:P.underlying t=some (.slice te)) (hC:P.cellsOf te=es) {r:Reach} {b0:Nat} {v':Value} (hval:Cell.okWide P W r b0 t v')
 (elem:∀ n cs y,DataW.trod enc P W base spare held n te cs=some y→cs.length=es→∃ x:α,cs=g x)
 {fuel:Nat} {x:DataW H×List MemPlace} (h:DataW.trod enc P W base spare held fuel t [v']=some x):∃(xs:List α) (bs:List Blk) (is:List Info) (av:Nat→Value),Arg W v' (.list es (xs.map f)) bs is av:=by
 rcases DataW.trod_slice ht h with⟨hv,_⟩|⟨a,len,cap,elems,rest,n,_,hv,_,hb,hlc,hcm,hel,hel2,_,_⟩
 ·obtain rfl:v' = .slice none 0 0:=by simpa using hv
  exact⟨[],[],[],fun _=>.slice none 0 0,fun _ _ _ _ _=>.nilSlice 0 0,fun _ _ _ _ _=>.nillist _ _,fun _ _ _ _ _ j b h=>by simp at h,fun j b i h=>by simp at h,rfl⟩
 ·obtain rfl:v' = .slice (some a) len cap:=by simpa using hv
  have hok:len≤cap∧(cap:Int)≤IntKind.i64.max∧W.has P r b0 a te cap:=by
   unfold Cell.okWide at hval
   simp only[ht] at hval
   unfold Cell.ok at hval
   simpa only[ht] using hval
  obtain⟨gb,o,s⟩:=a
  obtain⟨_,_,_,hs,row,cells,hsh,_⟩:=hok
  simp only at hs hsh
  subst hs
  have hgb:gb<W.heap.size:=by
   unfold World.shape? at hsh
   rcases Nat.lt_or_ge gb W.heap.size with hg|hg
   ·exact hg
   ·rw[Array.getElem?_eq_none hg] at hsh
    simp at hsh
  have key:∀ i,i<len→∃ x:α,∀ j,j<es→W.cell? ⟨gb,o+i*es+j,none⟩=(g x)[j]?:=fun i hi=>by
   have h1:=hel2 i hi
   rw[List.getElem?_eq_getElem (by omega),Option.bind_eq_some_iff] at h1
   obtain⟨cs,hcs,htr⟩:=h1
   rw[hC] at hcs
   unfold World.cells? at hcs
   split at hcs
   ·have hlen:=mapM_some_length hcs
    simp at hlen
    obtain⟨x,rfl⟩:=elem n cs _ htr hlen
    refine⟨x,fun j hj=>?_⟩
    have:=mapM_some_get hcs j j (by simp[hj])
    have e:((⟨gb,o,none⟩:Addr).add (i*es)).add j=⟨gb,o+i*es+j,none⟩:=by
     unfold Addr.add
     split<;>split<;>simp_all
    rw[← e]
    exact this
   ·cases hcs
  obtain⟨xs,hl,hq⟩:=Bu len key
  subst hl
  have hlen:=Bc hg xs
  have hfl:=Bh hf xs
  refine⟨xs,[.cells es (xs.flatMap g)],[⟨gb,o,cap*es,es⟩],fun n=>.slice (some ⟨n,0,none⟩) xs.length xs.length,fun D m n hD hm=>?_,fun Fz h n hF hh=>?_,fun D m n hD hm j b hb=>?_,fun j b i hb hi hd=>?_,rfl⟩
  ·have e:=hm 0 _ rfl
   rw[Nat.add_zero] at e
   have:=VR.slice (D:=D) (m:=m) n 0 xs.length xs.length cap (hD 0 (by simp)) (Nat.le_refl _) hlc (.inr (by rw[e];simp))
   rw[e] at this
   exact this
  ·have hw:∀ r∈xs.map f,r.length=es:=fun r hr=>by obtain⟨x,_,rfl⟩:=List.mem_map.1 hr;rw[hf,List.length_map,hg]
   have:=VL.list (Fz:=Fz) (h:=h) noL es (xs.map f) n 0 xs.length (xs.flatMap g) es (hF 0 (by simp)) (hh 0 _ rfl) (.inl rfl) hw (by simp) (by rw[List.length_map,hlen];omega) (fun j p x hp hx=>by
    rw[hfl,List.getElem?_map,Option.map_eq_some_iff] at hp
    rw[Nat.zero_add] at hx
    obtain⟨y,h1,rfl⟩:=hp
    obtain rfl:y=x:=Option.some.inj (h1.symm.trans hx)
    obtain⟨z,_,hz⟩:=List.mem_flatMap.1 (List.mem_of_getElem? hx)
    exact .v _ _ (hat z y hz).1)
   rw[List.length_map] at this
   exact this
  ·match j,hb with
   | 0,hb =>
    obtain rfl:=Option.some.inj hb
    have e:=hm 0 _ rfl
    rw[Nat.add_zero] at e ⊢
    refine⟨by rw[e],fun i v hv=>⟨v,?_,?_⟩⟩
    ·rw[Ep hg he,Option.bind_eq_some_iff] at hv
     obtain⟨x,hx,hv⟩:=hv
     rw[e]
     have:=hq _ x hx (i%es) (Nat.mod_lt _ he)
     rw[Nat.add_assoc,Nat.mul_comm,Nat.div_add_mod] at this
     rw[this]
     exact hv
    ·obtain⟨z,_,hz⟩:=List.mem_flatMap.1 (List.mem_of_getElem? hv)
     exact (hat z v hz).2 _ _
   | j+1,hb=>simp at hb
  ·match j,hb,hi with
   | 0, hb, hi => obtain rfl := Option.some.inj hi
                  exact hgb
   | j+1,hb,hi=>simp at hb
theorem Vj{α:Type}{f:α→List TV}{g:α→List Value}{es:Nat}(he:0<es)(hf:∀ x,f x=(g x).map .v)(hg:∀ x,(g x).length=es)(hat:∀ x,∀ c∈g x,Sv c)
 {P:Program} {t te:TypeId} (ht:P.underlying t=some (.slice te)) (hC:P.cellsOf te=es) {r:Reach} {b0:Nat} {v':Value} (hval:Value.okWide P W r b0 t v')
 (elem:∀ n cs y,DataW.trod enc P W base spare held n te cs=some y→cs.length=es→∃ x:α,cs=g x)
 {fuel:Nat} {x:DataW H×List MemPlace} (h:DataW.trod enc P W base spare held fuel t [v']=some x):∃(xs:List α) (bs:List Blk) (is:List Info) (av:Nat→Value),Arg W v' (.list es (xs.map f)) bs is av:=by
 refine Dd he hf hg hat ht hC (r:=r) (b0:=b0) ?_ elem h
 unfold Value.okWide at hval
 simpa only[ht] using hval
def AI(cs:List Value):Prop:=∀ c∈cs,∃ n:Int,c = .int .i64 n
theorem AI.list{cs:List Value}(h:AI cs):∃ l:List Int,cs=l.map (.int .i64):=by
 induction cs with
 | nil=>exact⟨[],rfl⟩
 | cons c t ih =>
  obtain⟨n,rfl⟩:=h c (by simp)
  obtain⟨l,rfl⟩:=ih fun c hc=>h c (by simp[hc])
  exact⟨n::l,rfl⟩
variable {P:Program}
theorem aAv{te:TypeId}(ht:P.underlying te=some (.int .i64)){fuel:Nat}{cs:List Value}{x:DataW H×List MemPlace}(h:DataW.trod enc P W base spare held fuel te cs=some x):AI cs:=by
 obtain⟨n,rfl,_⟩:=DataW.trod_int ht h
 exact fun c hc=>⟨n,by simpa using hc⟩
theorem aCx{t e:TypeId}{m k:Nat}(ht:P.underlying t=some (.array m e))(hk:P.cellsOf e=k)(hk0:0<k)(hc:P.cellsOf t=m*k)(he:∀ n cs y,DataW.trod enc P W base spare held n e cs=some y→AI cs)
 {fuel:Nat} {cs:List Value} {x:DataW H×List MemPlace} (h:DataW.trod enc P W base spare held fuel t cs=some x):AI cs:=by
 obtain⟨xs,n,_,_,hl,hx,hi⟩:=DataW.trod_array ht h
 intro c hcm
 obtain⟨j,hj,rfl⟩:=List.mem_iff_getElem.1 hcm
 rw[hl,hc] at hj
 have hd:j/k<m:=(Nat.div_lt_iff_lt_mul hk0).2 hj
 have h1:=hi _ hd
 rw[List.getElem?_eq_getElem (by omega),hk] at h1
 refine he _ _ _ h1 _ ?_
 refine List.mem_of_getElem? (i:=j%k) ?_
 rw[List.getElem?_take,if_pos (Nat.mod_lt _ hk0),List.getElem?_drop,Nat.mul_comm,Nat.div_add_mod,List.getElem?_eq_getElem]
theorem Jg{t:TypeId}(ht:P.underlying t=some (.int .i64)){r:Reach}{b:Nat}{v:Value}(w:Cell.okWide P W r b t v):∃ n:Int,v = .int .i64 n:=by
 unfold Cell.okWide at w
 simp only[ht] at w
 unfold Cell.ok at w
 simp only[ht] at w
 cases v<;>first|exact⟨_,by rw[w.1]⟩|exact absurd w (by simp)
theorem open_int{t:TypeId}(ht:P.underlying t=some (.int .i64)){r:Reach}{b:Nat}{v:Value}(w:Value.okWide P W r b t v):∃ n:Int,v = .int .i64 n:=by
 unfold Value.okWide at w
 simp only[ht] at w
 exact Jg ht w
theorem Rh{t:TypeId}{fs:Array Field}{ts:List TypeId}(ht:P.underlying t=some (.struct fs))(hct:P.cellTypes P.depth t=some ts)(hn:P.cellsOf t=ts.length){r:Reach}{b:Nat}{v:Value}(w:Value.okWide P W r b t v) :
 ∃ cs:List Value,v = .agg ⟨cs⟩∧cs.length=ts.length∧∀(j:Nat) c u,cs[j]?=some c→ts[j]?=some u→Cell.okWide P W r b u c:=by
 unfold Value.okWide at w
 simp only[ht] at w
 obtain⟨cs,rfl,hs,ts',hts,_,hc⟩:=w
 rw[hct] at hts
 obtain rfl:=Option.some.inj hts
 obtain⟨l⟩:=cs
 have hl:l.length=ts.length:=by simpa [hn] using hs
 refine⟨l,rfl,hl,fun j c u hj hu=>?_⟩
 obtain⟨u',hu',hok⟩:=hc j c (by simpa using hj)
 rw[Nat.mod_eq_of_lt (by have:=(List.getElem?_eq_some_iff.1 hj).1;omega)] at hu'
 obtain rfl:=Option.some.inj (hu.symm.trans hu')
 exact hok
theorem Ml{t:TypeId}{fs:Array Field}{i:Nat}{f:Field}(ht:P.underlying t=some (.struct fs))(hf:fs[i]?=some f){fuel:Nat}{cs:List Value}{x:DataW H×List MemPlace}(h:DataW.trod enc P W base spare held fuel t cs=some x) :
 ∃ n y,DataW.trod enc P W base spare held n f.type ((cs.drop f.offset).take (P.cellsOf f.type))=some y:=by
 obtain⟨xs,n,_,_,hl,hx,hi⟩:=DataW.trod_struct ht h
 have:=hi i f hf
 have hil:i<fs.size:=(Array.getElem?_eq_some_iff.1 hf).1
 rw[List.getElem?_eq_getElem (by omega)] at this
 exact⟨n,_,this⟩
end
end Go.Rex
namespace Go.Rex
open Go Go.ChangeShapes Go.WideShapes Go.ChangeAt Go.RowKit Go.Joins Go.Proofs
structure NArg(W:World)(v':Value)(p:TV)(bs:Nat→List Blk)(is:List Info)(av:Nat→Value):Prop where
 vr:∀(D:Nat→Prop) (m:NMap) n,(∀ j,j<is.length→D (n+j))→(∀(j:Nat) i,is[j]?=some i→m (n+j)=i)→VR D m (av n) v'
 vl:∀(Fz:Nat→Prop) (h:List Blk) n,(∀ j,j<is.length→Fz (n+j))→(∀(j:Nat) b,(bs n)[j]?=some b→h[n+j]?=some b)→VL Fz h noL p (av n)
 ok:∀(D:Nat→Prop) (m:NMap) n,(∀ j,j<is.length→D (n+j))→(∀(j:Nat) i,is[j]?=some i→m (n+j)=i)→∀(j:Nat) b,(bs n)[j]?=some b→BlkOk D m W (n+j) b
 lt:∀ n (j:Nat) b i,(bs n)[j]?=some b→is[j]?=some i→b ≠ .dead→i.block<W.heap.size
 len:∀ n,(bs n).length=is.length
structure NArgs(W:World)(vs':List Value)(ps:List TV)(bs:Nat→List Blk)(is:List Info)(av:Nat→List Value):Prop where
 vr:∀(D:Nat→Prop) (m:NMap) n,(∀ j,j<is.length→D (n+j))→(∀(j:Nat) i,is[j]?=some i→m (n+j)=i)→VRs D m (av n) vs'
 vl:∀(Fz:Nat→Prop) (h:List Blk) n,(∀ j,j<is.length→Fz (n+j))→(∀(j:Nat) b,(bs n)[j]?=some b→h[n+j]?=some b)→VLs Fz h noL ps (av n)
 ok:∀(D:Nat→Prop) (m:NMap) n,(∀ j,j<is.length→D (n+j))→(∀(j:Nat) i,is[j]?=some i→m (n+j)=i)→∀(j:Nat) b,(bs n)[j]?=some b→BlkOk D m W (n+j) b
 lt:∀ n (j:Nat) b i,(bs n)[j]?=some b→is[j]?=some i→b ≠ .dead→i.block<W.heap.size
 len:∀ n,(bs n).length=is.length
theorem Arg.n{W:World}{v':Value}{p:TV}{bs:List Blk}{is:List Info}{av:Nat→Value}(a:Arg W v' p bs is av):NArg W v' p (fun _=>bs) is av:=
 ⟨fun D m n hD hm=>a.vr D m n (by rw[← a.len];exact hD) hm,fun Fz h n hF hh=>a.vl Fz h n (by rw[← a.len];exact hF) hh,fun D m n hD hm=>a.ok D m n (by rw[← a.len];exact hD) hm,fun _=>a.lt,fun _=>a.len.symm⟩
theorem NArgs.nil(W:World):NArgs W [] [] (fun _=>[]) [] (fun _=>[]):=
 ⟨fun _ _ _ _ _=>⟨rfl,fun i a a' h=>by simp at h⟩,fun _ _ _ _ _=>.nil,fun _ _ _ _ _ j b h=>by simp at h,fun _ j b i h=>by simp at h,fun _=>rfl⟩
theorem NArgs.cons{W:World}{v':Value}{p:TV}{bs bs2:Nat→List Blk}{is is2:List Info}{av:Nat→Value}{vs':List Value}{ps:List TV}{avs:Nat→List Value}
 (a:NArg W v' p bs is av) (az:NArgs W vs' ps bs2 is2 avs):NArgs W (v'::vs') (p::ps) (fun n=>bs n++bs2 (n+is.length)) (is++is2) (fun n=>av n::avs (n+is.length)):=by
 have cD:∀(D:Nat→Prop) n,(∀ j,j<(is++is2).length→D (n+j))→(∀ j,j<is.length→D (n+j))∧(∀ j,j<is2.length→D (n+is.length+j)):=by
  intro D n h
  refine⟨fun j hj=>h j (by simp;omega),fun j hj=>?_⟩
  have:=h (is.length+j) (by simp;omega)
  rwa [← Nat.add_assoc] at this
 have cI:∀(m:NMap) n,(∀(j:Nat) i,(is++is2)[j]?=some i→m (n+j)=i)→(∀(j:Nat) i,is[j]?=some i→m (n+j)=i)∧(∀(j:Nat) i,is2[j]?=some i→m (n+is.length+j)=i):=by
  intro m n h
  refine⟨fun j i hj=>h j i (by rw[List.getElem?_append_left (List.getElem?_eq_some_iff.1 hj).1];exact hj),fun j i hj=>?_⟩
  have:=h (is.length+j) i (by rw[List.getElem?_append_right (by omega),Nat.add_sub_cancel_left];exact hj)
  rwa [← Nat.add_assoc] at this
 refine⟨fun D m n hD hm=>?_,fun Fz h n hF hh=>?_,fun D m n hD hm j b hb=>?_,fun n j b i hb hi hd=>?_,fun n=>by simp[a.len,az.len]⟩
 ·have h1:=a.vr D m n (cD D n hD).1 (cI m n hm).1
  have h2:=az.vr D m (n+is.length) (cD D n hD).2 (cI m n hm).2
  refine⟨by simp[h2.len],fun i x x' hx hx'=>?_⟩
  cases i with
  | zero=>simp at hx hx';subst hx hx';exact h1
  | succ i=>simp at hx hx';exact h2.at' i x x' hx hx'
 ·refine .cons (a.vl Fz h n (cD Fz n hF).1 fun j b hb=>hh j b (by rw[List.getElem?_append_left (List.getElem?_eq_some_iff.1 hb).1];exact hb)) (az.vl Fz h (n+is.length) (cD Fz n hF).2 fun j b hb=>?_)
  have:=hh (is.length+j) b (by rw[List.getElem?_append_right (by rw[a.len];omega),a.len,Nat.add_sub_cancel_left];exact hb)
  rwa [← Nat.add_assoc] at this
 ·rcases Nat.lt_or_ge j is.length with hj|hj
  ·rw[List.getElem?_append_left (by rw[a.len];exact hj)] at hb
   exact a.ok D m n (cD D n hD).1 (cI m n hm).1 j b hb
  ·rw[List.getElem?_append_right (by rw[a.len];exact hj),a.len] at hb
   have:=az.ok D m (n+is.length) (cD D n hD).2 (cI m n hm).2 _ b hb
   rwa [show n+is.length+(j-is.length)=n+j by omega] at this
 ·rcases Nat.lt_or_ge j is.length with hj|hj
  ·rw[List.getElem?_append_left (by rw[a.len];exact hj)] at hb
   rw[List.getElem?_append_left hj] at hi
   exact a.lt n j b i hb hi hd
  ·rw[List.getElem?_append_right (by rw[a.len];exact hj),a.len] at hb
   rw[List.getElem?_append_right hj] at hi
   exact az.lt _ _ b i hb hi hd
section
variable {W:World} {vs':List Value} {ps:List TV} {bs:Nat→List Blk} {is:List Info} {av:Nat→List Value}
def gnm(is:List Info):NMap:=fun k=>if k<NG then gm k else is.getD (k-NG) ⟨0,0,0,0⟩
theorem Pu{is:List Info}{j:Nat}{i:Info}(h:is[j]?=some i):gnm is (NG+j)=i:=by
 unfold gnm
 rw[if_neg (by omega),Nat.add_sub_cancel_left,List.getD_eq_getElem?_getD,h]
 rfl
theorem Ad:GH.length=NG:=rfl
theorem NArgs.rel(a:NArgs W vs' ps bs is av)(hw:GW W)(hs:NG≤W.heap.size):Rel W.heap.size (GH++bs NG).length (fun k=>k<(GH++bs NG).length) (gnm is) (GH++bs NG) W:=by
 have hl:=a.len NG
 have hn:(GH++bs NG).length=NG+is.length:=by rw[List.length_append,Ad,hl]
 have old:∀ k,k<NG→gnm is k=gm k:=fun k hk=>if_pos hk
 have parts:∀ n b,n<(GH++bs NG).length→(GH++bs NG)[n]?=some b→(n<NG∧GH[n]?=some b)∨∃ j,n=NG+j∧(bs NG)[j]?=some b:=by
  intro n b hn' hb
  rcases Nat.lt_or_ge n NG with h|h
  ·rw[List.getElem?_append_left h] at hb;exact .inl ⟨h,hb⟩
  ·rw[List.getElem?_append_right h,Ad] at hb;exact .inr ⟨n-NG,by omega,hb⟩
 have st:=Rel.start W hw hs
 have lt:∀ n b,n<(GH++bs NG).length→(GH++bs NG)[n]?=some b→b ≠ .dead→(gnm is n).block<W.heap.size:=by
  intro n b hn' hb hd
  rcases parts n b hn' hb with⟨h1,h2⟩|⟨j,rfl,h2⟩
  ·rw[old n h1];exact st.lt n b h1 h2 hd
  ·have hj:j<is.length:=by omega
   rw[Pu (List.getElem?_eq_getElem hj)]
   exact a.lt NG j b _ h2 (List.getElem?_eq_getElem hj) hd
 refine⟨Nat.le_refl _,fun _ h=>h,fun n b hn' hb=>?_,lt,fun n b hD hl=>absurd hD (by omega),fun n b hn' _ hb hd=>lt n b hn' hb hd,fun n b hD hl=>absurd hD (by omega),fun n n' b b' hD _ hl=>absurd hD (by omega),⟨fun g hg=>⟨?_,?_⟩,hs,hw⟩⟩
 ·rcases parts n b hn' hb with⟨h1,h2⟩|⟨j,rfl,h2⟩
  ·exact (st.ok n b h1 h2).mono (fun k hk=>by have hk':k<NG:=hk;show k<(GH++bs NG).length;omega) (fun k hk=>old k hk) (old n h1)
  ·exact a.ok (fun k=>k<(GH++bs NG).length) (gnm is) NG (fun j hj=>by omega) (fun j i hi=>Pu hi) j b h2
 ·show g<(GH++bs NG).length;omega
 ·rw[old g hg];exact Gy g
theorem NArgs.vls(a:NArgs W vs' ps bs is av):VLs (fun k=>k<(GH++bs NG).length) (GH++bs NG) noL ps (av NG):=by
 have hn:(GH++bs NG).length=NG+is.length:=by rw[List.length_append,Ad,a.len NG]
 exact a.vl _ _ NG (fun j hj=>by omega) (fun j b hb=>by rw[List.getElem?_append_right (by rw[Ad];omega),Ad,Nat.add_sub_cancel_left];exact hb)
theorem NArgs.fz(_a:NArgs W vs' ps bs is av):FZ (fun k=>k<(GH++bs NG).length) (GH++bs NG):=
 ⟨fun _ h=>h,fun g hg=>by
  have h1:g<GH.length:=hg
  exact⟨by rw[List.length_append];omega,List.getElem?_append_left h1⟩⟩
theorem NArgs.vrs(a:NArgs W vs' ps bs is av):VRs (fun k=>k<(GH++bs NG).length) (gnm is) (av NG) vs':=by
 have hn:(GH++bs NG).length=NG+is.length:=by rw[List.length_append,Ad,a.len NG]
 exact a.vr _ _ NG (fun j hj=>by omega) (fun j i hi=>Pu hi)
theorem NArg.ofArgs(a:NArgs W vs' ps bs is av):NArg W (.agg ⟨vs'⟩) (.agg ps) bs is (fun n=>.agg ⟨av n⟩):=
 ⟨fun D m n hD hm=>.agg' (a.vr D m n hD hm),fun Fz h n hF hh=>.agg' (a.vl Fz h n hF hh),a.ok,a.lt,a.len⟩
end
section
variable {H:Type} {enc:TypeId×Value→H} {W:World} {base:Nat} {spare:Nat→Bool} {held:Bool}
end
section
variable {H:Type} {enc:TypeId×Value→H} {W:World} {base:Nat} {spare:Nat→Bool} {held:Bool}
end
section
variable {H:Type} {enc:TypeId×Value→H} {W:World} {base:Nat} {spare:Nat→Bool} {held:Bool} {P:Program} {k0:FloatKind}
end
end Go.Rex
