/- What these functions return: facts on lists and numbers. -/
import Derived.Test.YtbodidihhbejmaaGreatRexG10
import Derived.Test.YtbodidihhbejmaaGreatS
import Derived.ProofKit
import Derived.OpenShut
import Derived.ShutString
import Derived.ChangeOld
import Derived.Below
import Derived.Lib.SmallJoins
import Derived.ChangeShapes
import Derived.ChangeArms
import Derived.WideShapes
set_option linter.unusedSimpArgs false
set_option linter.unusedVariables false
set_option linter.defProp false
set_option linter.unusedSectionVars false
namespace Go.Rex
open Go.RowKit
structure FOk(f:Ieee.Format)(q:Nat):Prop where
 lp:f.leastPlace = -(q:Int)
 le:f.fractionBits+1≤q
 inf:(q+2)*f.binade≤f.infRung
 sgn:f.infRung<f.signWeight
def fq:FloatKind→Nat
 | .f32=>149
 | .f64=>1074
def fb:FloatKind→Nat
 | .f32=>23
 | .f64=>52
theorem fok(k:FloatKind):FOk k.format (fq k):=by
 cases k<;>exact⟨by decide,by decide,by decide +kernel,by decide +kernel⟩
theorem aCJ(k:FloatKind):k.format.fractionBits=fb k:=by cases k<;>rfl
theorem Pe(n:Nat)(neg:Bool):Ieee.Toward.cut .even neg n 0=n:=by
 simp[Ieee.Toward.cut,Nat.mod_one]
theorem shl(m s:Nat):m <<< s=m*2^s:=Nat.shiftLeft_eq m s
theorem Ey{m:Nat}(hm:m≠0)(s:Nat):(m*2^s).log2=m.log2+s:=by
 rw[Nat.log2_eq_iff (by have:=Nat.two_pow_pos s;exact Nat.mul_ne_zero hm (by omega))]
 have h1:=(Nat.log2_eq_iff hm).1 rfl
 constructor
 ·rw[Nat.pow_add];exact Nat.mul_le_mul_right _ h1.1
 ·rw[show m.log2+s+1=m.log2+1+s by omega,Nat.pow_add];exact Nat.mul_lt_mul_of_pos_right h1.2 (Nat.two_pow_pos s)
theorem mK{m:Nat}(hm:m≠0)(neg:Bool){s d:Nat}(hd:d≤s)(way:Ieee.Toward):way.cut neg (m*2^s) d=m*2^(s-d):=by
 have hg:min d ((m*2^s).log2+2)=d:=by rw[Ey hm];omega
 have e:m*2^s=2^d*(m*2^(s-d)):=by
  rw[Nat.mul_comm (2^d),Nat.mul_assoc,← Nat.pow_add,Nat.sub_add_cancel hd]
 have hp:=Nat.two_pow_pos d
 unfold Ieee.Toward.cut
 rw[hg,shl,Nat.one_mul,e]
 dsimp only
 rw[Nat.mul_div_cancel_left _ hp,Nat.mul_mod_right]
 have:(2^d==0)=false:=by simp
 cases way<;>simp[this]
theorem yK(neg:Bool){d:Nat}(way:Ieee.Toward):way.cut neg 0 d=0:=by
 unfold Ieee.Toward.cut
 have hp:0<1 <<< min d ((0:Nat).log2+2):=by rw[shl,Nat.one_mul];exact Nat.two_pow_pos _
 have:(1 <<< min d ((0:Nat).log2+2)==0)=false:=by rw[beq_eq_false_iff_ne];omega
 cases way<;>simp[this]
theorem log2_lt{m b:Nat}(hm:m≠0)(h:m<2^(b+1)):m.log2≤b:=by
 have:=(Nat.log2_lt hm).2 h
 omega
theorem Qe{f:Ieee.Format}{q:Nat}(ok:FOk f q){m:Nat}(hm:m≠0)(hl:m<2^(f.fractionBits+1))(neg:Bool)(s:Nat) :
 f.nearest neg (m*2^s) (-(s:Int))=f.word neg ((q+m.log2-f.fractionBits)*f.binade+m*2^(f.fractionBits-m.log2)):=by
 have hL:=log2_lt hm hl
 have hle:=ok.le
 unfold Ieee.Format.nearest
 rw[if_neg (by have:=Nat.two_pow_pos s;exact Nat.mul_ne_zero hm (by omega)),Ey hm,ok.lp]
 have e1:max (-(s:Int)+((m.log2+s:Nat):Int)-(f.fractionBits:Int)) (-(q:Int))=(m.log2:Int)-f.fractionBits:=by omega
 rw[e1]
 have kept:Ieee.Toward.even.cut neg ((m*2^s) <<< (-(s:Int)-((m.log2:Int)-f.fractionBits)).toNat) ((m.log2:Int)-f.fractionBits - -(s:Int)).toNat=m*2^(f.fractionBits-m.log2):=by
  rcases Nat.lt_or_ge (f.fractionBits-m.log2) s with h|h
  ·have a1:(-(s:Int)-((m.log2:Int)-f.fractionBits)).toNat=0:=by omega
   rw[a1,shl,Nat.pow_zero,Nat.mul_one,mK hm neg (by omega)]
   congr 2;omega
  ·have a1:(-(s:Int)-((m.log2:Int)-f.fractionBits)).toNat=f.fractionBits-m.log2-s:=by omega
   have a2:((m.log2:Int)-f.fractionBits - -(s:Int)).toNat=0:=by omega
   rw[a1,a2,Pe,shl,Nat.mul_assoc,← Nat.pow_add]
   congr 2;omega
 dsimp only
 rw[kept]
 have a3:((m.log2:Int)-f.fractionBits - -(q:Int)).toNat=q+m.log2-f.fractionBits:=by omega
 rw[a3]
 have hk:m*2^(f.fractionBits-m.log2)<2*f.binade:=by
  have h1:=(Nat.log2_eq_iff hm).1 rfl
  have h2:=Nat.mul_lt_mul_of_pos_right h1.2 (Nat.two_pow_pos (f.fractionBits-m.log2))
  rw[← Nat.pow_add] at h2
  rw[show m.log2+1+(f.fractionBits-m.log2)=f.fractionBits+1 by omega] at h2
  unfold Ieee.Format.binade
  rw[Nat.pow_succ] at h2
  omega
 have hi:=ok.inf
 have hq:(q+m.log2-f.fractionBits)*f.binade≤q*f.binade:=Nat.mul_le_mul_right _ (by omega)
 rw[Nat.add_mul] at hi
 rw[Nat.min_eq_left (by omega)]
def digs(f:Ieee.Format)(q m:Nat):Nat:=if m=0 then q else f.fractionBits-m.log2
theorem Wj{f:Ieee.Format}{q:Nat}(ok:FOk f q){m:Nat}(hl:m<2^(f.fractionBits+1))(neg:Bool):f.read (f.nearest neg m 0) = .number neg (m*2^digs f q m) (-(digs f q m:Int)):=by
 have hle:=ok.le
 have hsg:=ok.sgn
 have hinf:=ok.inf
 have hbp:0<f.binade:=Nat.two_pow_pos _
 have wd:∀ r,r<f.signWeight→(f.word neg r/f.signWeight%2==1)=neg∧f.word neg r%f.signWeight=r:=by
  intro r hr
  unfold Ieee.Format.word
  cases neg
  ·simp[Nat.div_eq_of_lt hr,Nat.mod_eq_of_lt hr]
  ·have hs:0<f.signWeight:=by omega
   simp only[if_true]
   rw[Nat.add_div_left _ hs,Nat.div_eq_of_lt hr,Nat.add_mod_left,Nat.mod_eq_of_lt hr]
   simp
 rw[Nat.add_mul] at hinf
 have hq0:2*f.binade≤f.infRung:=by omega
 by_cases hm:m=0
 ·subst hm
  have:f.nearest neg 0 0=f.word neg 0:=by unfold Ieee.Format.nearest;simp
  rw[this]
  unfold Ieee.Format.read
  simp only[(wd 0 (by omega)).1,(wd 0 (by omega)).2]
  rw[if_pos hbp,ok.lp]
  simp[digs]
 ·have h0:=Qe ok hm hl neg 0
  simp only[Nat.pow_zero,Nat.mul_one,Int.natCast_zero,Int.neg_zero] at h0
  rw[h0]
  have hL:=log2_lt hm hl
  have h1:=(Nat.log2_eq_iff hm).1 rfl
  have hk:m*2^(f.fractionBits-m.log2)<2*f.binade:=by
   have h2:=Nat.mul_lt_mul_of_pos_right h1.2 (Nat.two_pow_pos (f.fractionBits-m.log2))
   rw[← Nat.pow_add] at h2
   rw[show m.log2+1+(f.fractionBits-m.log2)=f.fractionBits+1 by omega] at h2
   unfold Ieee.Format.binade
   rw[Nat.pow_succ] at h2
   omega
  have hk2:f.binade≤m*2^(f.fractionBits-m.log2):=by
   have h2:=Nat.mul_le_mul_right (2^(f.fractionBits-m.log2)) h1.1
   rw[← Nat.pow_add] at h2
   rw[show m.log2+(f.fractionBits-m.log2)=f.fractionBits by omega] at h2
   exact h2
  generalize hK:m*2^(f.fractionBits-m.log2)=K at *
  obtain⟨j,hj⟩:∃ j,K=f.binade+j:=⟨K-f.binade,by omega⟩
  subst hj
  have hjb:j<f.binade:=by omega
  have hq:(q+m.log2-f.fractionBits)*f.binade≤q*f.binade:=Nat.mul_le_mul_right _ (by omega)
  have hr:(q+m.log2-f.fractionBits)*f.binade+(f.binade+j)<f.infRung:=by omega
  have hrs:(q+m.log2-f.fractionBits)*f.binade+(f.binade+j)<f.signWeight:=by omega
  unfold Ieee.Format.read
  simp only[(wd _ hrs).1,(wd _ hrs).2]
  rw[if_neg (by omega),if_pos hr]
  have e1:(q+m.log2-f.fractionBits)*f.binade+(f.binade+j)=f.binade*(q+m.log2-f.fractionBits+1)+j:=by
   rw[Nat.mul_add,Nat.mul_comm];omega
  rw[e1,Nat.mul_add_mod,Nat.mod_eq_of_lt hjb,Nat.mul_add_div hbp,Nat.div_eq_of_lt hjb,ok.lp]
  unfold digs
  rw[if_neg hm,hK]
  congr 1
  omega
def sg(s:Bool)(m:Nat):Int:=if s then -(m:Int) else m
theorem wY(s:Bool)(m u:Nat):Ieee.signed s m u=sg s m*2^u:=by
 unfold Ieee.signed sg
 rw[shl]
 cases s<;>simp[Int.neg_mul]
def fz(k:FloatKind)(s:Bool)(m:Nat):Nat:=k.encode (.number s m 0)
def ffit(k:FloatKind)(m:Nat):Prop:=m<2^(fb k+1)
def dg(k:FloatKind)(m:Nat):Nat:=digs k.format (fq k) m
theorem aAX{k:FloatKind}{s:Bool}{m:Nat}(h:ffit k m):k.format.read (fz k s m) = .number s (m*2^dg k m) (-(dg k m:Int)):=
 Wj (fok k) (by rw[aCJ];exact h) s
theorem Su(s:Bool)(m n:Nat):sg s (m*n)=sg s m*n:=by cases s<;>simp[sg,Int.neg_mul]
theorem yM(s:Bool)(m:Nat):(sg s m).natAbs=m:=by cases s<;>simp[sg]
theorem aBz{op:BinOp}{k:FloatKind}{a b r:Nat}(h:farith0 op k a b=some r):farith op k a b=some r:=by
 unfold farith arN
 rw[h]
 rfl
end Go.Rex
open Go Go.Rex
namespace Go.Rex
set_option maxRecDepth 100000
theorem dbl:Ieee.double.fractionBits=52∧Ieee.double.leastPlace = -1074∧Ieee.double.binade=2^52∧Ieee.double.infRung=2047*Ieee.double.binade∧Ieee.double.signWeight=2048*Ieee.double.binade:=by decide +kernel
theorem Lr{m:Nat}(hm:m≠0)(hl:m<2^53)(neg:Bool)(a:Nat){e p:Int}(hp:p=e-a)(h1:-1074≤e+m.log2-52)(h2:e+m.log2≤1023) :
 Ieee.double.nearest neg (m*2^a) p=Ieee.double.word neg ((1074+e+m.log2-52).toNat*Ieee.double.binade+m*2^(52-m.log2)):=by
 subst hp
 have hL:=log2_lt hm hl
 unfold Ieee.Format.nearest
 rw[if_neg (by have:=Nat.two_pow_pos a;exact Nat.mul_ne_zero hm (by omega)),Ey hm,dbl.1,dbl.2.1]
 have e1:max (e-(a:Int)+((m.log2+a:Nat):Int)-((52:Nat):Int)) (-1074)=e+(m.log2:Int)-52:=by omega
 rw[e1]
 have kept:Ieee.Toward.even.cut neg ((m*2^a) <<< (e-(a:Int)-(e+(m.log2:Int)-52)).toNat) (e+(m.log2:Int)-52-(e-(a:Int))).toNat=m*2^(52-m.log2):=by
  rcases Nat.lt_or_ge (52-m.log2) a with h|h
  ·have a1:(e-(a:Int)-(e+(m.log2:Int)-52)).toNat=0:=by omega
   rw[a1,shl,Nat.pow_zero,Nat.mul_one,mK hm neg (by omega)]
   congr 2;omega
  ·have a1:(e-(a:Int)-(e+(m.log2:Int)-52)).toNat=52-m.log2-a:=by omega
   have a2:(e+(m.log2:Int)-52-(e-(a:Int))).toNat=0:=by omega
   rw[a1,a2,Pe,shl,Nat.mul_assoc,← Nat.pow_add]
   congr 2;omega
 dsimp only
 rw[kept]
 have a3:(e+(m.log2:Int)-52 - -1074).toNat=(1074+e+m.log2-52).toNat:=by omega
 rw[a3]
 have hk:m*2^(52-m.log2)<2*Ieee.double.binade:=by
  have h1:=(Nat.log2_eq_iff hm).1 rfl
  have h2:=Nat.mul_lt_mul_of_pos_right h1.2 (Nat.two_pow_pos (52-m.log2))
  rw[← Nat.pow_add] at h2
  rw[show m.log2+1+(52-m.log2)=53 by omega] at h2
  rw[dbl.2.2.1]
  omega
 rw[dbl.2.2.2.1]
 generalize Ieee.double.binade=B at hk ⊢
 rw[Nat.min_eq_left (by
  have:(1074+e+(m.log2:Int)-52).toNat≤2045:=by omega
  have:=Nat.mul_le_mul_right B this
  omega)]
theorem wd(neg:Bool)(r:Nat)(hr:r<Ieee.double.signWeight):(Ieee.double.word neg r/Ieee.double.signWeight%2==1)=neg∧Ieee.double.word neg r%Ieee.double.signWeight=r:=by
 unfold Ieee.Format.word
 cases neg
 ·simp[Nat.div_eq_of_lt hr,Nat.mod_eq_of_lt hr]
 ·have hs:0<Ieee.double.signWeight:=by omega
  simp only[if_true]
  rw[Nat.add_div_left _ hs,Nat.div_eq_of_lt hr,Nat.add_mod_left,Nat.mod_eq_of_lt hr]
  simp
theorem Ve{m:Nat}(hm:m≠0)(hl:m<2^53)(neg:Bool){e:Int}(h1:-1074≤e+m.log2-52)(h2:e+m.log2≤1023) :
 Ieee.double.read (Ieee.double.nearest neg m e) = .number neg (m*2^(52-m.log2)) (e-((52-m.log2:Nat):Int)):=by
 have h0:=Lr hm hl neg 0 (e:=e) (p:=e) (by simp) h1 h2
 rw[Nat.pow_zero,Nat.mul_one] at h0
 rw[h0]
 have hL:=log2_lt hm hl
 have hh:=(Nat.log2_eq_iff hm).1 rfl
 have hB:=dbl.2.2.1
 have hk:m*2^(52-m.log2)<2*Ieee.double.binade:=by
  have h2:=Nat.mul_lt_mul_of_pos_right hh.2 (Nat.two_pow_pos (52-m.log2))
  rw[← Nat.pow_add] at h2
  rw[show m.log2+1+(52-m.log2)=53 by omega] at h2
  rw[hB]
  omega
 have hk2:Ieee.double.binade≤m*2^(52-m.log2):=by
  have h2:=Nat.mul_le_mul_right (2^(52-m.log2)) hh.1
  rw[← Nat.pow_add] at h2
  rw[show m.log2+(52-m.log2)=52 by omega] at h2
  rw[hB]
  exact h2
 have hB0:0<Ieee.double.binade:=by rw[hB];decide
 generalize hK:m*2^(52-m.log2)=K at *
 obtain⟨j,hj⟩:∃ j,K=Ieee.double.binade+j:=⟨K-Ieee.double.binade,by omega⟩
 subst hj
 obtain⟨q,hq⟩:∃ q:Nat,(1074+e+(m.log2:Int)-52).toNat=q:=⟨_,rfl⟩
 rw[hq]
 have hq2:q≤2045:=by omega
 have hqb:=Nat.mul_le_mul_right Ieee.double.binade hq2
 have hr:q*Ieee.double.binade+(Ieee.double.binade+j)<Ieee.double.signWeight:=by
  rw[dbl.2.2.2.2]
  omega
 unfold Ieee.Format.read
 simp only[(wd neg _ hr).1,(wd neg _ hr).2]
 rw[dbl.2.2.2.1,dbl.2.1]
 generalize Ieee.double.binade=B at *
 rw[if_neg (by omega),if_pos (by omega)]
 have e1:q*B+(B+j)=B*(q+1)+j:=by rw[Nat.mul_add,Nat.mul_comm];omega
 have hjb:j<B:=by omega
 rw[e1,Nat.mul_add_mod,Nat.mod_eq_of_lt hjb,Nat.mul_add_div hB0,Nat.div_eq_of_lt hjb]
 congr 1
 omega
theorem Cl(neg:Bool)(p:Int):Ieee.double.nearest neg 0 p=Ieee.double.word neg 0:=by
 unfold Ieee.Format.nearest
 simp
theorem Rm(neg:Bool):Ieee.double.read (Ieee.double.word neg 0) = .number neg 0 (-1074):=by
 cases neg<;>decide +kernel
def NV(s:Bool)(m:Nat)(e:Int)(x:Int):Prop:=(0≤e∧sg s m*2^e.toNat=x)∨(e<0∧sg s m=x*2^(-e).toNat)
theorem mN(a b:Nat):(2:Int)^(a+b)=2^a*2^b:=Int.pow_add ..
theorem NV.at{s:Bool}{m:Nat}{e x:Int}(h:NV s m e x){b:Int}(hb:b≤e)(hb0:b≤0):sg s m*2^(e-b).toNat=x*2^(-b).toNat:=by
 rcases h with⟨h0,h1⟩|⟨h0,h1⟩
 ·rw[show (e-b).toNat=e.toNat+(-b).toNat by omega,mN,← Int.mul_assoc,h1]
 ·rw[h1,show (-b).toNat=(-e).toNat+(e-b).toNat by omega,mN,Int.mul_assoc]
theorem NV.of{s:Bool}{m:Nat}{e x b:Int}(hb:b≤e)(hb0:b≤0)(h:sg s m*2^(e-b).toNat=x*2^(-b).toNat):NV s m e x:=by
 have hp:∀ k:Nat,(0:Int)<2^k:=fun k=>Int.pow_pos (by decide)
 by_cases he:0≤e
 ·left
  refine⟨he,?_⟩
  rw[show (e-b).toNat=e.toNat+(-b).toNat by omega,mN,← Int.mul_assoc] at h
  exact Int.eq_of_mul_eq_mul_right (Int.ne_of_gt (hp _)) h
 ·right
  refine⟨by omega,?_⟩
  rw[show (-b).toNat=(-e).toNat+(e-b).toNat by omega,mN,← Int.mul_assoc] at h
  exact Int.eq_of_mul_eq_mul_right (Int.ne_of_gt (hp _)) h
theorem Kr(a b:Int)(k:Nat):compare (a*2^k) (b*2^k)=compare a b:=by
 have hp:(0:Int)<2^k:=Int.pow_pos (by decide)
 have key:∀ a b:Int,a*2^k<b*2^k↔a<b:=fun a b=>Int.mul_lt_mul_right hp
 simp only[compare,compareOfLessAndEq,key]
 have:(a*2^k=b*2^k)↔a=b:=Int.mul_eq_mul_right_iff (by omega)
 simp only[this]
theorem pS{s t:Bool}{m n:Nat}{i j b:Int}(hi:b≤i)(hj:b≤j):Ieee.Datum.order (.number s m i) (.number t n j)=some (compare (sg s m*2^(i-b).toNat) (sg t n*2^(j-b).toNat)):=by
 simp only[Ieee.Datum.order,wY]
 congr 1
 rw[show (i-b).toNat=(i-min i j).toNat+(min i j-b).toNat by omega,show (j-b).toNat=(j-min i j).toNat+(min i j-b).toNat by omega,mN,mN,← Int.mul_assoc,← Int.mul_assoc,Kr]
theorem pT{s t:Bool}{m n:Nat}{i j x y:Int}(h:NV s m i x)(g:NV t n j y):Ieee.Datum.order (.number s m i) (.number t n j)=some (compare x y):=by
 have hb:min (min i j) 0≤i∧min (min i j) 0≤j∧min (min i j) 0≤0:=by omega
 rw[pS hb.1 hb.2.1,h.at hb.1 hb.2.2,g.at hb.2.1 hb.2.2,Kr]
theorem Zt{s t:Bool}{m n:Nat}{i j y:Int}(g:NV t n j y)(h:Ieee.Datum.order (.number s m i) (.number t n j)=some .eq):NV s m i y:=by
 have hb:min (min i j) 0≤i∧min (min i j) 0≤j∧min (min i j) 0≤0:=by omega
 rw[pS hb.1 hb.2.1,g.at hb.2.1 hb.2.2,Option.some.injEq,Int.compare_eq_eq] at h
 exact NV.of hb.1 hb.2.2 h
theorem NV.shift{s:Bool}{m:Nat}{e x:Int}(a:Nat):NV s (m*2^a) (e-a) x↔NV s m e x:=by
 have hb:min (e-a) 0≤e∧min (e-a) 0≤e-a∧min (e-a) 0≤0:=by omega
 have key:sg s (m*2^a)*2^(e-a-min (e-a) 0).toNat=sg s m*2^(e-min (e-a) 0).toNat:=by
  rw[Su,Int.mul_assoc,Int.natCast_pow]
  congr 1
  show (2:Int)^a*2^_=_
  rw[← mN]
  congr 1
  omega
 constructor
 ·intro h
  exact NV.of hb.1 hb.2.2 (by rw[← key];exact h.at hb.2.1 hb.2.2)
 ·intro h
  exact NV.of hb.2.1 hb.2.2 (by rw[key];exact h.at hb.1 hb.2.2)
end Go.Rex
open Go Go.Rex
namespace Go.Rex
set_option maxRecDepth 100000
def MOk(m:Nat)(e:Int):Prop:=(m=0∧e = -149)∨(m≠0∧m<2^24∧-149≤e∧e≤104)
theorem sng:Ieee.single.leastPlace = -149∧Ieee.single.binade=2^23∧Ieee.single.infRung=255*2^23:=by decide +kernel
theorem Kj(b:Nat):(∃ s t,Ieee.single.read b = .nan s t)∨(∃ s,Ieee.single.read b = .infinity s)∨(∃ s m e,Ieee.single.read b = .number s m e∧MOk m e):=by
 unfold Ieee.Format.read
 simp only[sng.1,sng.2.1,sng.2.2]
 generalize b%Ieee.single.signWeight=r
 generalize (b/Ieee.single.signWeight%2==1)=s
 split
 ·rename_i h
  refine .inr (.inr ⟨_,_,_,rfl,?_⟩)
  by_cases h0:r=0
  ·exact .inl ⟨h0,rfl⟩
  ·exact .inr ⟨h0,by omega,by omega,by omega⟩
 ·split
  ·refine .inr (.inr ⟨_,_,_,rfl,.inr ⟨by omega,?_,by omega,by omega⟩⟩)
   have:=Nat.mod_lt r (show 0<2^23 by decide)
   omega
  ·split
   ·exact .inr (.inl ⟨_,rfl⟩)
   ·exact .inl ⟨_,_,rfl⟩
theorem Jw{m:Nat}(hm:m≠0)(hl:m<2^53)(neg:Bool)(a:Nat){e p:Int}(hp:p=e-a)(h1:-1074≤e+m.log2-52)(h2:e+m.log2≤1023):Ieee.double.nearest neg (m*2^a) p=Ieee.double.nearest neg m e:=by
 rw[Lr hm hl neg a hp h1 h2]
 have:=Lr hm hl neg 0 (e:=e) (p:=e) (by simp) h1 h2
 rw[Nat.pow_zero,Nat.mul_one] at this
 exact this.symm
theorem Wm(s:Bool)(m:Nat)(e:Int):∃ r,Ieee.double.nearest s m e=Ieee.double.word s r∧r≤Ieee.double.infRung:=by
 unfold Ieee.Format.nearest
 split
 ·exact⟨0,rfl,Nat.zero_le _⟩
 ·exact⟨_,rfl,Nat.min_le_right _ _⟩
theorem Ux{m:Nat}{e:Int}(h:m≠0∧m<2^24∧-149≤e∧e≤104):-1074≤e+m.log2-52∧e+m.log2≤1023∧m<2^53:=by
 have:m.log2≤23:=log2_lt h.1 h.2.1
 exact⟨by omega,by omega,by omega⟩
structure Dbl(s:Bool)(m:Nat)(e:Int)(v M:Nat)(E:Int):Prop where
 nr:v=Ieee.double.nearest s m e
 rd:Ieee.double.read v = .number s M E
 nv:∀ x,NV s M E x↔NV s m e x
 lt:M<2^53
 hi:E≤104
 sh:(m=0∧M=0∧E = -1074)∨∃ t:Nat,m≠0∧M=m*2^t∧E=e-t
theorem Fl{s:Bool}{m:Nat}{e:Int}(h:MOk m e):∃ M E,Dbl s m e (Ieee.double.nearest s m e) M E:=by
 rcases h with⟨rfl,rfl⟩|h
 ·refine⟨0,-1074,rfl,by rw[Cl];exact Rm s,fun x=>?_,by decide,by decide,.inl ⟨rfl,rfl,rfl⟩⟩
  have e0:sg s 0=0:=by cases s<;>rfl
  have hp:∀ k:Nat,(2:Int)^k≠0:=fun k=>Int.ne_of_gt (Int.pow_pos (by decide))
  unfold NV
  simp only[e0,Int.zero_mul]
  constructor
  ·rintro (⟨h,_⟩|⟨_,h⟩)
   ·omega
   ·right
    refine⟨by decide,?_⟩
    rcases Int.mul_eq_zero.1 h.symm with h|h
    ·rw[h,Int.zero_mul]
    ·exact absurd h (hp _)
  ·rintro (⟨h,_⟩|⟨_,h⟩)
   ·omega
   ·right
    refine⟨by decide,?_⟩
    rcases Int.mul_eq_zero.1 h.symm with h|h
    ·rw[h,Int.zero_mul]
    ·exact absurd h (hp _)
 ·obtain⟨h1,h2,h3⟩:=Ux h
  have hlog:m.log2≤23:=log2_lt h.1 h.2.1
  refine⟨m*2^(52-m.log2),e-((52-m.log2:Nat):Int),rfl,Ve h.1 h3 s h1 h2,fun x=>NV.shift _,?_,by omega,.inr ⟨52-m.log2,h.1,rfl,rfl⟩⟩
  have hh:=(Nat.log2_eq_iff h.1).1 rfl
  have h2:=Nat.mul_lt_mul_of_pos_right hh.2 (Nat.two_pow_pos (52-m.log2))
  rw[← Nat.pow_add] at h2
  rw[show m.log2+1+(52-m.log2)=53 by omega] at h2
  exact h2
theorem tC{k:FloatKind}{b:Nat}{s:Bool}{m:Nat}{e:Int}(h:k.format.read b = .number s m e):gX k b=false:=by
 cases hq:gX k b with
 | false=>rfl
 | true =>
  obtain⟨s',t,e'⟩:=lT hq
  rw[h] at e'
  cases e'
theorem zS{b:Nat}{s:Bool}{m:Nat}{e:Int}(hr:Ieee.single.read b = .number s m e)(h:MOk m e):f2f .f32 b .f64=some (Ieee.double.nearest s m e):=by
 obtain⟨M,E,hd⟩:=Fl (s:=s) h
 have hn:gX .f32 b=false:=tC (k:=.f32) hr
 unfold f2f
 rw[if_neg (by decide),hn,if_neg (by decide)]
 have hr':FloatKind.f32.decode b = .number s m e:=hr
 rw[hr']
 simp only
 have e1:FloatKind.f64.encode (.number s m e)=Ieee.double.nearest s m e:=rfl
 rw[e1]
 have e2:FloatKind.f64.decode (Ieee.double.nearest s m e) = .number s M E:=hd.rd
 rw[e2]
 rfl
theorem No{v:Nat}{s:Bool}{M:Nat}{E:Int}(h:Ieee.double.read v = .number s M E):trI .zero v=some (Ieee.double.nearest s (Ieee.Toward.cut .zero s (M <<< E.toNat) (-E).toNat) 0):=by
 unfold trI
 rw[tC (k:=.f64) h,if_neg (by decide)]
 have h':FloatKind.f64.decode v = .number s M E:=h
 rw[h']
 rfl
theorem Cm{s:Bool}{m:Nat}{e x:Int}(h:NV s m e x):sg s x.natAbs=x:=by
 have key:∀(a:Nat) (y:Int),sg s a=y→sg s y.natAbs=y:=fun a y h=>by rw[← h,yM]
 have hp:∀ k:Nat,(0:Int)<2^k:=fun k=>Int.pow_pos (by decide)
 rcases h with⟨_,h⟩|⟨_,h⟩
 ·have:sg s (m*2^e.toNat)=x:=by rw[Su,← h,Int.natCast_pow];rfl
  exact key _ _ this
 ·have h2 : 0 ≤ sg s 1 * x := by
    have h3:sg s m=sg s 1*(m:Int):=by cases s<;>simp[sg]
    have h4:(0:Int)≤sg s 1*(x*2^(-e).toNat):=by rw[← h,h3];cases s<;>simp[sg]
    rw[← Int.mul_assoc] at h4
    by_cases hn:sg s 1*x<0
    ·have:=Int.mul_neg_of_neg_of_pos hn (hp (-e).toNat)
     omega
    ·omega
  cases s
  ·simp[sg] at h2 ⊢;omega
  ·simp[sg] at h2 ⊢;omega
theorem Jy{s:Bool}{m:Nat}{e:Int}{v M:Nat}{E x:Int}(h:MOk m e)(hd:Dbl s m e v M E)(hx:NV s m e x):trI .zero v=some v:=by
 rw[No hd.rd]
 congr 1
 rcases hd.sh with⟨h0,h1,h2⟩|⟨t,hm,h1,h2⟩
 ·subst h0 h1 h2
  rw[show (0:Nat) <<< (-1074:Int).toNat=0 by rw[shl];simp,yK,Cl,hd.nr,Cl]
 ·rcases h with⟨h0,_⟩|hk
  ·exact absurd h0 hm
  obtain⟨k1,k2,k3⟩:=Ux hk
  have hlog:m.log2≤23:=log2_lt hk.1 hk.2.1
  subst h1 h2
  rw[hd.nr]
  rcases hx with⟨he,hx⟩|⟨he,hx⟩
  ·have hq : Ieee.Toward.cut .zero s ((m * 2 ^ t) <<< (e - (t : Int)).toNat) (-(e - (t : Int))).toNat = m * 2 ^ e.toNat := by
     rw[shl,Nat.mul_assoc,← Nat.pow_add,mK hm s (by omega)]
     congr 2
     omega
   rw[hq]
   exact Jw hm k3 s e.toNat (by omega) k1 k2
  ·have hX : m = x.natAbs * 2 ^ (-e).toNat := by
     have:=congrArg Int.natAbs hx
     rw[yM,Int.natAbs_mul,Int.natAbs_pow] at this
     exact this
   have hX0:x.natAbs≠0:=by
    intro h
    rw[h,Nat.zero_mul] at hX
    exact hm hX
   have hXl:x.natAbs≤m:=by rw[hX];exact Nat.le_mul_of_pos_right _ (Nat.two_pow_pos _)
   have hXlog:x.natAbs.log2≤23:=log2_lt hX0 (by omega)
   have hq:Ieee.Toward.cut .zero s ((m*2^t) <<< (e-(t:Int)).toNat) (-(e-(t:Int))).toNat=x.natAbs:=by
    rw[show (e-(t:Int)).toNat=0 by omega,shl,Nat.pow_zero,Nat.mul_one,hX,Nat.mul_assoc,← Nat.pow_add,mK hX0 s (by omega)]
    rw[show (-e).toNat+t-(-(e-(t:Int))).toNat=0 by omega]
    simp
   rw[hq]
   have:=Jw hX0 (by omega) s (-e).toNat (e:=0) (p:=e) (by omega) (by omega) (by omega)
   rw[← hX] at this
   exact this.symm
theorem Fx{q:Nat}(hq:q<2^53)(s:Bool):∃ n j,Ieee.double.read (Ieee.double.nearest s q 0) = .number s n j∧NV s n j (sg s q):=by
 by_cases h0:q=0
 ·subst h0
  refine⟨0,-1074,by rw[Cl];exact Rm s,.inr ⟨by decide,?_⟩⟩
  rw[show sg s 0=0 by cases s<;>rfl,Int.zero_mul]
 ·have hl:=log2_lt h0 hq
  refine⟨_,_,Ve h0 hq s (by omega) (by omega),(NV.shift _).2 (.inl ⟨by decide,?_⟩)⟩
  simp
theorem Zm{s:Bool}{m:Nat}{e:Int}{v M:Nat}{E:Int}(h:MOk m e)(hd:Dbl s m e v M E)(hx:∀ x,¬ NV s m e x):∃ w,trI .zero v=some w∧fcmp .eql .f64 v w=false:=by
 have hE:E<0:=by
  rcases hd.sh with⟨h0,h1,h2⟩|⟨t,hm,h1,h2⟩
  ·omega
  ·by_cases he:0≤e
   ·exact absurd (.inl ⟨he,rfl⟩) (hx _)
   ·omega
 have hq:Ieee.Toward.cut .zero s (M <<< E.toNat) (-E).toNat<2^53:=by
  rw[show E.toNat=0 by omega,shl,Nat.pow_zero,Nat.mul_one]
  unfold Ieee.Toward.cut
  simp only[Bool.toNat_false,Nat.add_zero]
  exact Nat.lt_of_le_of_lt (Nat.div_le_self _ _) hd.lt
 obtain⟨n,j,hr,hn⟩:=Fx hq s
 refine⟨_,No hd.rd,?_⟩
 unfold fcmp
 have ho:FloatKind.f64.format.order v (Ieee.double.nearest s (Ieee.Toward.cut .zero s (M <<< E.toNat) (-E).toNat) 0)=Ieee.Datum.order (.number s M E) (.number s n j):=by
  show Ieee.Datum.order (Ieee.double.read v) (Ieee.double.read _)=_
  rw[hd.rd,hr]
 simp only[ho]
 rw[beq_eq_false_iff_ne]
 intro he
 exact hx _ ((hd.nv _).1 (Zt hn he))
end Go.Rex
namespace Go.Rex
open Go Go.Rex
set_option maxRecDepth 100000
theorem ord64{a b:Nat}{s t:Bool}{m n:Nat}{i j:Int}(h:Ieee.double.read a = .number s m i)(g:Ieee.double.read b = .number t n j):FloatKind.f64.format.order a b=Ieee.Datum.order (.number s m i) (.number t n j):=by
 show Ieee.Datum.order (Ieee.double.read a) (Ieee.double.read b)=_
 rw[h,g]
theorem ord32{a b:Nat}{s t:Bool}{m n:Nat}{i j:Int}(h:Ieee.single.read a = .number s m i)(g:Ieee.single.read b = .number t n j):FloatKind.f32.format.order a b=Ieee.Datum.order (.number s m i) (.number t n j):=by
 show Ieee.Datum.order (Ieee.single.read a) (Ieee.single.read b)=_
 rw[h,g]
theorem Ar{v:Nat}{s:Bool}{M:Nat}{E:Int}(h:Ieee.double.read v = .number s M E):fcmp .eql .f64 v v=true∧fcmp .neq .f64 v v=false:=by
 have:FloatKind.f64.format.order v v=some .eq:=by
  rw[ord64 h h,pS (Int.le_refl _) (Int.le_refl _)]
  congr 1
  exact Int.compare_eq_eq.2 rfl
 unfold fcmp
 simp only[this]
 exact⟨rfl,rfl⟩
theorem Xp{s:Bool}{r M:Nat}{E:Int}(hr:r<Ieee.double.signWeight)(h:Ieee.double.read (Ieee.double.word s r) = .number s M E):Ieee.double.read r = .number false M E:=by
 have h1:=wd s r hr
 have h2:(r/Ieee.double.signWeight%2==1)=false∧r%Ieee.double.signWeight=r:=by
  rw[Nat.div_eq_of_lt hr,Nat.mod_eq_of_lt hr]
  exact⟨rfl,rfl⟩
 unfold Ieee.Format.read at h ⊢
 simp only[h1.1,h1.2] at h
 simp only[h2.1,h2.2]
 split at h
 ·rename_i q
  rw[if_pos q]
  cases h
  rfl
 ·rename_i q
  rw[if_neg q]
  split at h
  ·rename_i q2
   rw[if_pos q2]
   cases h
   rfl
  ·split at h<;>cases h
theorem aAn:Ieee.double.read 9218868437227405311 = .number false (2^53-1) 971:=by decide +kernel
theorem aBe{r M:Nat}{E:Int}(h:Ieee.double.read r = .number false M E)(hM:M<2^53)(hE:E≤104):fcmp .gtr .f64 r 9218868437227405311=false:=by
 have:FloatKind.f64.format.order r 9218868437227405311≠some .gt:=by
  rw[ord64 h aAn,pS (b:=E) (Int.le_refl _) (by omega)]
  intro hc
  rw[Option.some.injEq,Int.compare_eq_gt] at hc
  have h0:(E-E).toNat=0:=by omega
  rw[h0] at hc
  simp only[sg,Bool.false_eq_true,if_false,Int.pow_zero,Int.mul_one] at hc
  have h2:(1:Int)≤2^(971-E).toNat:=by have:=Int.pow_pos (m:=(971-E).toNat) (show (0:Int)<2 by decide);omega
  have h3:=Int.mul_le_mul_of_nonneg_left h2 (show (0:Int)≤((2^53-1:Nat):Int) by decide)
  rw[Int.mul_one] at h3
  have h4:((2^53-1:Nat):Int)=9007199254740991:=by decide
  rw[h4] at h3 hc
  omega
 unfold fcmp
 simp only
 rw[beq_eq_false_iff_ne]
 exact this
theorem aAv(s:Bool)(r:Nat)(hr:r<2^63):(yU .andNot .u64 ((Ieee.double.word s r:Nat):Int) 9223372036854775808).toNat=r:=by
 have hw:Ieee.double.word s r<2^64∧Ieee.double.word s r%2^63=r:=by
  unfold Ieee.Format.word
  have e:Ieee.double.signWeight=2^63:=by decide +kernel
  rw[e]
  cases s
  ·simp only[Bool.false_eq_true,if_false]
   omega
  ·simp only[if_true]
   omega
 generalize Ieee.double.word s r=v at hw ⊢
 unfold yU
 have hb:IntKind.u64.bits=64:=rfl
 have hwrap:∀ n:Int,IntKind.u64.wrap n=n%2^64:=fun n=>rfl
 simp only[hwrap]
 show (((BitVec.ofInt 64 (v:Int) &&& ~~~ BitVec.ofInt 64 9223372036854775808).toNat:Int)%2^64).toNat=r
 have h1:(BitVec.ofInt 64 (v:Int) &&& ~~~ BitVec.ofInt 64 9223372036854775808).toNat=v%2^63:=by
  have h2:(~~~ BitVec.ofInt 64 9223372036854775808).toNat=2^63-1:=by decide
  have h3:(BitVec.ofInt 64 (v:Int)).toNat=v:=by
   rw[BitVec.toNat_ofInt]
   omega
  rw[BitVec.toNat_and,h2,h3,Nat.and_two_pow_sub_one_eq_mod]
 rw[h1,hw.2]
 omega
theorem Wr{s:Bool}{m:Nat}{e:Int}{v M:Nat}{E:Int}(hd:Dbl s m e v M E):nR v 0=some false:=by
 obtain⟨r,hr,hri⟩:=Wm s m e
 rw[← hd.nr] at hr
 have hs:r<Ieee.double.signWeight:=by
  have:=dbl.2.2.2
  have h0:Ieee.double.infRung<Ieee.double.signWeight:=by decide +kernel
  omega
 have hs63:r<2^63:=by
  have e:Ieee.double.signWeight=2^63:=by decide +kernel
  rw[e] at hs
  exact hs
 have hn:=tC (k:=.f64) hd.rd
 have hrd:=hd.rd
 unfold nR zV fbits
 rw[hn]
 simp only[decide_true,if_true,Bool.false_eq_true,if_false,Option.bind_some]
 rw[hr,aAv s r hs63]
 rw[hr] at hrd
 rw[aBe (Xp hs hrd) hd.lt hd.hi]
theorem Hi{b:Nat}{s:Bool}{m:Nat}{e x:Int}(hr:Ieee.single.read b = .number s m e)(h:MOk m e)(hx:NV s m e x):dE b=some true:=by
 obtain⟨M,E,hd⟩:=Fl (s:=s) h
 unfold dE mD
 rw[zS hr h]
 simp only[Option.bind_some]
 rw[Jy h hd hx]
 simp only[Option.bind_some]
 rw[(Ar hd.rd).1,Wr hd]
 simp
theorem Wa{b:Nat}{s:Bool}{m:Nat}{e:Int}(hr:Ieee.single.read b = .number s m e)(h:MOk m e)(hx:∀ x,¬ NV s m e x):dE b=some false:=by
 obtain⟨M,E,hd⟩:=Fl (s:=s) h
 obtain⟨w,h1,h2⟩:=Zm h hd hx
 unfold dE mD
 rw[zS hr h]
 simp only[Option.bind_some]
 rw[h1]
 simp only[Option.bind_some]
 rw[h2]
 simp
theorem Yl{b:Nat}{s:Bool}{t:Nat}(hr:Ieee.single.read b = .nan s t):dE b=some false∧f2f .f32 b .f64=some (qn .f64):=by
 have hn:gX .f32 b=true:=Cs (k:=.f32) hr
 have hf:f2f .f32 b .f64=some (qn .f64):=by
  unfold f2f
  rw[if_neg (by decide),hn,if_pos rfl]
 refine⟨?_,hf⟩
 unfold dE mD
 rw[hf]
 simp only[Option.bind_some]
 have e:trI .zero (qn .f64)=some (qn .f64):=by decide +kernel
 rw[e]
 simp only[Option.bind_some]
 have e2:fcmp .eql .f64 (qn .f64) (qn .f64)=false:=by decide +kernel
 rw[e2]
 simp
theorem aAp{b:Nat}{s:Bool}(hr:Ieee.single.read b = .infinity s):dE b=some false∧f2f .f32 b .f64=some (FloatKind.f64.encode (.infinity s)):=by
 have hn:gX .f32 b=false:=by
  cases hq:gX .f32 b with
  | false=>rfl
  | true =>
   obtain⟨s',t,e'⟩:=lT hq
   have e':Ieee.single.read b = .nan s' t:=e'
   rw[hr] at e'
   cases e'
 have hf:f2f .f32 b .f64=some (FloatKind.f64.encode (.infinity s)):=by
  unfold f2f
  rw[if_neg (by decide),hn,if_neg (by decide)]
  have:FloatKind.f32.decode b = .infinity s:=hr
  rw[this]
 refine⟨?_,hf⟩
 unfold dE
 rw[hf]
 simp only[Option.bind_some]
 cases s<;>decide +kernel
theorem Wb{s:Bool}{m:Nat}{e:Int}{v M:Nat}{E x:Int}(h:MOk m e)(hd:Dbl s m e v M E)(hx:NV s m e x):Ieee.Toward.cut .zero s (M <<< E.toNat) (-E).toNat=x.natAbs∧Ieee.double.nearest s x.natAbs 0=v:=by
 have key:=Jy h hd hx
 rw[No hd.rd] at key
 have key:=Option.some.inj key
 suffices hq:Ieee.Toward.cut .zero s (M <<< E.toNat) (-E).toNat=x.natAbs by
  rw[hq] at key
  exact⟨hq,key⟩
 clear key
 rcases hd.sh with⟨h0,h1,h2⟩|⟨t,hm,h1,h2⟩
 ·subst h0 h1 h2
  have e0:sg s 0=0:=by cases s<;>rfl
  have hx0:x=0:=by
   rcases hx with⟨_,hx⟩|⟨_,hx⟩
   ·rw[e0,Int.zero_mul] at hx;exact hx.symm
   ·rw[e0] at hx
    rcases Int.mul_eq_zero.1 hx.symm with h|h
    ·exact h
    ·exact absurd h (Int.ne_of_gt (Int.pow_pos (by decide)))
  rw[hx0,show (0:Nat) <<< (-1074:Int).toNat=0 by rw[shl];simp,yK]
  rfl
 ·subst h1 h2
  rcases hx with⟨he,hx⟩|⟨he,hx⟩
  ·rw[shl,Nat.mul_assoc,← Nat.pow_add,mK hm s (by omega)]
   have h3:=congrArg Int.natAbs hx
   rw[Int.natAbs_mul,yM,Int.natAbs_pow] at h3
   rw[← h3]
   show _=m*2^e.toNat
   congr 2
   omega
  ·have hX : m = x.natAbs * 2 ^ (-e).toNat := by
     have:=congrArg Int.natAbs hx
     rw[yM,Int.natAbs_mul,Int.natAbs_pow] at this
     exact this
   have hX0:x.natAbs≠0:=by
    intro h
    rw[h,Nat.zero_mul] at hX
    exact hm hX
   rw[show (e-(t:Int)).toNat=0 by omega,shl,Nat.pow_zero,Nat.mul_one,hX,Nat.mul_assoc,← Nat.pow_add,mK hX0 s (by omega)]
   rw[show (-e).toNat+t-(-(e-(t:Int))).toNat=0 by omega]
   simp
theorem Wu{s t:Bool}{m n:Nat}{i j y:Int}(g:NV t n j y)(h:Ieee.Datum.order (.number t n j) (.number s m i)=some .eq):NV s m i y:=by
 have hb:min (min i j) 0≤i∧min (min i j) 0≤j∧min (min i j) 0≤0:=by omega
 rw[pS hb.2.1 hb.1,g.at hb.2.1 hb.2.2,Option.some.injEq,Int.compare_eq_eq] at h
 exact NV.of hb.1 hb.2.2 h.symm
theorem Uj:Ieee.double.read 14069741636278059008 = .number true 5000000000000000 1:=by decide +kernel
theorem Uq:Ieee.double.read 4846369599423283200 = .number false 5000000000000000 1:=by decide +kernel
theorem Kl{v:Nat}{s:Bool}{M:Nat}{E:Int}(h:Ieee.double.read v = .number s M E):farith .sub .f64 v v=some 0:=by
 refine aBz ?_
 show (((Ieee.double.read v).sum (Ieee.double.read v).opposite).map Ieee.double.write)=some 0
 rw[h]
 simp only[Ieee.Datum.opposite,Ieee.Datum.sum]
 have e:min E E=E:=by omega
 rw[e]
 have h0:(E-E).toNat=0:=by omega
 rw[h0]
 simp only[wY,Int.pow_zero,Int.mul_one]
 have hz:sg s M+sg (!s) M=0:=by cases s<;>simp[sg]<;>omega
 rw[hz]
 simp only[if_true,Option.map_some]
 have hs:(s&&!s)=false:=by cases s<;>rfl
 rw[hs]
 show some (Ieee.double.nearest false 0 E)=some 0
 rw[Cl]
 rfl
theorem cmpI{x y:Int}:((some (compare x y)==some Ordering.gt||some (compare x y)==some Ordering.eq)=decide (y≤x))∧((some (compare x y)==some Ordering.lt||some (compare x y)==some Ordering.eq)=decide (x≤y))∧((some (compare x y)==some Ordering.lt)=decide (x<y))∧((some (compare x y)==some Ordering.gt)=decide (y<x))∧((some (compare x y)==some Ordering.eq)=decide (x=y)):=by
 simp only[compare,compareOfLessAndEq]
 rcases Int.lt_trichotomy x y with h|h|h
 ·rw[if_pos h]
  refine⟨?_,?_,?_,?_,?_⟩<;>simp<;>omega
 ·subst h
  rw[if_neg (Int.lt_irrefl _),if_pos rfl]
  refine⟨?_,?_,?_,?_,?_⟩<;>simp
 ·rw[if_neg (by omega),if_neg (by omega)]
  refine⟨?_,?_,?_,?_,?_⟩<;>simp<;>omega
theorem Ur{v:Nat}{s:Bool}{M:Nat}{E:Int}{q:Nat}(h:Ieee.double.read v = .number s M E)(hq:Ieee.Toward.cut .zero s (M <<< E.toNat) (-E).toNat=q)(hb:q<2^63):f2i .f64 v .i64=some (sg s q):=by
 unfold f2i
 have e:FloatKind.f64.decode v = .number s M E:=h
 rw[e]
 have e2:(Ieee.Datum.number s M E).toInt .zero=some (sg s q):=by
  unfold Ieee.Datum.toInt Ieee.Datum.integral
  simp only[hq,wY,Int.pow_zero,Int.mul_one]
 rw[e2]
 simp only
 have hm:IntKind.i64.min = -9223372036854775808∧IntKind.i64.max=9223372036854775807:=by decide
 rw[hm.1,hm.2,if_pos]
 cases s<;>simp only[sg,if_true,if_false,Bool.false_eq_true]<;>omega
theorem Wh{s:Bool}{m:Nat}{e:Int}{v M:Nat}{E x:Int}(h:MOk m e)(hd:Dbl s m e v M E)(hx:NV s m e x):eP v=some true:=by
 have hX:=(hd.nv x).2 hx
 have g1:fcmp .geq .f64 v 14069741636278059008=decide (-10000000000000000≤x):=by
  unfold fcmp
  simp only
  rw[ord64 hd.rd Uj,pT hX (y:=-10000000000000000) (.inl ⟨by decide,by decide⟩)]
  exact cmpI.1
 have g2:fcmp .leq .f64 v 4846369599423283200=decide (x≤10000000000000000):=by
  unfold fcmp
  simp only
  rw[ord64 hd.rd Uq,pT hX (y:=10000000000000000) (.inl ⟨by decide,by decide⟩)]
  exact cmpI.2.1
 unfold eP
 rw[(Ar hd.rd).2,Kl hd.rd]
 simp only[Bool.false_eq_true,if_false,Option.bind_some]
 have g0:fcmp .neq .f64 0 0=false:=by decide +kernel
 rw[g0,g1,g2]
 simp only[Bool.false_eq_true,if_false]
 by_cases c1:-10000000000000000≤x
 ·by_cases c2:x≤10000000000000000
  ·rw[if_pos (decide_eq_true c1),if_pos (decide_eq_true c2)]
   obtain⟨hq,hn⟩:=Wb h hd hx
   rw[Ur hd.rd hq (by omega),Cm hx]
   simp only[Option.bind_some]
   congr 1
   have hne:FloatKind.f64.nearest x=Ieee.double.nearest (decide (x<0)) x.natAbs 0:=rfl
   by_cases x0:x=0
   ·subst x0
    have e1:FloatKind.f64.nearest 0=Ieee.double.word false 0:=by rw[hne];exact Cl _ _
    have r1:Ieee.double.read (FloatKind.f64.nearest 0) = .number false 0 (-1074):=by rw[e1];exact Rm false
    unfold fcmp
    simp only
    rw[ord64 r1 hd.rd,pT (x:=0) (.inr ⟨by decide,by rw[show sg false 0=0 from rfl,Int.zero_mul]⟩) hX]
    rfl
   ·have hs : decide (x < 0) = s := by
      have h1:=Cm hx
      cases s
      ·simp only[sg,Bool.false_eq_true,if_false] at h1
       exact decide_eq_false (by omega)
      ·simp only[sg,if_true] at h1
       exact decide_eq_true (by omega)
    rw[hne,hs,hn]
    exact (Ar hd.rd).1
  ·rw[if_pos (decide_eq_true c1),if_neg (by simp;omega)]
 ·rw[if_neg (by simp;omega)]
theorem Xi{s:Bool}{m:Nat}{e:Int}{v M:Nat}{E:Int}(h:MOk m e)(hd:Dbl s m e v M E)(hx:∀ x,¬ NV s m e x):eP v=some false:=by
 have hE:E<0:=by
  rcases hd.sh with⟨h0,h1,h2⟩|⟨t,hm,h1,h2⟩
  ·omega
  ·by_cases he:0≤e
   ·exact absurd (.inl ⟨he,rfl⟩) (hx _)
   ·omega
 have hlt:=hd.lt
 have hp4:(4:Int)≤2^(1-E).toNat:=by
  rw[show (1-E).toNat=2+(-E-1).toNat by omega,mN]
  have:(1:Int)≤2^(-E-1).toNat:=by have:=Int.pow_pos (m:=(-E-1).toNat) (show (0:Int)<2 by decide);omega
  omega
 have hbig:=Int.mul_le_mul_of_nonneg_left hp4 (show (0:Int)≤5000000000000000 by decide)
 have h0:(E-E).toNat=0:=by omega
 have hsg:-(M:Int)≤sg s M∧sg s M≤M:=by cases s<;>simp[sg]<;>omega
 have g1:fcmp .geq .f64 v 14069741636278059008=true:=by
  unfold fcmp
  simp only
  rw[ord64 hd.rd Uj,pS (b:=E) (Int.le_refl _) (by omega),cmpI.1,h0]
  refine decide_eq_true ?_
  have e1:sg true 5000000000000000 = -5000000000000000:=by decide
  rw[e1,Int.pow_zero,Int.mul_one,Int.neg_mul]
  omega
 have g2:fcmp .leq .f64 v 4846369599423283200=true:=by
  unfold fcmp
  simp only
  rw[ord64 hd.rd Uq,pS (b:=E) (Int.le_refl _) (by omega),cmpI.2.1,h0]
  refine decide_eq_true ?_
  have e1:sg false 5000000000000000=5000000000000000:=by decide
  rw[e1,Int.pow_zero,Int.mul_one]
  omega
 unfold eP
 rw[(Ar hd.rd).2,Kl hd.rd]
 simp only[Bool.false_eq_true,if_false,Option.bind_some]
 have g0:fcmp .neq .f64 0 0=false:=by decide +kernel
 rw[g0,g1,g2]
 simp only[Bool.false_eq_true,if_false,if_true]
 have hq:Ieee.Toward.cut .zero s (M <<< E.toNat) (-E).toNat<2^53:=by
  rw[show E.toNat=0 by omega,shl,Nat.pow_zero,Nat.mul_one]
  unfold Ieee.Toward.cut
  simp only[Bool.toNat_false,Nat.add_zero]
  exact Nat.lt_of_le_of_lt (Nat.div_le_self _ _) hlt
 generalize hqq:Ieee.Toward.cut .zero s (M <<< E.toNat) (-E).toNat=q at hq
 rw[Ur hd.rd hqq (by omega)]
 simp only[Option.bind_some]
 congr 1
 have hne:FloatKind.f64.nearest (sg s q)=Ieee.double.nearest (decide (sg s q<0)) (sg s q).natAbs 0:=rfl
 rw[yM] at hne
 obtain⟨n,j,r1,r2⟩:=Fx hq (decide (sg s q<0))
 rw[← hne] at r1
 unfold fcmp
 simp only
 rw[beq_eq_false_iff_ne,ord64 r1 hd.rd]
 intro he
 exact hx _ ((hd.nv _).1 (Wu r2 he))
end Go.Rex
namespace Go.Rex
theorem w64{x:Int}(h:-9223372036854775808≤x∧x≤9223372036854775807):IntKind.i64.wrap x=x:=IntWalk.i64_in x (by omega)
theorem cA{σ ε:Type}{step:σ→Option (σ ⊕ ε)}(f:Nat→σ){n:Nat}{e:ε}(h:∀ k,k<n→step (f k)=some (.inl (f (k+1))))(hn:step (f n)=some (.inr e)):run step (f 0)=some e:=by
 suffices H:∀ j k,n-k=j→k≤n→run step (f k)=some e from H n 0 (by omega) (Nat.zero_le _)
 intro j
 induction j with
 | zero => intro k hj hk; obtain rfl : k = n := by omega
           exact iH hn
 | succ j ih=>intro k hj hk;rw[kR (h k (by omega))];exact ih (k+1) (by omega) (by omega)
theorem aL{α:Type}{xs:List α}{k:Nat}:aH xs (k:Int)=xs[k]?:=by
 unfold aH
 rw[if_pos (by omega),Int.toNat_natCast]
theorem tH{α:Type}{xs:List α}{i:Int}{k:Nat}(h:i=(k:Int)):aH xs i=xs[k]?:=by subst h;exact aL
theorem rW{α:Type}{b:Nat}{xs:List α}{y:α}(h:xs.length<2^40)(hb:b≤128):iT b xs [y]=some (xs++[y]):=by
 unfold iT
 rw[if_pos]
 refine⟨by simp;omega,?_⟩
 have h1:(xs.length+[y].length)*b≤2^40*128:=Nat.mul_le_mul (by simp;omega) hb
 omega
def walk{α β ε:Type}(f:β→α→β ⊕ ε)(fin:β→ε):β→List α→ε
 | b,[]=>fin b
 | b,x::t=>match f b x with
  | .inl b'=>walk f fin b' t
  | .inr e=>e
theorem Pq{α β σ ε:Type}{step:σ→Option (σ ⊕ ε)}(st:Nat→β→σ)(f:β→α→β ⊕ ε)(fin:β→ε)(Inv:Nat→β→Prop)(l:List α)
 (hs:∀(k:Nat) (x:α) (b:β),l[k]?=some x→Inv k b→step (st k b)=some (match f b x with|.inl b'=>.inl (st (k+1) b')|.inr e=>.inr e)∧∀ b',f b x = .inl b'→Inv (k+1) b')
 (he:∀ b,Inv l.length b→step (st l.length b)=some (.inr (fin b))) {b0:β} (h0:Inv 0 b0):run step (st 0 b0)=some (walk f fin b0 l):=by
 suffices H:∀(t:List α) (k:Nat) (b:β),l.drop k=t→k≤l.length→Inv k b→run step (st k b)=some (walk f fin b t) from H l 0 b0 rfl (Nat.zero_le _) h0
 intro t
 induction t with
 | nil =>
  intro k b hk hkl hI
  have:k=l.length:=by
   have:=congrArg List.length hk
   simp at this
   omega
  subst this
  exact iH (he b hI)
 | cons x t ih =>
  intro k b hk hkl hI
  have hx:l[k]?=some x:=by
   have:=congrArg (fun l=>l[0]?) hk
   simpa using this
  have hlt:=(List.getElem?_eq_some_iff.1 hx).1
  obtain⟨h1,h2⟩:=hs k x b hx hI
  have ht:l.drop (k+1)=t:=by
   have:=congrArg List.tail hk
   simpa using this
  cases hf:f b x with
  | inl b' =>
   rw[hf] at h1
   rw[kR h1,ih (k+1) b' ht (by omega) (h2 b' hf)]
   simp only[walk,hf]
  | inr e =>
   rw[hf] at h1
   rw[iH h1]
   simp only[walk,hf]
end Go.Rex
open Go Go.Rex
namespace Go.Rex
set_option maxRecDepth 100000
theorem wsucc{k:Nat}{n:Nat}(h:k≤n)(hn:n≤2^62):IntKind.i64.wrap ((k:Int)+1)=((k+1:Nat):Int):=by rw[w64 (by omega)];omega
def dU{ε:Type}(p:Nat→Option ε)(n:Nat):Option ε:=(List.range n).findSome? p
theorem firstOf_none{ε:Type}{p:Nat→Option ε}{n:Nat}:dU p n=none↔∀ k,k<n→p k=none:=by
 unfold dU
 rw[List.findSome?_eq_none_iff]
 constructor
 ·intro h k hk;exact h k (List.mem_range.2 hk)
 ·intro h k hk;exact h k (List.mem_range.1 hk)
theorem Ln{ε:Type}{p:Nat→Option ε}{n:Nat}:dU p (n+1)=match dU p n with|some e=>some e|none=>p n:=by
 unfold dU
 rw[List.range_succ,List.findSome?_append]
 cases h:List.findSome? p (List.range n) with
 | some e=>rfl
 | none=>simp
theorem Gm{ε δ:Type}{step:Int→Option (Int ⊕ (ε ⊕ δ))}{n:Nat}{p:Nat→Option ε}{r:δ}
 (h:∀ k:Nat,k<n→(∀ j,j<k→p j=none)→step (k:Int)=some (match p k with|none=>.inl ((k+1:Nat):Int)|some e=>.inr (.inl e))) (he:(∀ j,j<n→p j=none)→step (n:Int)=some (.inr (.inr r))):run step 0=some (match dU p n with|some e=>.inl e|none=>.inr r):=by
 suffices H:∀ m,m≤n→dU p m=none→run step 0=run step (m:Int) by
  cases hf:dU p n with
  | none =>
   simp only
   rw[H n (Nat.le_refl _) hf]
   exact iH (he (firstOf_none.1 hf))
  | some e =>
   simp only
   have:∃ m,m<n∧dU p m=none∧p m=some e:=by
    clear h he H
    induction n with
    | zero=>simp[dU] at hf
    | succ n ih =>
     rw[Ln] at hf
     cases hn:dU p n with
     | none=>rw[hn] at hf;exact⟨n,by omega,hn,hf⟩
     | some e'=>rw[hn] at hf;cases hf;obtain⟨m,h1,h2⟩:=ih hn;exact⟨m,by omega,h2⟩
   obtain⟨m,hm,h1,h2⟩:=this
   rw[H m (by omega) h1]
   have:=h m hm (firstOf_none.1 h1)
   rw[h2] at this
   exact iH this
 intro m
 induction m with
 | zero=>intro _ _;rfl
 | succ m ih =>
  intro hm hf
  have hf':=firstOf_none.1 hf
  rw[ih (by omega) (firstOf_none.2 fun k hk=>hf' k (by omega))]
  have:=h m (by omega) (fun j hj=>hf' j (by omega))
  rw[hf' m (by omega)] at this
  exact kR this
def iter{β:Type}(g:Nat→β→β):Nat→β→β
 | 0,b=>b
 | k+1,b=>g k (iter g k b)
theorem jT{β σ ε:Type}{step:σ→Option (σ ⊕ ε)}(st:Nat→β→σ)(g:Nat→β→β)(fin:β→ε)(n:Nat)(Inv:Nat→β→Prop){b0:β}(h0:Inv 0 b0)
 (hs:∀ k b,k<n→Inv k b→step (st k b)=some (.inl (st (k+1) (g k b)))∧Inv (k+1) (g k b)) (he:∀ b,Inv n b→step (st n b)=some (.inr (fin b))) :
 run step (st 0 b0)=some (fin (iter g n b0))∧∀ k,k≤n→Inv k (iter g k b0):=by
 have hI:∀ k,k≤n→Inv k (iter g k b0):=by
  intro k
  induction k with
  | zero=>intro _;exact h0
  | succ k ih=>intro hk;exact (hs k _ (by omega) (ih (by omega))).2
 refine⟨?_,hI⟩
 exact cA (fun k=>st k (iter g k b0)) (fun k hk=>(hs k _ hk (hI k (by omega))).1) (he _ (hI n (Nat.le_refl _)))
end Go.Rex
namespace Go.Rex
open Go Go.Rex
set_option maxRecDepth 100000
theorem aC8{s:Bool}{m:Nat}{e x:Int}(h:MOk m e)(hx:NV s m e x):Ieee.Toward.cut .zero s (m <<< e.toNat) (-e).toNat=x.natAbs:=by
 rcases h with⟨h0,h1⟩|⟨hm,-,-,-⟩
 ·subst h0 h1
  have e0:sg s 0=0:=by cases s<;>rfl
  have hx0:x=0:=by
   rcases hx with⟨_,hx⟩|⟨_,hx⟩
   ·rw[e0,Int.zero_mul] at hx;exact hx.symm
   ·rw[e0] at hx
    rcases Int.mul_eq_zero.1 hx.symm with h|h
    ·exact h
    ·exact absurd h (Int.ne_of_gt (Int.pow_pos (by decide)))
  rw[hx0,show (0:Nat) <<< (-149:Int).toNat=0 by rw[shl];simp,yK]
  rfl
 ·rcases hx with⟨he,hx⟩|⟨he,hx⟩
  ·rw[shl,show (-e).toNat=0 by omega,mK hm s (by omega)]
   have h3:=congrArg Int.natAbs hx
   rw[Int.natAbs_mul,yM,Int.natAbs_pow] at h3
   rw[← h3]
   rfl
  ·have hX : m = x.natAbs * 2 ^ (-e).toNat := by
     have:=congrArg Int.natAbs hx
     rw[yM,Int.natAbs_mul,Int.natAbs_pow] at this
     exact this
   have hX0:x.natAbs≠0:=by
    intro h
    rw[h,Nat.zero_mul] at hX
    exact hm hX
   rw[show e.toNat=0 by omega,shl,Nat.pow_zero,Nat.mul_one,hX,mK hX0 s (Nat.le_refl _)]
   simp
def SV(b:Nat)(x:Int):Prop:=∃ s m e,Ieee.single.read b = .number s m e∧MOk m e∧NV s m e x
structure RS(b:Nat)(o:Option Int):Prop where
 val:∃ v,f2f .f32 b .f64=some v∧eP v=some o.isSome∧∀ x,o=some x→fcmp .gtr .f64 v 4674736138332667904=decide (32767<x)∧fcmp .lss .f64 v 13898108175187443712=decide (x < -32767)
theorem Rz{b:Nat}{s:Bool}{m:Nat}{e:Int}(h:Ieee.single.read b = .number s m e):MOk m e:=by
 rcases Kj b with⟨s',t,h1⟩|⟨s',h1⟩|⟨s',m',e',h1,h2⟩
 ·rw[h] at h1;cases h1
 ·rw[h] at h1;cases h1
 ·rw[h] at h1
  injection h1 with a1 a2 a3
  subst a2 a3
  exact h2
theorem aAE{b:Nat}{s:Bool}{n u:Nat}(h:Ieee.single.read b = .number s (n*2^u) (-(u:Int))):SV b (sg s n):=by
 refine⟨s,_,_,h,Rz h,?_⟩
 by_cases hu:u=0
 ·subst hu
  left
  refine⟨by omega,?_⟩
  simp
 ·right
  refine⟨by omega,?_⟩
  rw[Su,Int.natCast_pow,show (-(-(u:Int))).toNat=u by omega]
  rfl
theorem aCX{s:Bool}{n:Nat}(h:ffit .f32 n):SV (fz .f32 s n) (sg s n):=aAE (aAX (k:=.f32) h)
theorem aAx{x:Int}(h:x.natAbs<2^24):SV (FloatKind.f32.nearest x) x:=by
 have h1:=aCX (s:=decide (x<0)) (n:=x.natAbs) h
 have e:sg (decide (x<0)) x.natAbs=x:=by
  unfold sg
  by_cases q:x<0
  ·simp only[q,decide_true,if_true];omega
  ·simp only[q,decide_false,Bool.false_eq_true,if_false];omega
 rw[e] at h1
 exact h1
theorem aA0{b:Nat}{x y:Int}(h:SV b x)(g:SV b y):x=y:=by
 obtain⟨s,m,e,h1,h2,h3⟩:=h
 obtain⟨s',m',e',g1,g2,g3⟩:=g
 rw[h1] at g1
 injection g1 with a1 a2 a3
 subst a1 a2 a3
 rcases h3 with⟨p,q⟩|⟨p,q⟩<;>rcases g3 with⟨p',q'⟩|⟨p',q'⟩
 ·omega
 ·omega
 ·omega
 ·have hp:(0:Int)<2^(-e).toNat:=Int.pow_pos (by decide)
  exact Int.eq_of_mul_eq_mul_right (Int.ne_of_gt hp) (q.symm.trans q')
theorem wP(b:Nat):iV b=dE b:=by
 unfold iV dE
 rfl
theorem aAY{b:Nat}{x:Int}(h:SV b x)(hb:-4611686018427387904≤x∧x≤4611686018427387904):f2i .f32 b .i64=some x:=by
 obtain⟨s,m,e,hr,h,hx⟩:=h
 unfold f2i
 have e1:FloatKind.f32.decode b = .number s m e:=hr
 rw[e1]
 have e2:(Ieee.Datum.number s m e).toInt .zero=some x:=by
  unfold Ieee.Datum.toInt Ieee.Datum.integral
  simp only[aC8 h hx,wY,Int.pow_zero,Int.mul_one,Cm hx]
 rw[e2]
 simp only
 have hm:IntKind.i64.min = -9223372036854775808∧IntKind.i64.max=9223372036854775807:=by decide
 rw[hm.1,hm.2,if_pos (by omega)]
theorem read_b:Ieee.single.read 1266679808 = .number false 8388608 1∧Ieee.single.read 3414163456 = .number true 8388608 1∧Op.negFloat .f32 1266679808=3414163456∧Ieee.double.read 4715268809856909312 = .number false 4503599627370496 (-28)∧Ieee.double.read 13938640846711685120 = .number true 4503599627370496 (-28):=by decide +kernel
theorem nv_b:NV false 8388608 1 16777216∧NV true 8388608 1 (-16777216)∧NV false 4503599627370496 (-28) 16777216∧NV true 4503599627370496 (-28) (-16777216):=
 ⟨.inl ⟨by decide,by decide⟩,.inl ⟨by decide,by decide⟩,.inr ⟨by decide,by decide⟩,.inr ⟨by decide,by decide⟩⟩
theorem Pv{b:Nat}{x:Int}(h:SV b x):aZ b 1266679808=some (decide (-16777216≤x∧x≤16777216)):=by
 obtain⟨s,m,e,h1,h2,h3⟩:=h
 unfold aZ
 rw[read_b.2.2.1]
 have g1:fcmp .leq .f32 3414163456 b=decide (-16777216≤x):=by
  unfold fcmp
  simp only
  rw[ord32 read_b.2.1 h1,pT nv_b.2.1 h3]
  exact cmpI.2.1
 have g2:fcmp .leq .f32 b 1266679808=decide (x≤16777216):=by
  unfold fcmp
  simp only
  rw[ord32 h1 read_b.1,pT h3 nv_b.1]
  exact cmpI.2.1
 rw[g1,g2]
 by_cases c:-16777216≤x
 ·rw[if_pos (decide_eq_true c)]
  congr 1
  rw[decide_eq_decide]
  omega
 ·rw[if_neg (by simpa using c)]
  congr 1
  symm
  rw[decide_eq_false_iff_not]
  omega
theorem Kk(b c:Nat):∃ r,aZ b c=some r:=by
 unfold aZ
 split<;>exact⟨_,rfl⟩
structure RW(b:Nat)(o:Option Int):Prop where
 ws:iV b=some o.isSome
 val:∃ v,f2f .f32 b .f64=some v∧eP v=some o.isSome∧∀ x,o=some x→fcmp .gtr .f64 v 4715268809856909312=decide (16777216<x)∧fcmp .lss .f64 v 13938640846711685120=decide (x < -16777216)
theorem Rl(b:Nat):RW b none∨∃ x,SV b x∧RW b (some x):=by
 rcases Kj b with⟨s,t,h⟩|⟨s,h⟩|⟨s,m,e,h,hm⟩
 ·obtain⟨h1,h2⟩:=Yl h
  exact .inl ⟨(wP b).trans h1,⟨_,h2,by decide +kernel,fun x hx=>by cases hx⟩⟩
 ·obtain⟨h1,h2⟩:=aAp h
  exact .inl ⟨(wP b).trans h1,⟨_,h2,by cases s<;>decide +kernel,fun x hx=>by cases hx⟩⟩
 ·obtain⟨M,E,hd⟩:=Fl (s:=s) hm
  by_cases hx:∃ x,NV s m e x
  ·obtain⟨x,hx⟩:=hx
   refine .inr ⟨x,⟨s,m,e,h,hm,hx⟩,(wP b).trans (Hi h hm hx),⟨_,zS h hm,Wh hm hd hx,fun y hy=>?_⟩⟩
   cases hy
   have hX:=(hd.nv x).2 hx
   constructor
   ·unfold fcmp
    simp only
    rw[ord64 hd.rd read_b.2.2.2.1,pT hX nv_b.2.2.1]
    exact cmpI.2.2.2.1
   ·unfold fcmp
    simp only
    rw[ord64 hd.rd read_b.2.2.2.2,pT hX nv_b.2.2.2]
    exact cmpI.2.2.1
  ·have hx:∀ x,¬ NV s m e x:=fun x h=>hx ⟨x,h⟩
   exact .inl ⟨(wP b).trans (Wa h hm hx),⟨_,zS h hm,Xi hm hd hx,fun x hx=>by cases hx⟩⟩
open Classical in
noncomputable def wv(b:Nat):Option Int:=if h:∃ x,SV b x then some (Classical.choose h) else none
theorem aCG{b:Nat}{x:Int}(h:SV b x):wv b=some x:=by
 have hx:∃ x,SV b x:=⟨x,h⟩
 unfold wv
 rw[dif_pos hx,aA0 (Classical.choose_spec hx) h]
theorem Px{b:Nat}{x:Int}(h:wv b=some x):SV b x:=by
 unfold wv at h
 split at h
 ·rename_i hx
  obtain rfl:=Option.some.inj h
  exact Classical.choose_spec hx
 ·cases h
theorem Tn{b:Nat}:RW b (wv b):=by
 rcases Rl b with h|⟨x,h1,h2⟩
 ·have : wv b = none := by
    cases hw:wv b with
    | none=>rfl
    | some x =>
     have sv:=Px hw
     obtain⟨s,m,e,g1,g2,g3⟩:=sv
     have:=(wP b).trans (Hi g1 g2 g3)
     rw[h.ws] at this
     exact absurd (Option.some.inj this) (by decide)
  rw[this];exact h
 ·rw[aCG h1];exact h2
def sm24(x:Int):Bool:=decide (-16777216≤x∧x≤16777216)
noncomputable def cE(p:Nat×Nat):Int:=match wv p.1,wv p.2 with
 | some x,some y=>if sm24 x=true∧sm24 y=true then 0 else 2
 | _,_=>27
theorem fe9(a:Bool)(x:Int)(b:Bool)(y:Int)(hx:x≠0):aW a x b y=some (if a=true then x else if b=true then y else 0):=by
 unfold aW aA
 cases a
 ·cases b
  ·rfl
  ·by_cases hy:y=0<;>simp[hy]
 ·simp[hx]
theorem Rr(a b:Nat):lQ a b=some (cE (a,b)):=by
 have ra:=Tn (b:=a)
 have rb:=Tn (b:=b)
 obtain⟨sa,hsa⟩:=Kk a 1266679808
 obtain⟨sb,hsb⟩:=Kk b 1266679808
 unfold lQ cE aD
 rw[ra.ws,rb.ws,hsa,hsb]
 simp only[Option.bind_some]
 cases ha:wv a with
 | none =>
  simp only[Option.isSome_none,Bool.false_eq_true,if_false]
  cases sa<;>simp only[Bool.false_eq_true,if_false,if_true]<;>rw[fe9 _ _ _ _ (by decide)]<;>rfl
 | some x =>
  have h1:=Pv (Px ha)
  rw[hsa] at h1
  have h1:=Option.some.inj h1
  cases hb:wv b with
  | none =>
   simp only[Option.isSome_none,Option.isSome_some,Bool.false_eq_true,if_false,if_true,Bool.not_false]
   cases sa<;>simp only[Bool.false_eq_true,if_false,if_true]<;>rw[fe9 _ _ _ _ (by decide)]<;>rfl
  | some y =>
   have h2:=Pv (Px hb)
   rw[hsb] at h2
   have h2:=Option.some.inj h2
   simp only[Option.isSome_some,if_true,Bool.not_true]
   rw[h1,h2]
   unfold sm24
   by_cases c1:-16777216≤x∧x≤16777216<;>by_cases c2:-16777216≤y∧y≤16777216
   ·rw[decide_eq_true c1,decide_eq_true c2,if_pos rfl,fe9 _ _ _ _ (by decide)];rfl
   ·rw[decide_eq_true c1,decide_eq_false c2,if_pos rfl,fe9 _ _ _ _ (by decide)];rfl
   ·rw[decide_eq_false c1,decide_eq_true c2,if_neg (by decide),fe9 _ _ _ _ (by decide)];rfl
   ·rw[decide_eq_false c1,decide_eq_false c2,if_neg (by decide),fe9 _ _ _ _ (by decide)];rfl
noncomputable def wN(l:List (Nat×Nat))(k:Nat):Option Int:=match l[k]? with
 | some p=>if cE p=0 then none else some (cE p)
 | none=>none
noncomputable def lE(l:List (Nat×Nat)):Int:=if l.length=0 then 10 else if 1024<l.length then 8 else (dU (wN l) l.length).getD 0
theorem Yv(l:List (Nat×Nat))(hl:l.length≤1024):run (bP (l.length:Int) l) 0=some (match dU (wN l) l.length with|some e=>.inl e|none=>.inr ()):=by
 have H:∀ k:Nat,k<l.length→bP (l.length:Int) l (k:Int)=some (match wN l k with|none=>.inl ((k+1:Nat):Int)|some e=>.inr (.inl e)):=by
  intro k hk
  have hg:l[k]?=some l[k]:=List.getElem?_eq_getElem hk
  unfold bP fM wN
  rw[if_pos (by rw[decide_eq_true_eq];omega),aL,hg]
  simp only[Option.bind_some]
  rw[Rr]
  simp only[Option.bind_some]
  by_cases h:cE (l[k].1,l[k].2)=0
  ·have h':cE l[k]=0:=h
   rw[if_neg (by simpa using h),if_pos h',wsucc (n:=1024) (by omega) (by decide)]
  ·have h':cE l[k]≠0:=h
   rw[if_pos (by simpa using h),if_neg h']
 have h:=Gm (step:=bP (l.length:Int) l) (p:=wN l) (n:=l.length) (r:=()) (fun k hk hb=>by
  have h1:=H k hk
  cases hs:wN l k<;>rw[hs] at h1<;>exact h1) (fun _=>by
  unfold bP
  rw[if_neg (by rw[decide_eq_true_eq];omega)])
 rw[h]
 cases dU (wN l) l.length<;>rfl
theorem Ho{l:List (Nat×Nat)}{n:Nat}{e:Int}(h:dU (wN l) n=some e):e≠0:=by
 unfold dU at h
 obtain⟨k,_,hk⟩:=List.exists_of_findSome?_eq_some h
 unfold wN at hk
 split at hk
 ·split at hk
  ·cases hk
  ·rename_i hz
   have:=Option.some.inj hk
   rw[← this];exact hz
 ·cases hk
theorem Bo(l:List (Nat×Nat)):aQ l=some (lE l):=by
 unfold aQ aD mB gW aA lE
 simp only[Option.bind_some]
 by_cases h0:l.length=0
 ·rw[if_pos h0]
  have e:decide ((l.length:Int)=0)=true:=by rw[decide_eq_true_eq];omega
  rw[e];rfl
 ·rw[if_neg h0]
  have e:decide ((l.length:Int)=0)=false:=by rw[decide_eq_false_iff_not];omega
  rw[e]
  by_cases h1:1024<l.length
  ·rw[if_pos h1]
   have e:decide ((l.length:Int)>1024)=true:=by rw[decide_eq_true_eq];omega
   rw[e];rfl
  ·rw[if_neg h1]
   have e:decide ((l.length:Int)>1024)=false:=by rw[decide_eq_false_iff_not];omega
   rw[e]
   simp only[Bool.false_eq_true,if_false,Option.bind_some,ne_eq,not_true_eq_false,decide_false]
   unfold jQ
   rw[Yv l (by omega)]
   cases hf:dU (wN l) l.length with
   | none=>rfl
   | some e =>
    have:=Ho hf
    simp[this]
theorem Gw(l:List (Nat×Nat)):dF l=some (lE l):=by
 unfold dF lE
 by_cases h0:l.length=0
 ·rw[if_pos h0,if_pos (by rw[decide_eq_true_eq];omega)]
 rw[if_neg h0,if_neg (by rw[decide_eq_true_eq];omega)]
 by_cases h1:1024<l.length
 ·rw[if_pos h1,if_pos (by rw[decide_eq_true_eq];omega)]
 rw[if_neg h1,if_neg (by rw[decide_eq_true_eq];omega)]
 have H:∀ k:Nat,k<l.length→eV l (k:Int)=some (match wN l k with|none=>.inl ((k+1:Nat):Int)|some e=>.inr (.inl e)):=by
  intro k hk
  have hg:l[k]?=some l[k]:=List.getElem?_eq_getElem hk
  have ra:=Tn (b:=l[k].1)
  have rb:=Tn (b:=l[k].2)
  obtain⟨va,a1,a2,a3⟩:=ra.val
  obtain⟨vb,b1,b2,b3⟩:=rb.val
  unfold eV wN
  rw[if_pos (by rw[decide_eq_true_eq];omega),aL,hg]
  simp only[Option.bind_some]
  rw[a1]
  simp only[Option.bind_some]
  rw[b1]
  simp only[Option.bind_some]
  rw[a2]
  simp only[Option.bind_some]
  unfold cE
  rw[wsucc (n:=1024) (by omega) (by decide)]
  cases ha:wv l[k].1 with
  | none=>simp
  | some x =>
   rw[ha] at a3
   simp only[Option.isSome_some,if_true]
   rw[b2]
   simp only[Option.bind_some]
   cases hb:wv l[k].2 with
   | none=>simp
   | some y =>
    rw[hb] at b3
    obtain⟨c1,c2⟩:=a3 x rfl
    obtain⟨d1,d2⟩:=b3 y rfl
    simp only[Option.isSome_some,if_true]
    rw[c1,c2,d1,d2]
    have hE:¬((-16777216≤x∧x≤16777216)∧(-16777216≤y∧y≤16777216))→(if sm24 x=true∧sm24 y=true then (0:Int) else 2)=2:=fun h=>if_neg (by unfold sm24;simp only[decide_eq_true_eq];exact h)
    have hE0:((-16777216≤x∧x≤16777216)∧(-16777216≤y∧y≤16777216))→(if sm24 x=true∧sm24 y=true then (0:Int) else 2)=0:=fun h=>if_pos (by unfold sm24;simp only[decide_eq_true_eq];exact h)
    by_cases p1:16777216<x
    ·rw[if_pos (decide_eq_true p1),hE (by omega)];rfl
    rw[if_neg (by simpa using p1)]
    by_cases p2:x < -16777216
    ·rw[if_pos (decide_eq_true p2),hE (by omega)];rfl
    rw[if_neg (by simpa using p2)]
    by_cases p3:16777216<y
    ·rw[if_pos (decide_eq_true p3),hE (by omega)];rfl
    rw[if_neg (by simpa using p3)]
    by_cases p4:y < -16777216
    ·rw[if_pos (decide_eq_true p4),hE (by omega)];rfl
    rw[if_neg (by simpa using p4),hE0 (by omega)];rfl
 have h:=Gm (step:=eV l) (p:=wN l) (n:=l.length) (r:=()) (fun k hk hb=>by
  have h1:=H k hk
  cases hs:wN l k<;>rw[hs] at h1<;>exact h1) (fun _=>by
  unfold eV
  rw[if_neg (by rw[decide_eq_true_eq];omega)])
 rw[h]
 cases dU (wN l) l.length<;>rfl
noncomputable def num(p:Nat×Nat):Int×Int:=((wv p.1).getD 0,(wv p.2).getD 0)
noncomputable def nums(l:List (Nat×Nat)):List (Int×Int):=l.map num
def small(z:Int×Int):Prop:=(-16777216≤z.1∧z.1≤16777216)∧(-16777216≤z.2∧z.2≤16777216)
instance (z:Int×Int):Decidable (small z):=by unfold small;exact inferInstance
def PV(p:Nat×Nat)(z:Int×Int):Prop:=SV p.1 z.1∧SV p.2 z.2
structure GoodL(l:List (Nat×Nat)):Prop where
 len:0<l.length∧l.length≤1024
 val:∀ p∈l,PV p (num p)∧small (num p)
theorem aBb{p:Nat×Nat}(h:cE p=0):PV p (num p)∧small (num p):=by
 unfold cE at h
 unfold num PV small
 cases ha:wv p.1 with
 | none=>rw[ha] at h;exact absurd h (by simp)
 | some x =>
  cases hb:wv p.2 with
  | none=>rw[ha,hb] at h;exact absurd h (by simp)
  | some y =>
   rw[ha,hb] at h
   simp only at h
   split at h
   ·rename_i hc
    unfold sm24 at hc
    simp only[decide_eq_true_eq] at hc
    exact⟨⟨Px ha,Px hb⟩,hc⟩
   ·exact absurd h (by decide)
theorem Uv{l:List (Nat×Nat)}(h:lE l=0):GoodL l:=by
 unfold lE at h
 by_cases h0:l.length=0
 ·rw[if_pos h0] at h;exact absurd h (by decide)
 rw[if_neg h0] at h
 by_cases h1:1024<l.length
 ·rw[if_pos h1] at h;exact absurd h (by decide)
 rw[if_neg h1] at h
 refine⟨⟨by omega,by omega⟩,fun p hp=>?_⟩
 cases hf:dU (wN l) l.length with
 | some e=>rw[hf] at h;exact absurd h (Ho hf)
 | none =>
  obtain⟨k,hk⟩:=List.mem_iff_getElem?.1 hp
  have hkl:=(List.getElem?_eq_some_iff.1 hk).1
  have:=firstOf_none.1 hf k hkl
  unfold wN at this
  rw[hk] at this
  simp only at this
  split at this
  ·rename_i hz;exact aBb hz
  ·cases this
theorem Fp(l:List (Nat×Nat)):(nums l).length=l.length:=by unfold nums;simp
theorem aBa{l:List (Nat×Nat)}{k:Nat}(hk:k<l.length):(nums l)[k]?=some (num l[k]):=by
 unfold nums
 rw[List.getElem?_map,List.getElem?_eq_getElem hk]
 rfl
theorem Ka{b:Nat}{x:Int}(h:SV b x)(hb:-16777216≤x∧x≤16777216):f2i .f32 b .i64=some x:=aAY h (by omega)
theorem Km{l:List (Nat×Nat)}(G:GoodL l):bC l=some (nums l):=by
 have hle:=G.len
 have key:=jT (step:=dB l) (st:=fun k (b:List (Int×Int))=>(b,(k:Int))) (g:=fun k b=>b++[num (l.getD k (0,0))]) (fin:=fun b=>b) l.length
  (fun k b=>b=(nums l).take k) (b0:=[]) (by simp) (fun k b hk hb=>by
   subst hb
   have hg:l[k]?=some l[k]:=List.getElem?_eq_getElem hk
   have hd:l.getD k (0,0)=l[k]:=by rw[List.getD_eq_getElem?_getD,hg];rfl
   have hv:=G.val l[k] (List.getElem_mem hk)
   rw[hd]
   refine⟨?_,by rw[List.take_add_one,aBa hk];rfl⟩
   unfold dB fJ
   simp only
   rw[if_pos (by rw[decide_eq_true_eq];omega),aL,hg]
   simp only[Option.bind_some]
   rw[Ka hv.1.1 hv.2.1,Ka hv.1.2 hv.2.2]
   simp only[Option.bind_some,iT]
   rw[if_pos (by simp;omega),wsucc (n:=1024) (by omega) (by decide)]
   rfl) (fun b hb=>by
   unfold dB
   simp only
   rw[if_neg (by rw[decide_eq_true_eq];omega)])
 have hI:=key.2 l.length (Nat.le_refl _)
 have hr:=key.1
 rw[hI,List.take_of_length_le (by rw[Fp];omega)] at hr
 unfold bC
 simp only[Int.natCast_zero] at hr
 rw[hr]
 rfl
theorem aAc{l:List (Nat×Nat)}(G:GoodL l):bZ l=some (nums l):=by
 have h:=Km G
 unfold bZ
 unfold bC at h
 have e:kN l=dB l:=by
  funext ⟨v3,v4⟩
  unfold kN dB fJ
  simp only
  by_cases c:decide (v4<(l.length:Int))=true
  ·rw[if_pos c,if_pos c]
   cases aH l v4 with
   | none=>rfl
   | some p =>
    simp only[Option.bind_some]
    cases f2i .f32 p.1 .i64 with
    | none=>rfl
    | some x =>
     simp only[Option.bind_some]
     cases f2i .f32 p.2 .i64<;>rfl
  ·rw[if_neg c,if_neg c]
 rw[e]
 exact h
noncomputable def tR(z:Int×Int):Nat×Nat:=(FloatKind.f32.nearest z.1,FloatKind.f32.nearest z.2)
theorem Jv{x:Int}(h:-16777216≤x∧x≤16777216):SV (FloatKind.f32.nearest x) x:=by
 by_cases h1:x=16777216
 ·subst h1
  have e:FloatKind.f32.nearest 16777216=1266679808:=by decide +kernel
  rw[e]
  exact⟨_,_,_,read_b.1,Rz read_b.1,nv_b.1⟩
 by_cases h2:x = -16777216
 ·subst h2
  have e:FloatKind.f32.nearest (-16777216)=3414163456:=by decide +kernel
  rw[e]
  exact⟨_,_,_,read_b.2.1,Rz read_b.2.1,nv_b.2.1⟩
 have h24:(16777216:Nat)=2^24:=by decide
 exact aAx (by rw[← h24];omega)
theorem aAy{z:Int×Int}(h:small z):PV (tR z) z:=⟨Jv h.1,Jv h.2⟩
theorem Fc(x:Int):fN x 16777216=some (decide (-16777216≤x∧x≤16777216)):=by
 unfold fN
 rw[w64 (x:=0-16777216) (by omega)]
 by_cases c:-16777216≤x
 ·rw[if_pos (by rw[decide_eq_true_eq];omega)]
  congr 1
  rw[decide_eq_decide]
  omega
 ·rw[if_neg (by rw[decide_eq_true_eq];omega)]
  congr 1
  symm
  rw[decide_eq_false_iff_not]
  omega
theorem Wi(z:Int×Int):(eX z.1 z.2 16777216).bind (fun (v6,v7)=>(aA v6 v7).bind fun v8=>some v8)=some (if small z then 0 else 8):=by
 unfold eX aD aA small
 rw[Fc,Fc]
 simp only[Option.bind_some]
 by_cases c1:-16777216≤z.1∧z.1≤16777216<;>by_cases c2:-16777216≤z.2∧z.2≤16777216<;>simp[c1,c2]
def nH(w:List (Int×Int))(k:Nat):Option Int:=match w[k]? with
 | some z=>if small z then none else some 8
 | none=>none
noncomputable def rec(w:List (Int×Int)):List (Nat×Nat)×Int:=if ∀ z∈w,small z then (w.map tR,0) else ([],8)
theorem big_none{w:List (Int×Int)}:dU (nH w) w.length=none↔∀ z∈w,small z:=by
 rw[firstOf_none]
 constructor
 ·intro h z hz
  obtain⟨k,hk⟩:=List.mem_iff_getElem?.1 hz
  have:=h k (List.getElem?_eq_some_iff.1 hk).1
  unfold nH at this
  rw[hk] at this
  simp only at this
  split at this
  ·assumption
  ·cases this
 ·intro h k hk
  unfold nH
  rw[List.getElem?_eq_getElem hk]
  simp only
  rw[if_pos (h _ (List.getElem_mem hk))]
theorem Zi{w:List (Int×Int)}{n:Nat}{e:Int}(h:dU (nH w) n=some e):e=8:=by
 unfold dU at h
 obtain⟨k,_,hk⟩:=List.exists_of_findSome?_eq_some h
 unfold nH at hk
 split at hk
 ·split at hk
  ·cases hk
  ·exact (Option.some.inj hk).symm
 ·cases hk
theorem Zu(w:List (Int×Int))(hw:w.length≤4096):run (eL w) (([]:List (Nat×Nat)),0)=some (w.map tR):=by
 have key:=jT (step:=eL w) (st:=fun k (b:List (Nat×Nat))=>(b,(k:Int))) (g:=fun k b=>b++[tR (w.getD k (0,0))]) (fin:=fun b=>b) w.length
  (fun k b=>b=(w.map tR).take k) (b0:=[]) (by simp) (fun k b hk hb=>by
   subst hb
   have hg:w[k]?=some w[k]:=List.getElem?_eq_getElem hk
   have hd:w.getD k (0,0)=w[k]:=by rw[List.getD_eq_getElem?_getD,hg];rfl
   rw[hd]
   refine⟨?_,by rw[List.take_add_one,List.getElem?_map,hg];rfl⟩
   unfold eL
   simp only
   rw[if_pos (by rw[decide_eq_true_eq];omega),aL,hg]
   simp only[Option.bind_some,iT]
   rw[if_pos (by simp;omega),wsucc (n:=4096) (by omega) (by decide)]
   rfl) (fun b hb=>by
   unfold eL
   simp only
   rw[if_neg (by rw[decide_eq_true_eq];omega)])
 have hI:=key.2 w.length (Nat.le_refl _)
 have hr:=key.1
 rw[hI,List.take_of_length_le (by simp)] at hr
 simp only[Int.natCast_zero] at hr
 exact hr
theorem Yz(w:List (Int×Int))(hw:w.length≤4096):bR w=some (rec w):=by
 have H:∀ k:Nat,k<w.length→cU (w.length:Int) w (k:Int)=some (match nH w k with|none=>.inl ((k+1:Nat):Int)|some e=>.inr (.inl e)):=by
  intro k hk
  have hg:w[k]?=some w[k]:=List.getElem?_eq_getElem hk
  unfold cU fZ nH
  rw[if_pos (by rw[decide_eq_true_eq];omega),aL,hg]
  simp only[Option.bind_some]
  have:=Wi w[k]
  rw[this]
  simp only[Option.bind_some]
  by_cases h:small w[k]
  ·rw[if_pos h,if_pos h,if_neg (by decide),wsucc (n:=4096) (by omega) (by decide)]
  ·rw[if_neg h,if_neg h,if_pos (by decide)]
 have h:=Gm (step:=cU (w.length:Int) w) (p:=nH w) (n:=w.length) (r:=()) (fun k hk hb=>by
  have h1:=H k hk
  cases hs:nH w k<;>rw[hs] at h1<;>exact h1) (fun _=>by
  unfold cU
  rw[if_neg (by rw[decide_eq_true_eq];omega)])
 unfold bR lU jG rec
 simp only[Option.bind_some]
 rw[h]
 cases hf:dU (nH w) w.length with
 | none =>
  rw[if_pos (big_none.1 hf)]
  simp only[Option.bind_some]
  rw[if_neg (by decide),Zu w hw]
  rfl
 | some e =>
  obtain rfl:=Zi hf
  rw[if_neg (fun h=>by rw[big_none.2 h] at hf;cases hf)]
  rfl
theorem size24{x:Int}(h:-4611686018427387904≤x∧x≤4611686018427387904):∃ y,nQ x=some y∧(y>16777216↔¬(-16777216≤x∧x≤16777216)):=by
 refine⟨_,rfl,?_⟩
 rw[w64 (x:=0-x) (by omega)]
 split<;>omega
def mid(z:Int×Int):Prop:=(-4611686018427387904≤z.1∧z.1≤4611686018427387904)∧(-4611686018427387904≤z.2∧z.2≤4611686018427387904)
theorem aAQ(w:List (Int×Int))(hw:w.length≤4096)(hm:∀ z∈w,mid z):eY w=some (rec w):=by
 let F:Nat→List (Nat×Nat):=fun k=>(w.map tR).take k
 have H:∀ k:Nat,k<w.length→cM w (F k,(k:Int))=some (match nH w k with|none=>.inl (F (k+1),((k+1:Nat):Int))|some e=>.inr (.inl ())):=by
  intro k hk
  have hg:w[k]?=some w[k]:=List.getElem?_eq_getElem hk
  have m:=hm w[k] (List.getElem_mem hk)
  obtain⟨a,a1,a2⟩:=size24 m.1
  obtain⟨b,b1,b2⟩:=size24 m.2
  have hF:F (k+1)=F k++[tR w[k]]:=by
   show (w.map tR).take (k+1)=_
   rw[List.take_add_one,List.getElem?_map,hg];rfl
  unfold cM nH
  simp only
  rw[if_pos (by rw[decide_eq_true_eq];omega),aL,hg]
  simp only[Option.bind_some]
  rw[a1]
  simp only[Option.bind_some]
  rw[b1]
  simp only[Option.bind_some]
  by_cases c1:a>16777216
  ·rw[if_pos (decide_eq_true c1),if_neg (fun h=>(a2.1 c1) h.1)]
  rw[if_neg (by simpa using c1)]
  by_cases c2:b>16777216
  ·rw[if_pos (decide_eq_true c2),if_neg (fun h=>(b2.1 c2) h.2)]
  rw[if_neg (by simpa using c2)]
  have hs:small w[k]:=⟨Classical.not_not.1 (fun h=>c1 (a2.2 h)),Classical.not_not.1 (fun h=>c2 (b2.2 h))⟩
  rw[if_pos hs,hF]
  unfold iT
  rw[if_pos (by
   have:(F k).length≤k:=by show ((w.map tR).take k).length≤k;simp;omega
   simp;omega),wsucc (n:=4096) (by omega) (by decide)]
  rfl
 unfold eY nV rec
 cases hf:dU (nH w) w.length with
 | none =>
  rw[if_pos (big_none.1 hf)]
  have key:=jT (step:=cM w) (st:=fun k (b:Unit)=>(F k,(k:Int))) (g:=fun k b=>b) (fin:=fun b=>(.inr (w.map tR):Unit ⊕ List (Nat×Nat))) w.length (fun k b=>True) (b0:=()) trivial
   (fun k b hk _=>⟨by rw[H k hk,firstOf_none.1 hf k hk],trivial⟩) (fun b _=>by
    unfold cM
    simp only
    rw[if_neg (by rw[decide_eq_true_eq];omega)]
    show some (Sum.inr (Sum.inr ((w.map tR).take w.length)))=_
    rw[List.take_of_length_le (by simp)])
  have k1:run (cM w) (([]:List (Nat×Nat)),0)=some (.inr (w.map tR)):=by
   have:=key.1
   simpa [F] using this
  rw[k1]
  rfl
 | some e =>
  rw[if_neg (fun h=>by rw[big_none.2 h] at hf;cases hf)]
  have h1:∃ k,k<w.length∧nH w k≠none:=by
   unfold dU at hf
   obtain⟨k,h1,hk⟩:=List.exists_of_findSome?_eq_some hf
   exact⟨k,List.mem_range.1 h1,by rw[hk];simp⟩
  obtain⟨k,k1,k2⟩:=h1
  have hex:∃ m,m<w.length∧nH w m≠none∧∀ j,j<m→nH w j=none:=by
   induction k using Nat.strongRecOn with
   | ind k ih =>
    by_cases h:∃ j,j<k∧nH w j≠none
    ·obtain⟨j,j1,j2⟩:=h
     exact ih j j1 (by omega) j2
    ·exact⟨k,k1,k2,fun j hj=>Classical.not_not.1 (fun q=>h ⟨j,hj,q⟩)⟩
  obtain⟨m,m1,m2,m3⟩:=hex
  have key:=jT (step:=cM w) (st:=fun k (b:Unit)=>(F k,(k:Int))) (g:=fun k b=>b) (fin:=fun b=>(.inl ():Unit ⊕ List (Nat×Nat))) m (fun k b=>True) (b0:=()) trivial
   (fun k b hk _=>⟨by rw[H k (by omega),m3 k hk],trivial⟩) (fun b _=>by
    have:=H m m1
    cases hb:nH w m with
    | none=>exact absurd hb m2
    | some e=>rw[hb] at this;exact this)
  have k1:run (cM w) (([]:List (Nat×Nat)),0)=some (.inl ()):=by
   have:=key.1
   simpa [F] using this
  rw[k1]
  rfl
theorem Wp(l:List (Nat×Nat))(hl:l.length≤1026):aR l=some l:=by
 have key:=jT (step:=jV l) (st:=fun k (b:List (Nat×Nat))=>(b,(k:Int))) (g:=fun k b=>b++[l.getD k (0,0)]) (fin:=fun b=>b) l.length
  (fun k b=>b=l.take k) (b0:=[]) (by simp) (fun k b hk hb=>by
   subst hb
   have hg:l[k]?=some l[k]:=List.getElem?_eq_getElem hk
   have hd:l.getD k (0,0)=l[k]:=by rw[List.getD_eq_getElem?_getD,hg];rfl
   rw[hd]
   refine⟨?_,by rw[List.take_add_one,hg];rfl⟩
   unfold jV
   simp only
   rw[if_pos (by rw[decide_eq_true_eq];omega),aL,hg]
   simp only[Option.bind_some,iT]
   rw[if_pos (by simp;omega),wsucc (n:=1026) (by omega) (by decide)]
   rfl) (fun b hb=>by
   unfold jV
   simp only
   rw[if_neg (by rw[decide_eq_true_eq];omega)])
 have hI:=key.2 l.length (Nat.le_refl _)
 have hr:=key.1
 rw[hI,List.take_of_length_le (Nat.le_refl _)] at hr
 unfold aR
 simp only[Int.natCast_zero] at hr
 rw[hr]
 rfl
theorem Wc{l:List (Nat×Nat)}(h:gF l=some true):l.length≤40∨(1024<l.length∧l.length≤1026):=by
 unfold gF at h
 split at h
 ·rename_i q
  have:=of_decide_eq_true q
  omega
 ·split at h
  ·rename_i q
   have h1:=of_decide_eq_true q
   have:=of_decide_eq_true (Option.some.inj h)
   omega
  ·cases h
theorem aAb(l:List (Nat×Nat)):∃ b,gF l=some b:=by
 unfold gF
 split
 ·exact⟨_,rfl⟩
 ·split<;>exact⟨_,rfl⟩
theorem Xj{b:Nat}{x:Int}(h:SV b x):∃ v,f2f .f32 b .f64=some v∧fbits .f64 v=some ((v:Nat):Int):=by
 obtain⟨s,m,e,h1,h2,h3⟩:=h
 obtain⟨M,E,hd⟩:=Fl (s:=s) h2
 refine⟨_,zS h1 h2,?_⟩
 have hn:=tC (k:=.f64) hd.rd
 unfold fbits
 rw[if_neg (by rw[hn];decide)]
theorem pK(l:List (Nat×Nat))(hl:l.length≤4096)(h:∀ p∈l,∃ z,PV p z):aN l l=some true:=by
 unfold aN
 rw[if_neg (by simp)]
 have:run (eR l l) 0=some (.inr ()):=by
  refine cA (fun k=>(k:Int)) (n:=l.length) (fun k hk=>?_) ?_
  ·obtain⟨z,z1,z2⟩:=h l[k] (List.getElem_mem hk)
   obtain⟨a,a1,a2⟩:=Xj z1
   obtain⟨b,b1,b2⟩:=Xj z2
   unfold eR nZ
   rw[if_pos (by rw[decide_eq_true_eq];omega),aL,List.getElem?_eq_getElem hk]
   simp only[Option.bind_some,a1,b1,a2,b2,decide_true,if_true]
   rw[wsucc (n:=4096) (by omega) (by decide)]
  ·unfold eR
   rw[if_neg (by rw[decide_eq_true_eq];omega)]
 rw[this]
 rfl
theorem Xu(w:List (Int×Int))(hw:w.length≤4096):aN (rec w).1 (rec w).1=some true:=by
 unfold rec
 split
 ·rename_i h
  refine pK _ (by simp;omega) (fun p hp=>?_)
  obtain⟨z,hz,rfl⟩:=List.mem_map.1 hp
  exact⟨z,aAy (h z hz)⟩
 ·exact pK _ (by simp) (fun p hp=>by simp at hp)
def zadd(a b:Int×Int):Int×Int:=(a.1+b.1,a.2+b.2)
def at0(w:List (Int×Int))(k:Nat):Int×Int:=w.getD k (0,0)
section
variable {a b:List (Int×Int)}
end
end Go.Rex
namespace Go.Rex
open Go Go.Rex
set_option maxRecDepth 100000
section
variable {r c:List (Int×Int)}
end
end Go.Rex
namespace Go.Rex
open Go Go.Rex
set_option maxRecDepth 100000
end Go.Rex
namespace Go.Rex
def iM{α ε:Type}(P:α→Bool)(ex:Nat→α→ε)(en:ε):Nat→List α→ε
 | _,[]=>en
 | k,x::t=>if P x=true then ex k x else iM P ex en (k+1) t
theorem vF{α σ ε:Type}{step:σ→Option (σ ⊕ ε)}(st:Nat→σ)(P:α→Bool)(ex:Nat→α→ε)(en:ε) :
 ∀(xs ys:List α),(∀(k:Nat) x,(ys++xs)[k]?=some x→step (st k)=some (if P x=true then .inr (ex k x) else .inl (st (k+1))))→step (st (ys++xs).length)=some (.inr en)→run step (st ys.length)=some (iM P ex en ys.length xs)
 | [],ys,_,he=>by rw[List.append_nil] at he;exact iH he
 | x::t,ys,hs,he=>by
  have h1:=hs ys.length x (by simp)
  by_cases hp:P x=true
  ·rw[if_pos hp] at h1
   rw[iH h1,iM,if_pos hp]
  ·rw[if_neg hp] at h1
   rw[kR h1,iM,if_neg hp]
   have:=vF st P ex en t (ys++[x]) (fun k y hk=>hs k y (by simpa using hk)) (by simpa using he)
   simpa using this
theorem Kh{α σ ε:Type}{step:σ→Option (σ ⊕ ε)}(st:Nat→σ)(P:α→Bool)(ex:Nat→α→ε)(en:ε)(xs:List α)(hs:∀(k:Nat) x,xs[k]?=some x→step (st k)=some (if P x=true then .inr (ex k x) else .inl (st (k+1))))(he:step (st xs.length)=some (.inr en)){s:σ}(h0:s=st 0):run step s=some (iM P ex en 0 xs):=by
 subst h0
 exact vF st P ex en xs [] hs he
def fbit(L s:Nat)(ts:List Nat):Nat:=ts.foldl (fun a t=>(a+s/2^(L-t)%2)%2) 0
def nx(L:Nat)(ts:List Nat)(s:Nat):Nat:=s/2+fbit L s ts*2^(L-1)
structure Reg(L:Nat)(ts:List Nat):Prop where
 two:2≤L
 most:L≤8
 le:∀ t,t∈ts→1≤t∧t≤L
 last:∃ t',ts=t'++[L]∧∀ t,t∈t'→t<L
 len:ts.length≤12
theorem Ge(L s:Nat):∀(ts:List Nat) (a:Nat),a<2→ts.foldl (fun a t=>(a+s/2^(L-t)%2)%2) a<2
 | [],a,h=>h
 | t::ts,a,h=>Ge L s ts _ (Nat.mod_lt _ (by omega))
theorem qM(L s:Nat)(ts:List Nat):fbit L s ts<2:=Ge L s ts 0 (by omega)
theorem Av{L:Nat}(h:1≤L):2^L=2*2^(L-1):=by
 obtain⟨k,rfl⟩:∃ k,L=k+1:=⟨L-1,by omega⟩
 rw[Nat.add_sub_cancel,Nat.pow_succ]
 omega
theorem aBk{L:Nat}{ts:List Nat}{s:Nat}(hL:1≤L)(hs:s<2^L):nx L ts s<2^L:=by
 have h1:=qM L s ts
 have e:=Av hL
 unfold nx
 have h2:s/2<2^(L-1):=by omega
 have h3:fbit L s ts*2^(L-1)≤1*2^(L-1):=Nat.mul_le_mul_right _ (by omega)
 omega
theorem Dl(L s s':Nat)(h:s/2=s'/2):∀(ts:List Nat) (a:Nat),(∀ t,t∈ts→t<L)→ts.foldl (fun a t=>(a+s/2^(L-t)%2)%2) a=ts.foldl (fun a t=>(a+s'/2^(L-t)%2)%2) a
 | [],a,_=>rfl
 | t::ts,a,ht=>by
  have h1:=ht t (by simp)
  obtain⟨j,hj⟩:∃ j,L-t=j+1:=⟨L-t-1,by omega⟩
  simp only[List.foldl_cons]
  have e:s/2^(L-t)=s'/2^(L-t):=by
   rw[hj,Nat.pow_succ',← Nat.div_div_eq_div_mul,← Nat.div_div_eq_div_mul,h]
  rw[e]
  exact Dl L s s' h ts _ (fun t ht'=>ht t (by simp[ht']))
theorem Jx{L s:Nat}{ts t':List Nat}(h:ts=t'++[L]):fbit L s ts=(fbit L s t'+s%2)%2:=by
 subst h
 unfold fbit
 rw[List.foldl_append]
 simp
theorem Xm{L:Nat}{ts:List Nat}(hr:Reg L ts){s s':Nat}(hs:s<2^L)(hs':s'<2^L)(h:nx L ts s=nx L ts s'):s=s':=by
 obtain⟨t',e,hl⟩:=hr.last
 have h2:=hr.two
 have e2:=Av (L:=L) (by omega)
 unfold nx at h
 have b1:=qM L s ts
 have b2:=qM L s' ts
 have hp:=Nat.two_pow_pos (L-1)
 have hc:fbit L s ts=fbit L s' ts:=by
  rcases (show fbit L s ts=0∨fbit L s ts=1 by omega) with q|q<;>rcases (show fbit L s' ts=0∨fbit L s' ts=1 by omega) with q'|q'<;>rw[q,q'] at h ⊢<;>omega
 have hd:s/2=s'/2:=by rw[hc] at h;omega
 rw[Jx e,Jx e] at hc
 have:fbit L s t'=fbit L s' t':=Dl L s s' hd t' 0 hl
 have l1:=qM L s t'
 rw[this] at hc
 have l2:=qM L s' t'
 omega
theorem aA2(L:Nat):∀ ts:List Nat,nx L ts 0=0:=by
 have:∀(ts:List Nat),fbit L 0 ts=0:=by
  intro ts
  unfold fbit
  induction ts with
  | nil=>rfl
  | cons t ts ih=>simpa using ih
 intro ts
 unfold nx
 rw[this ts]
 simp
theorem aBp{L:Nat}{ts:List Nat}(hr:Reg L ts){s:Nat}(h0:0<s)(hs:s<2^L):0<nx L ts s:=by
 rcases Nat.eq_zero_or_pos (nx L ts s) with h|h
 ·have:=Xm hr hs (Nat.two_pow_pos L) (by rw[h,aA2])
  omega
 ·exact h
def stt(L:Nat)(ts:List Nat)(s:Nat):Nat→Nat
 | 0=>s
 | t+1=>nx L ts (stt L ts s t)
theorem stt_succ'(L:Nat)(ts:List Nat)(s:Nat):∀ t,stt L ts s (t+1)=stt L ts (nx L ts s) t
 | 0=>rfl
 | t+1=>by
  show nx L ts (stt L ts s (t+1))=nx L ts (stt L ts (nx L ts s) t)
  rw[stt_succ' L ts s t]
section
variable {L:Nat} {ts:List Nat} {s:Nat}
theorem rA(hr:Reg L ts)(h0:0<s)(hs:s<2^L):∀ t,0<stt L ts s t∧stt L ts s t<2^L
 | 0=>⟨h0,hs⟩
 | t+1=>by
  obtain⟨a,b⟩:=rA hr h0 hs t
  exact⟨aBp hr a b,aBk (by have:=hr.two;omega) b⟩
def bt(L:Nat)(ts:List Nat)(s t:Nat):Nat:=stt L ts s t%2
theorem Yf(hr:Reg L ts){x:Nat}(hx:x<2^L){i:Nat}(hi:i+1<L):nx L ts x/2^i%2=x/2^(i+1)%2:=by
 unfold nx
 obtain⟨j,hj⟩:∃ j,L-1=i+(j+1):=⟨L-1-i-1,by omega⟩
 have e:fbit L x ts*2^(L-1)=2^i*(2*(fbit L x ts*2^j)):=by
  rw[hj,Nat.pow_add,Nat.pow_succ]
  simp only[Nat.mul_comm,Nat.mul_left_comm,Nat.mul_assoc]
 rw[e,Nat.add_mul_div_left _ _ (Nat.two_pow_pos i),Nat.add_mul_mod_self_left,Nat.div_div_eq_div_mul,Nat.pow_succ']
theorem aBE(hr:Reg L ts){x:Nat}(hx:x<2^L):nx L ts x/2^(L-1)%2=fbit L x ts:=by
 have h2:=hr.two
 have e2:=Av (L:=L) (by omega)
 unfold nx
 have h1:x/2<2^(L-1):=by omega
 rw[Nat.add_mul_div_right _ _ (Nat.two_pow_pos _),Nat.div_eq_of_lt h1,Nat.zero_add,Nat.mod_eq_of_lt (qM _ _ _)]
theorem window(hr:Reg L ts)(h0:0<s)(hs:s<2^L):∀(i t:Nat),i<L→stt L ts s t/2^i%2=bt L ts s (t+i)
 | 0,t,_=>by simp[bt]
 | i+1,t,hi=>by
  have h1:=window hr h0 hs i (t+1) (by omega)
  have h2:=Yf hr (rA hr h0 hs t).2 (i:=i) hi
  rw[show t+(i+1)=t+1+i by omega,← h1,← h2]
  rfl
theorem aCo(hr:Reg L ts)(h0:0<s)(hs:s<2^L)(t:Nat):bt L ts s (t+L)=ts.foldl (fun a p=>(a+bt L ts s (t+L-p))%2) 0:=by
 have h2:=hr.two
 have h1:=window hr h0 hs (L-1) (t+1) (by omega)
 rw[show t+1+(L-1)=t+L by omega] at h1
 rw[← h1]
 have h3:=aBE hr (rA hr h0 hs t).2
 have h4:stt L ts s (t+1)=nx L ts (stt L ts s t):=rfl
 rw[h4,h3]
 unfold fbit
 have key:∀(l:List Nat) (a:Nat),(∀ p,p∈l→1≤p∧p≤L)→l.foldl (fun a p=>(a+stt L ts s t/2^(L-p)%2)%2) a=l.foldl (fun a p=>(a+bt L ts s (t+L-p))%2) a:=by
  intro l
  induction l with
  | nil=>intro a _;rfl
  | cons p l ih =>
   intro a hl
   have hp:=hl p (by simp)
   simp only[List.foldl_cons]
   rw[window hr h0 hs (L-p) t (by omega),show t+(L-p)=t+L-p by omega]
   exact ih _ (fun q hq=>hl q (by simp[hq]))
 exact key ts 0 hr.le
theorem returns(hr:Reg L ts)(h0:0<s)(hs:s<2^L):∃ n,1≤n∧n≤2^L-1∧stt L ts s n=s:=by
 have hdup:∃ i j,i<j∧j≤2^L-1∧stt L ts s i=stt L ts s j:=by
  apply Classical.byContradiction
  intro hno
  have hnd:((List.range (2^L)).map (stt L ts s)).Nodup:=by
   rw[List.nodup_iff_pairwise_ne,List.pairwise_map]
   refine List.Pairwise.imp_of_mem ?_ List.pairwise_lt_range
   intro a b ha hb hlt he
   exact hno ⟨a,b,hlt,by have:=List.mem_range.1 hb;omega,he⟩
  have hsub:((List.range (2^L)).map (stt L ts s))⊆(List.range (2^L-1)).map (· + 1):=by
   intro x hx
   obtain⟨t,_,rfl⟩:=List.mem_map.1 hx
   obtain⟨a,b⟩:=rA hr h0 hs t
   exact List.mem_map.2 ⟨stt L ts s t-1,List.mem_range.2 (by omega),by omega⟩
  have:=hnd.length_le_of_subset hsub
  simp at this
  have:=Nat.two_pow_pos L
  omega
 obtain⟨i,j,hij,hj,he⟩:=hdup
 have back:∀(i k:Nat),stt L ts s i=stt L ts s (i+k)→s=stt L ts s k:=by
  intro i
  induction i with
  | zero=>intro k h;simpa [stt] using h
  | succ i ih =>
   intro k h
   rw[show i+1+k=(i+k)+1 by omega] at h
   exact ih k (Xm hr (rA hr h0 hs i).2 (rA hr h0 hs (i+k)).2 h)
 refine⟨j-i,by omega,by omega,?_⟩
 exact (back i (j-i) (by rw[he];congr 1;omega)).symm
theorem least{P:Nat→Prop}(h:∃ n,P n):∃ n,P n∧∀ m,m<n→¬ P m:=by
 obtain⟨n,hn⟩:=h
 induction n using Nat.strongRecOn with
 | _ n ih =>
  by_cases hx:∃ m,m<n∧P m
  ·obtain⟨m,hm,hp⟩:=hx
   exact ih m hm hp
  ·exact⟨n,hn,fun m hm hp=>hx ⟨m,hm,hp⟩⟩
def Ke(L:Nat)(ts:List Nat)(s n:Nat):Prop:=(1≤n∧stt L ts s n=s)∧∀ m,m<n→¬(1≤m∧stt L ts s m=s)
theorem Rp(hr:Reg L ts)(h0:0<s)(hs:s<2^L):∃ n,Ke L ts s n∧n≤2^L-1:=by
 obtain⟨n,h1,h2,h3⟩:=returns hr h0 hs
 obtain⟨m,hm,hl⟩:=least (P:=fun n=>1≤n∧stt L ts s n=s) ⟨n,h1,h3⟩
 refine⟨m,⟨hm,hl⟩,?_⟩
 rcases Nat.lt_or_ge n m with h|h
 ·exact absurd ⟨h1,h3⟩ (hl n h)
 ·omega
end
theorem w64n{x:Nat}(h:x<9223372036854775808):IntKind.i64.wrap (x:Int)=x:=w64 (by omega)
theorem Pz{v:Nat}(h:v<2^62):yU .and .i64 (v:Int) 1=((v%2:Nat):Int):=by
 show IntKind.i64.wrap (((BitVec.ofInt 64 (v:Int) &&& BitVec.ofInt 64 1).toNat:Nat):Int)=_
 have:(BitVec.ofInt 64 (v:Int) &&& BitVec.ofInt 64 1).toNat=v%2:=by
  rw[BitVec.ofInt_natCast,BitVec.toNat_and,BitVec.toNat_ofNat,Nat.mod_eq_of_lt (by omega)]
  show v &&& 1=_
  exact Nat.and_one_is_mod v
 rw[this,w64n (by omega)]
theorem Wx{a b:Nat}(ha:a<2)(hb:b<2):yU .xor .i64 (a:Int) (b:Int)=(((a+b)%2:Nat):Int):=by
 rcases (show a=0∨a=1 by omega) with rfl|rfl<;>rcases (show b=0∨b=1 by omega) with rfl|rfl<;>decide
theorem Wl{a i c:Nat}(ha:a<2^i)(hc:c<2)(hi:i≤60):yU .or .i64 (a:Int) ((c*2^i:Nat):Int)=((a+c*2^i:Nat):Int):=by
 have hp:2^i≤2^60:=Nat.pow_le_pow_right (by omega) hi
 have hcm:c*2^i≤1*2^i:=Nat.mul_le_mul_right _ (by omega)
 show IntKind.i64.wrap (((BitVec.ofInt 64 (a:Int) ||| BitVec.ofInt 64 ((c*2^i:Nat):Int)).toNat:Nat):Int)=_
 have:(BitVec.ofInt 64 (a:Int) ||| BitVec.ofInt 64 ((c*2^i:Nat):Int)).toNat=a+c*2^i:=by
  rw[BitVec.ofInt_natCast,BitVec.ofInt_natCast,BitVec.toNat_or,BitVec.toNat_ofNat,BitVec.toNat_ofNat,Nat.mod_eq_of_lt (by omega),Nat.mod_eq_of_lt (by omega),Nat.or_comm,Nat.mul_comm c,← Nat.two_pow_add_eq_or_of_lt ha c,Nat.add_comm]
 rw[this,w64n (by omega)]
theorem Xr{v k:Nat}{n:Int}(hk:k≤60)(hn:n=(k:Int)):shI .shr .i64 (v:Int) n=some ((v/2^k:Nat):Int):=by
 subst hn
 unfold shI
 rw[if_neg (by omega)]
 simp only
 have:min (k:Int).toNat IntKind.i64.bits=k:=by
  have:IntKind.i64.bits=64:=rfl
  omega
 rw[this,Int.fdiv_eq_ediv_of_nonneg _ (Int.pow_nonneg (by omega))]
 congr 1
theorem aAj{v k:Nat}{n:Int}(hk:k≤60)(hv:v<2)(hn:n=(k:Int)):shI .shl .i64 (v:Int) n=some ((v*2^k:Nat):Int):=by
 subst hn
 unfold shI
 rw[if_neg (by omega)]
 simp only
 have:min (k:Int).toNat IntKind.i64.bits=k:=by
  have:IntKind.i64.bits=64:=rfl
  omega
 have hp:2^k≤2^60:=Nat.pow_le_pow_right (by omega) hk
 have hcm:v*2^k≤1*2^k:=Nat.mul_le_mul_right _ (by omega)
 have e:(v:Int)*2^k=((v*2^k:Nat):Int):=by simp
 rw[this,e,w64n (by omega)]
end Go.Rex
namespace Go.Rex
abbrev ints(l:List Nat):List Int:=l.map (fun (t:Nat)=>(t:Int))
section
variable {L:Nat} {ts:List Nat} {s:Nat}
theorem Ck{α:Type}{l:List α}{k:Nat}{x:α}(h:l[k]?=some x):l.take (k+1)=l.take k++[x]:=by
 rw[List.take_add_one,h];rfl
theorem Un(hr:Reg L ts)(hs:s<2^L):eE L (ints ts) s=some ((nx L ts s:Nat):Int):=by
 have h2:=hr.two
 have h8:=hr.most
 have hb:s<2^62:=Nat.lt_of_lt_of_le hs (Nat.pow_le_pow_right (by omega) (by omega))
 unfold eE
 have hrun:=cA (step:=cX L (ints ts) s) (e:=((fbit L s ts:Nat):Int)) (fun k=>((((ts.take k).foldl (fun a t=>(a+s/2^(L-t)%2)%2) 0:Nat):Int),(k:Int))) (n:=ts.length) (fun k hk=>?_) ?_
 ·rw[show ((0:Int),(0:Int))=((((ts.take 0).foldl (fun a t=>(a+s/2^(L-t)%2)%2) 0:Nat):Int),((0:Nat):Int)) from rfl,hrun,Option.bind_some,Xr (k:=1) (n:=1) (by omega) rfl,Option.bind_some]
  have hw:IntKind.i64.wrap ((L:Int)-1)=((L-1:Nat):Int):=by rw[w64 (by omega)];omega
  rw[aAj (k:=L-1) (by omega) (qM L s ts) hw,Option.bind_some]
  have hp:=Av (L:=L) (by omega)
  have:=Wl (a:=s/2^1) (i:=L-1) (c:=fbit L s ts) (by omega) (qM L s ts) (by omega)
  rw[this]
  rfl
 ·obtain⟨t,ht⟩:∃ t,ts[k]?=some t:=⟨_,List.getElem?_eq_getElem hk⟩
  have htm:=hr.le t (List.mem_of_getElem? ht)
  dsimp only[cX]
  rw[if_pos (by simpa using hk),aL,List.getElem?_map,ht,Option.map_some,Option.bind_some]
  have hw:IntKind.i64.wrap ((L:Int)-(t:Int))=((L-t:Nat):Int):=by rw[w64 (by omega)];omega
  rw[Xr (k:=L-t) (by omega) hw,Option.bind_some,Ck ht,List.foldl_append]
  rw[Pz (Nat.lt_of_le_of_lt (Nat.div_le_self _ _) hb),Wx (Ge L s (ts.take k) 0 (by omega)) (Nat.mod_lt _ (by omega))]
  rw[w64 (x:=(k:Int)+1) (by have:=hr.len;omega)]
  rfl
 ·dsimp only[cX]
  rw[if_neg (by simp),List.take_length]
  rfl
theorem Kw(hr:Reg L ts)(h0:0<s)(hs:s<2^L){σ ε:Type}{step:Int→σ→Option (σ ⊕ ε)}(y:Nat→σ){n:Nat}{z:ε}(h:∀ k,k<n→step ((stt L ts s k:Nat):Int) (y k)=some (.inl (y (k+1))))(hn:step ((stt L ts s n:Nat):Int) (y n)=some (.inr z)) :
 aK s L (ints ts) (hand step) (.inl (y 0))=some (.inr z):=by
 unfold aK
 have hrun:=cA (step:=aY (hand step) L (ints ts)) (e:=.inr z) (fun k=>((((stt L ts s k:Nat):Int)),(Sum.inl (y k):σ ⊕ ε))) (n:=n) (fun k hk=>?_) ?_
 ·rw[show (((s:Nat):Int),(Sum.inl (y 0):σ ⊕ ε))=((((stt L ts s 0:Nat):Int)),(Sum.inl (y 0):σ ⊕ ε)) from rfl,hrun]
  rfl
 ·dsimp only[aY]
  simp only[hand,h k hk,Option.map_some,Option.bind_some,if_true]
  rw[Un hr (rA hr h0 hs k).2]
  rfl
 ·dsimp only[aY]
  simp only[hand,hn,Option.map_some,Option.bind_some,Bool.false_eq_true,if_false]
def btl(L:Nat)(ts:List Nat)(s n:Nat):List Int:=(List.range n).map fun t=>((bt L ts s t:Nat):Int)
theorem Gs(L:Nat)(ts:List Nat)(s n:Nat):btl L ts s (n+1)=btl L ts s n++[((bt L ts s n:Nat):Int)]:=by
 unfold btl
 rw[List.range_succ,List.map_append]
 rfl
theorem pB(L:Nat)(ts:List Nat)(s n:Nat):(btl L ts s n).length=n:=by simp[btl]
theorem Kb(a:Int)(b:List Int)(c:Int):eK a b c=some (c,a,b):=rfl
theorem Vq(hr:Reg L ts)(h0:0<s)(hs:s<2^L){n:Nat}(hp:Ke L ts s n)(hn:n≤2^L-1):eJ L (ints ts) s=some (n:Int):=by
 obtain⟨⟨h1,h2⟩,h3⟩:=hp
 have h8:=hr.most
 have hL:2^L≤2^8:=Nat.pow_le_pow_right (by omega) h8
 unfold eJ
 rw[Un hr hs,Option.bind_some,Kb,Option.bind_some]
 dsimp only
 have hx:=rA hr h0 hs 1
 obtain⟨m,rfl⟩:∃ m,n=m+1:=⟨n-1,by omega⟩
 have:=Kw hr (s:=nx L ts s) hx.1 hx.2 (step:=dK s) (fun k=>((k+1:Nat):Int)) (n:=m) (z:=((m+1:Nat):Int)) (fun k hk=>?_) ?_
 ·rw[show (1:Int)=(((0+1:Nat):Nat):Int) from rfl]
  rw[this]
  rfl
 ·dsimp only[dK]
  rw[← stt_succ']
  have:=h3 (k+1) (by omega)
  rw[if_neg (by simp only[decide_eq_true_eq];intro e;exact this ⟨by omega,by omega⟩),w64 (by omega)]
  congr 2
 ·dsimp only[dK]
  rw[← stt_succ',h2,if_pos (by simp)]
end
end Go.Rex
namespace Go.Rex
theorem Bq(x a b:Int):bN x a b=some (decide (a≤x∧x≤b)):=by
 unfold bN
 by_cases h:a≤x<;>simp[h]
theorem zC(x a b:Int):cB x a b=some (!decide (a≤x∧x≤b),2):=by
 unfold cB aD
 by_cases h:x<a
 ·rw[if_pos (by simpa using h)]
  have:¬(a≤x∧x≤b):=by omega
  simp[this]
 ·rw[if_neg (by simpa using h)]
  by_cases h2:x≤b
  ·have h3:a≤x∧x≤b:=by omega
   have h4:¬ x>b:=by omega
   simp[h3,h4]
  ·have h3:¬(a≤x∧x≤b):=by omega
   have h4:x>b:=by omega
   simp only[h3,h4,decide_true,decide_false,Bool.not_false,Option.bind_some]
theorem rX(b:Bool)(e:Int):aD b e=some (b,e):=rfl
theorem kV(b:Bool)(e:Int):aA b e=some (if b=true then e else 0):=by
 unfold aA;cases b<;>rfl
theorem aAP(l:List Int)(h:l.length≤2000):dQ l=some l:=by
 unfold dQ iT
 rw[if_pos ⟨by simp;omega,by simp;omega⟩]
 rfl
theorem Yc(a:Int)(l:List Int)(h:l.length≤2000):kT a l=some (a,l):=by
 unfold kT
 rw[aAP l h]
 rfl
def gk(L:Int)(l:List Int)(k:Nat):Int:=
 if 1≤l.getD k 0∧l.getD k 0≤L then (if 0<k∧l.getD k 0≤l.getD (k-1) 0 then 9 else 0) else 2
def Bn(L:Int)(l:List Int):Int:=iM (fun k=>decide (gk L l k≠0)) (fun _ k=>gk L l k) 0 0 (List.range l.length)
def chk(L:Int)(l:List Int):Int:=
 if ¬(2≤L∧L≤8) then 2 else if l.length=0 then 10 else if Bn L l≠0 then Bn L l else if l.getD (l.length-1) 0≠L then 6 else 0
theorem qT{l:List Int}{k:Nat}(h:k<l.length):l[k]?=some (l.getD k 0):=by
 rw[List.getD_eq_getElem?_getD,List.getElem?_eq_getElem h];rfl
theorem Gr{L:Int}{l:List Int}(h:Bn L l=0):∀ k,k<l.length→gk L l k=0:=by
 have key:∀(xs:List Nat) (j:Nat),iM (fun k=>decide (gk L l k≠0)) (fun _ k=>gk L l k) 0 j xs=0→∀ k,k∈xs→gk L l k=0:=by
  intro xs
  induction xs with
  | nil=>intro j _ k hk;cases hk
  | cons x t ih =>
   intro j hj k hk
   unfold iM at hj
   by_cases hx:gk L l x=0
   ·rw[if_neg (by simpa using hx)] at hj
    rcases List.mem_cons.1 hk with rfl|hk
    ·exact hx
    ·exact ih _ hj k hk
   ·rw[if_pos (by simpa using hx)] at hj
    exact absurd hj hx
 intro k hk
 exact key _ 0 h k (List.mem_range.2 hk)
theorem Nk{L:Int}{l:List Int}{k:Nat}(h:gk L l k=0):1≤l.getD k 0∧l.getD k 0≤L∧(0<k→l.getD (k-1) 0<l.getD k 0):=by
 unfold gk at h
 split at h
 ·rename_i h1
  split at h
  ·cases h
  ·rename_i h2
   exact⟨h1.1,h1.2,fun hk=>by omega⟩
 ·cases h
theorem Va{ε:Type}{step:Int→Option (Int ⊕ ε)}{L:Int}{l:List Int}(inj:Int→ε)(en:ε)(hl:l.length≤2000)(hs:∀ k:Nat,k<l.length→step (k:Int)=some (if gk L l k≠0 then .inr (inj (gk L l k)) else .inl ((k+1:Nat):Int)))(he:step (l.length:Int)=some (.inr en)) :
 ∃ z,run step 0=some z∧((Bn L l=0∧z=en)∨(Bn L l≠0∧z=inj (Bn L l))):=by
 have hrun:=Kh (step:=step) (fun k:Nat=>(k:Int)) (fun k=>decide (gk L l k≠0)) (fun _ k=>inj (gk L l k)) en (List.range l.length) (fun k x hx=>by
  obtain⟨h1,h2⟩:=List.getElem?_eq_some_iff.1 hx
  rw[List.getElem_range] at h2
  subst h2
  rw[hs k (by simpa using h1)]
  by_cases q:gk L l k=0<;>simp[q]) (by simpa using he) (s:=0) rfl
 refine⟨_,hrun,?_⟩
 have key : ∀ (xs : List Nat) (j : Nat), (iM (fun k => decide (gk L l k ≠ 0)) (fun _ k => gk L l k) 0 j xs = 0 ∧ iM (fun k => decide (gk L l k ≠ 0)) (fun _ k => inj (gk L l k)) en j xs = en) ∨
     (iM (fun k=>decide (gk L l k≠0)) (fun _ k=>gk L l k) 0 j xs≠0∧iM (fun k=>decide (gk L l k≠0)) (fun _ k=>inj (gk L l k)) en j xs=inj (iM (fun k=>decide (gk L l k≠0)) (fun _ k=>gk L l k) 0 j xs)):=by
  intro xs
  induction xs with
  | nil=>intro j;exact .inl ⟨rfl,rfl⟩
  | cons x t ih =>
   intro j
   unfold iM
   by_cases hx:gk L l x=0
   ·rw[if_neg (by simpa using hx),if_neg (by simpa using hx)]
    exact ih (j+1)
   ·rw[if_pos (by simpa using hx),if_pos (by simpa using hx)]
    exact .inr ⟨hx,rfl⟩
 exact key _ 0
theorem aCS{L:Int}{l:List Int}{k:Nat}(q:¬(1≤l.getD k 0∧l.getD k 0≤L)):gk L l k=2:=by unfold gk;rw[if_neg q]
theorem aCD{L:Int}{l:List Int}{k:Nat}(q:1≤l.getD k 0∧l.getD k 0≤L)(q2:0<k)(q3:l.getD k 0≤l.getD (k-1) 0):gk L l k=9:=by unfold gk;rw[if_pos q,if_pos ⟨q2,q3⟩]
theorem aAM{L:Int}{l:List Int}{k:Nat}(q:1≤l.getD k 0∧l.getD k 0≤L)(q3:0<k→¬ l.getD k 0≤l.getD (k-1) 0):gk L l k=0:=by unfold gk;rw[if_pos q,if_neg (fun h=>q3 h.1 h.2)]
theorem Uo(L:Int)(l:List Int)(hl:l.length≤12):fT L l=some (chk L l):=by
 unfold fT chk
 rw[Bq,Option.bind_some]
 by_cases h1:2≤L∧L≤8
 ·rw[if_pos (c:=decide (2≤L∧L≤8)=true) (by simpa using h1),if_neg (c:=¬(2≤L∧L≤8)) (fun h=>h h1)]
  by_cases h2:l.length=0
  ·rw[if_pos (c:=decide ((l.length:Int)=0)=true) (by simpa using h2),if_pos (c:=l.length=0) h2]
  ·rw[if_neg (c:=decide ((l.length:Int)=0)=true) (by simpa using h2),if_neg (c:=l.length=0) h2]
   obtain⟨z,hz,hc⟩:=Va (step:=dH L l) (L:=L) (l:=l) .inl (.inr ()) (by omega) (fun k hk=>by
    dsimp only[dH]
    rw[if_pos (c:=decide ((k:Int)<(l.length:Int))=true) (by simpa using hk),aL,qT hk,Option.bind_some,Bq,Option.bind_some]
    by_cases q:1≤l.getD k 0∧l.getD k 0≤L
    ·rw[if_pos (c:=decide (1≤l.getD k 0∧l.getD k 0≤L)=true) (by simpa using q)]
     by_cases q2:0<k
     ·rw[if_pos (c:=decide ((k:Int)>0)=true) (by simpa using q2),tH (k:=k-1) (by rw[w64 (by omega)];omega),qT (by omega),Option.bind_some]
      by_cases q3:l.getD k 0≤l.getD (k-1) 0
      ·rw[if_pos (c:=decide (l.getD k 0≤l.getD (k-1) 0)=true) (by simpa using q3),aCD q q2 q3];rfl
      ·rw[if_neg (c:=decide (l.getD k 0≤l.getD (k-1) 0)=true) (by simpa using q3),aAM q (fun _=>q3),w64 (by omega)];rfl
     ·rw[if_neg (c:=decide ((k:Int)>0)=true) (by simpa using q2),aAM q (fun h=>absurd h q2),w64 (by omega)];rfl
    ·rw[if_neg (c:=decide (1≤l.getD k 0∧l.getD k 0≤L)=true) (by simpa using q),aCS q];rfl) (by
    dsimp only[dH]
    rw[if_neg (by simp)])
   rw[hz,Option.bind_some]
   rcases hc with⟨h3,rfl⟩|⟨h3,rfl⟩
   ·rw[if_neg (c:=Bn L l≠0) (fun h=>h h3)]
    dsimp only
    rw[tH (k:=l.length-1) (by rw[w64 (by omega)];omega),qT (by omega),Option.bind_some]
    by_cases q:l.getD (l.length-1) 0=L<;>simp only[q,ne_eq,not_true_eq_false,not_false_eq_true,decide_true,decide_false,if_true,if_false,Bool.false_eq_true]
   ·rw[if_pos (c:=Bn L l≠0) h3]
 ·rw[if_neg (c:=decide (2≤L∧L≤8)=true) (by simpa using h1),if_pos (c:=¬(2≤L∧L≤8)) h1]
theorem Rd(l:List Int)(x:Int)(hl:l.length≤2000):eA l x=some (l.any fun y=>decide (x=y)):=by
 unfold eA iF
 have hrun:=Kh (step:=dA l x) (fun k:Nat=>(k:Int)) (fun y=>decide (x=y)) (fun k _=>.inl (k:Int)) (.inr ()) l (fun k y hy=>by
  have h1:=(List.getElem?_eq_some_iff.1 hy).1
  dsimp only[dA]
  rw[if_pos (by simpa using h1),aL,hy,Option.bind_some]
  by_cases q:x=y
  ·rw[if_pos (by simpa using q),if_pos (by simpa using q)]
  ·rw[if_neg (by simpa using q),if_neg (by simpa using q),w64 (by omega)];rfl) (by
  dsimp only[dA]
  rw[if_neg (by simp)]) (s:=0) rfl
 rw[hrun,Option.bind_some]
 have key:∀(xs:List Int) (j:Nat),∃ v:Int,(match (iM (fun y=>decide (x=y)) (fun k _=>(.inl (k:Int):Int ⊕ Unit)) (.inr ()) j xs) with|.inl v11=>some v11|.inr _=>some (-1))=some v∧decide (v≥0)=xs.any fun y=>decide (x=y):=by
  intro xs
  induction xs with
  | nil=>intro j;exact⟨-1,rfl,rfl⟩
  | cons y t ih =>
   intro j
   unfold iM
   by_cases q:x=y
   ·rw[if_pos (by simpa using q)];exact⟨j,rfl,by simp[q]⟩
   ·rw[if_neg (by simpa using q)]
    obtain⟨v,h1,h2⟩:=ih (j+1)
    exact⟨v,h1,by rw[h2];simp[q]⟩
 obtain⟨v,h1,h2⟩:=key l 0
 rw[← h2]
 generalize iM (fun y=>decide (x=y)) (fun k _=>(Sum.inl (k:Int):Int ⊕ Unit)) (Sum.inr ()) 0 l=z at *
 rcases z with z|z
 ·obtain rfl:=Option.some.inj h1;rfl
 ·obtain rfl:=Option.some.inj h1;rfl
theorem Qd{L:Int}{l:List Int}(h:Bn L l=0){j:Nat}(hj:j<l.length):∀ i,i<j→l.getD i 0<l.getD j 0:=by
 induction j with
 | zero=>intro i hi;omega
 | succ j ih =>
  intro i hi
  have h1:=(Nk (Gr h (j+1) hj)).2.2 (by omega)
  rw[Nat.add_sub_cancel] at h1
  rcases Nat.lt_or_ge i j with q|q
  ·have:=ih (by omega) i q;omega
  ·obtain rfl:i=j:=by omega
   exact h1
theorem Zg{L:Int}{l:List Int}(h:Bn L l=0)(hn:l.length≠0):(l.any fun y=>decide (L=y))=decide (l.getD (l.length-1) 0=L):=by
 rw[Bool.eq_iff_iff,List.any_eq_true,decide_eq_true_eq]
 constructor
 ·rintro⟨y,hy,he⟩
  have he':L=y:=by simpa using he
  obtain⟨j,hj⟩:=List.mem_iff_getElem?.1 hy
  have hjl:=(List.getElem?_eq_some_iff.1 hj).1
  have hd:l.getD j 0=L:=by rw[List.getD_eq_getElem?_getD,hj];exact he'.symm
  rcases Nat.lt_or_ge j (l.length-1) with q|q
  ·have h1:=Qd h (j:=l.length-1) (by omega) j q
   have h2:=(Nk (Gr h (l.length-1) (by omega))).2.1
   omega
  ·have:l.length-1=j:=by omega
   rw[this];exact hd
 ·intro he
  exact⟨l.getD (l.length-1) 0,List.mem_of_getElem? (qT (by omega)),by simpa using he.symm⟩
theorem aA1(L:Int)(l:List Int)(hl:l.length≤12):fV L l=some (chk L l):=by
 unfold fV lV lZ
 simp only[zC,rX,Option.bind_some,Rd l L (show l.length≤2000 by omega)]
 unfold gR chk
 rw[kV,Option.bind_some]
 by_cases h1:2≤L∧L≤8
 ·rw[if_neg (c:=¬(2≤L∧L≤8)) (by simpa using h1)]
  rw[show decide (2≤L∧L≤8)=true by simpa using h1]
  simp only[Bool.not_true,Bool.false_eq_true,if_false,ne_eq,not_true_eq_false,decide_false,kV,Option.bind_some]
  by_cases h2:l.length=0
  ·rw[if_pos h2]
   have:(l.length:Int)=0:=by omega
   simp[this]
  ·have h2':¬(l.length:Int)=0:=by omega
   rw[if_neg h2]
   simp only[h2',decide_false,Bool.false_eq_true,if_false,not_true_eq_false]
   unfold jK
   obtain⟨z,hz,hc⟩:=Va (step:=dM l.length l 1 L) (L:=L) (l:=l) .inl (.inr ()) (by omega) (fun k hk=>by
    dsimp only[dM]
    rw[if_pos (by simpa using hk)]
    have hasc:eC k l 1 L=some (gk L l k):=by
     unfold eC aW
     rw[aL,qT hk,Option.bind_some,zC,Option.bind_some]
     dsimp only
     by_cases q:1≤l.getD k 0∧l.getD k 0≤L
     ·rw[show decide (1≤l.getD k 0∧l.getD k 0≤L)=true by simpa using q]
      by_cases q2:0<k
      ·rw[if_pos (by simpa using q2),tH (k:=k-1) (by rw[w64 (by omega)];omega),qT (by omega),Option.bind_some,rX,Option.bind_some]
       dsimp only
       simp only[kV,Option.bind_some,Bool.not_true,Bool.false_eq_true,if_false,ne_eq,not_true_eq_false,decide_false]
       by_cases q3:l.getD k 0≤l.getD (k-1) 0
       ·rw[aCD q q2 q3];simp only[q3,decide_true,if_true];rfl
       ·rw[aAM q (fun _=>q3)];simp only[q3,decide_false,Bool.false_eq_true,if_false];rfl
      ·rw[if_neg (by simpa using q2),aAM q (fun h=>absurd h q2),rX,Option.bind_some]
       dsimp only
       simp only[kV,Option.bind_some,Bool.not_true,Bool.false_eq_true,if_false,ne_eq,not_true_eq_false,decide_false]
     ·rw[aCS q,show decide (1≤l.getD k 0∧l.getD k 0≤L)=false by simpa using q]
      by_cases q2:0<k
      ·rw[if_pos (by simpa using q2),tH (k:=k-1) (by rw[w64 (by omega)];omega),qT (by omega),Option.bind_some,rX,Option.bind_some]
       dsimp only
       simp only[kV,Option.bind_some,Bool.not_false,if_true];rfl
      ·rw[if_neg (by simpa using q2),rX,Option.bind_some]
       dsimp only
       simp only[kV,Option.bind_some,Bool.not_false,if_true];rfl
    rw[hasc,Option.bind_some]
    by_cases q:gk L l k=0
    ·rw[if_neg (by simpa using q),if_neg (by simpa using q),w64 (by omega)];rfl
    ·rw[if_pos (by simpa using q),if_pos q]) (by
    dsimp only[dM]
    rw[if_neg (by simp)])
   rw[hz,Option.bind_some]
   rcases hc with⟨h3,rfl⟩|⟨h3,rfl⟩
   ·rw[Zg h3 h2,if_neg (c:=¬ Bn L l=0) (fun h=>h h3)]
    dsimp only[Option.bind_some]
    by_cases q:l.getD (l.length-1) 0=L<;>simp only[q,decide_true,decide_false,Bool.not_true,Bool.not_false,if_true,if_false,Bool.false_eq_true,ne_eq,not_true_eq_false,not_false_eq_true,Option.bind_some,kV]<;>rfl
   ·rw[if_pos (c:=¬ Bn L l=0) h3]
    dsimp only[Option.bind_some]
    simp only[h3,not_false_eq_true,decide_true,if_true,Option.bind_some]
 ·rw[if_pos (c:=¬(2≤L∧L≤8)) h1,show decide (2≤L∧L≤8)=false by simpa using h1]
  simp
theorem aBC{L:Int}{l:List Int}(hl:l.length≤12)(h:chk L l=0):∃(n:Nat) (ts:List Nat),L=n∧l=ints ts∧Reg n ts:=by
 unfold chk at h
 split at h
 ·cases h
 rename_i h1
 split at h
 ·cases h
 rename_i h2
 split at h
 ·rename_i h3;exact absurd h h3
 rename_i h3
 split at h
 ·cases h
 rename_i h4
 have h1':2≤L∧L≤8:=Classical.not_not.1 h1
 have h3':Bn L l=0:=Classical.not_not.1 h3
 have h4':l.getD (l.length-1) 0=L:=Classical.not_not.1 h4
 have hpos:∀ x,x∈l→1≤x∧x≤L:=fun x hx=>by
  obtain⟨j,hj⟩:=List.mem_iff_getElem?.1 hx
  have hjl:=(List.getElem?_eq_some_iff.1 hj).1
  have:=Nk (Gr h3' j hjl)
  have hd:l.getD j 0=x:=by rw[List.getD_eq_getElem?_getD,hj];rfl
  rw[hd] at this
  exact⟨this.1,this.2.1⟩
 have he:l=ints (l.map Int.toNat):=by
  unfold ints
  rw[List.map_map]
  conv=>lhs;rw[← List.map_id l]
  apply List.map_congr_left
  intro x hx
  have:=hpos x hx
  simp;omega
 refine⟨L.toNat,l.map Int.toNat,by omega,he,⟨by omega,by omega,fun t ht=>?_,?_,by simpa using hl⟩⟩
 ·obtain⟨x,hx,rfl⟩:=List.mem_map.1 ht
  have:=hpos x hx
  omega
 ·refine⟨(l.take (l.length-1)).map Int.toNat,?_,fun t ht=>?_⟩
  ·have : l = l.take (l.length - 1) ++ [L] := by
     conv=>lhs;rw[← List.take_append_drop (l.length-1) l]
     congr 1
     have hx:l[l.length-1]?=some L:=by rw[qT (by omega),h4']
     obtain⟨k,hk⟩:∃ k,l.length=k+1:=⟨l.length-1,by omega⟩
     rw[List.drop_eq_getElem_cons (by omega)]
     rw[show l.length-1+1=l.length by omega,List.drop_length]
     congr 1
     have:=(List.getElem?_eq_some_iff.1 hx).2
     exact this
   conv=>lhs;rw[this]
   simp
  ·obtain⟨x,hx,rfl⟩:=List.mem_map.1 ht
   obtain⟨i,hi⟩:=List.mem_iff_getElem?.1 hx
   rw[List.getElem?_take] at hi
   split at hi
   ·rename_i hlt
    have hd:l.getD i 0=x:=by rw[List.getD_eq_getElem?_getD,hi];rfl
    have:=Qd h3' (j:=l.length-1) (by omega) i (by omega)
    have:=hpos x (List.mem_of_getElem? hi)
    omega
   ·cases hi
theorem Bj(L:Int)(l:List Int)(hl:l.length≤12):cV L l=some (chk L l):=by
 unfold cV
 rw[aA1 L l hl];rfl
theorem Es{L:Nat}(hL:L≤8)(l:List Int):iR L l=some ((2^L-1:Nat):Int):=by
 have hp:2^L≤2^8:=Nat.pow_le_pow_right (by omega) hL
 have hp0:=Nat.two_pow_pos L
 unfold iR
 have hrun:=cA (step:=kA L) (e:=((2^L:Nat):Int)) (fun k=>(((2^k:Nat):Int),(k:Int))) (n:=L) (fun k hk=>?_) ?_
 ·rw[show ((1:Int),(0:Int))=(((2^0:Nat):Int),((0:Nat):Int)) from rfl,hrun,Option.bind_some,w64 (by omega)]
  congr 1;omega
 ·dsimp only[kA]
  have hk2:2^k≤2^8:=Nat.pow_le_pow_right (by omega) (by omega)
  have hk3:=Nat.two_pow_pos k
  rw[if_pos (by simpa using hk),w64 (x:=2*((2^k:Nat):Int)) (by omega),w64 (x:=(k:Int)+1) (by omega),Nat.pow_succ]
  congr 3;omega
 ·dsimp only[kA]
  rw[if_neg (by simp)]
theorem Eo{L:Nat}(hL:L≤8)(l:List Int):aF L l=some ((2^L-1:Nat):Int):=by
 have hp:2^L≤2^8:=Nat.pow_le_pow_right (by omega) hL
 have hp0:=Nat.two_pow_pos L
 unfold aF
 rw[show (1:Int)=((1:Nat):Int) from rfl,aAj (k:=L) (by omega) (by omega) rfl,Option.bind_some]
 rw[w64 (by omega)]
 congr 1;omega
section
variable {L:Nat} {ts:List Nat} {s:Nat}
theorem aAL(hr:Reg L ts)(h0:0<s)(hs:s<2^L){n:Nat}(hn:n≤2000):fG L (ints ts) s n=some (btl L ts s n):=by
 unfold fG
 rw[Kb,Option.bind_some]
 dsimp only
 rw[show ([]:List Int)=btl L ts s 0 from rfl]
 have hit:=Kw hr h0 hs (step:=eB n) (fun k=>btl L ts s k) (n:=n) (z:=btl L ts s n) (fun k hk=>?_) ?_
 ·rw[hit];rfl
 ·dsimp only[eB]
  rw[pB,if_neg (by simp only[decide_eq_true_eq];omega)]
  have h8:=hr.most
  have hb:stt L ts s k<2^62:=Nat.lt_of_lt_of_le (rA hr h0 hs k).2 (Nat.pow_le_pow_right (by omega) (by omega))
  rw[Pz hb,rW (by rw[pB];omega) (by omega),Gs]
  rfl
 ·dsimp only[eB]
  rw[pB,if_pos (by simp)]
end
end Go.Rex
namespace Go.Rex
theorem pow8{L:Nat}(h:L≤8):2^L≤256:=Nat.pow_le_pow_right (n:=2) (by omega) h
def sgl(L:Nat)(ts:List Nat)(s n:Nat):List Int:=(List.range n).map fun t=>1-2*((bt L ts s t:Nat):Int)
theorem Vj(L:Nat)(ts:List Nat)(s n:Nat):(sgl L ts s n).length=n:=by simp[sgl]
theorem Ut{step:List Int×Int→Option ((List Int×Int) ⊕ List Int)}{l:List Int}{g:Int→Int}(hs:∀(k:Nat) (a:List Int) x,k<l.length→a.length=l.length→a[k]?=some x→l[k]?=some x→step (a,(k:Int))=some (.inl (a.set k (g x),((k+1:Nat):Int))))(he:∀ a:List Int,a.length=l.length→step (a,(l.length:Int))=some (.inr a)):run step (l,0)=some (l.map g):=by
 have hrun:=cA (step:=step) (e:=l.map g) (fun k=>((l.take k).map g++l.drop k,(k:Int))) (n:=l.length) (fun k hk=>?_) ?_
 ·simpa using hrun
 ·obtain⟨x,hx⟩:∃ x,l[k]?=some x:=⟨_,List.getElem?_eq_getElem hk⟩
  have hd:l.drop k=x::l.drop (k+1):=by
   rw[List.drop_eq_getElem_cons hk]
   rw[List.getElem?_eq_getElem hk] at hx
   rw[Option.some.inj hx]
  have hl:((l.take k).map g).length=k:=by simp;omega
  have hg:((l.take k).map g++l.drop k)[k]?=some x:=by
   rw[List.getElem?_append_right (by omega),hl,Nat.sub_self,hd];rfl
  rw[hs k _ x hk (by simp;omega) hg hx]
  congr 3
  rw[hd,Ck hx,List.map_append,List.append_assoc]
  rw[List.set_append_right _ _ (by omega),hl,Nat.sub_self]
  rfl
 ·rw[List.take_length,List.drop_length,List.append_nil]
  have:=he (l.map g) (by simp)
  exact this
section
variable {L:Nat} {ts:List Nat} {s:Nat}
theorem Yo(L:Nat)(ts:List Nat)(s n:Nat):(btl L ts s n).map (fun b=>1-2*b)=sgl L ts s n:=by
 unfold btl sgl
 rw[List.map_map]
 rfl
theorem aCT(L:Nat)(ts:List Nat)(s t:Nat):bt L ts s t≤1:=by unfold bt;omega
theorem Uu{x:Int}{n:Nat}{k:Nat}(h:(btl L ts s n)[k]?=some x):0≤x∧x≤1:=by
 obtain⟨t,_,rfl⟩:=List.mem_map.1 (List.mem_of_getElem? h)
 have:=aCT L ts s t
 omega
theorem Xd(hr:Reg L ts)(h0:0<s)(hs:s<2^L):cT L (ints ts) s=some (sgl L ts s (2^L-1)):=by
 have hp:=pow8 hr.most
 unfold cT
 rw[Eo hr.most,Option.bind_some,aAL hr h0 hs (by omega),Option.bind_some,Ut (g:=fun b=>1-2*b)]
 ·rw[Yo];rfl
 ·intro k a x hk ha hx hx2
  have hb:=Uu hx2
  dsimp only[dS]
  rw[pB] at hk
  rw[if_pos (by rw[pB];simpa using hk),aL,hx,Option.bind_some,w64 (x:=2*x) (by omega),w64 (x:=1-2*x) (by omega),w64 (x:=(k:Int)+1) (by omega),Int.toNat_natCast]
  rfl
 ·intro a ha
  dsimp only[dS]
  rw[if_neg (by simp)]
end
end Go.Rex
namespace Go.Rex
section
variable {L:Nat} {ts:List Nat} {s:Nat}
theorem tmod2(x:Nat):(x:Int).tmod 2=((x%2:Nat):Int):=by
 rw[Int.tmod_eq_emod_of_nonneg (by omega)];omega
theorem tdiv2(x:Nat):(x:Int).tdiv 2=((x/2:Nat):Int):=by
 rw[Int.tdiv_eq_ediv_of_nonneg (by omega)];omega
theorem Vk(f:Nat→Nat):∀(l:List Nat) (a:Nat),l.foldl (fun a p=>a+f p) a%2=l.foldl (fun a p=>(a+f p)%2) (a%2)
 | [],a=>rfl
 | p::l,a=>by
  simp only[List.foldl_cons]
  rw[Vk f l]
  congr 1
  omega
theorem Zf(f:Nat→Nat)(hf:∀ p,f p≤1):∀(l:List Nat) (a:Nat),l.foldl (fun a p=>a+f p) a≤a+l.length
 | [],a=>by simp
 | p::l,a=>by
  simp only[List.foldl_cons,List.length_cons]
  have:=Zf f hf l (a+f p)
  have:=hf p
  omega
theorem Hq(hr:Reg L ts)(h0:0<s)(hs:s<2^L){n:Nat}(hn:n≤2000):nL L (ints ts) s n=some (btl L ts s n):=by
 have hL2:=hr.two
 have h8:=hr.most
 have hlen:=hr.len
 have hL:2^L≤2^8:=Nat.pow_le_pow_right (by omega) h8
 unfold nL
 have hrun:=cA (step:=jZ L (ints ts) n) (e:=btl L ts s n) (fun t=>(((s/2^(min t L):Nat):Int),btl L ts s t,(t:Int))) (n:=n) (fun t ht=>?_) ?_
 ·rw[show (((s:Nat):Int),([]:List Int),(0:Int))=(((s/2^(min 0 L):Nat):Int),btl L ts s 0,((0:Nat):Int)) by simp[btl],hrun]
  rfl
 ·dsimp only[jZ]
  rw[if_pos (by simpa using ht)]
  by_cases hlt:t<L
  ·rw[if_pos (by simpa using hlt),tmod2,tdiv2]
   have hw:=window hr h0 hs t 0 hlt
   rw[Nat.zero_add] at hw
   rw[show min t L=t by omega,show s/2^t%2=bt L ts s t from hw,rW (by rw[pB];omega) (by omega),Option.bind_some,← Gs,w64 (x:=((s/2^t/2:Nat):Int)) (by have:=Nat.div_le_self s (2^t);have:=Nat.div_le_self (s/2^t) 2;omega),w64 (x:=(t:Int)+1) (by omega)]
   rw[Nat.div_div_eq_div_mul,← Nat.pow_succ,show min (t+1) L=t+1 by omega]
   rfl
  ·rw[if_neg (by simpa using hlt)]
   obtain⟨u,rfl⟩:∃ u,t=u+L:=⟨t-L,by omega⟩
   have hin:=cA (step:=kD (ints ts) (btl L ts s (u+L)) ((u+L:Nat):Int)) (e:=((ts.foldl (fun a p=>a+bt L ts s (u+L-p)) 0:Nat):Int)) (fun k=>((((ts.take k).foldl (fun a p=>a+bt L ts s (u+L-p)) 0:Nat):Int),(k:Int))) (n:=ts.length) (fun k hk=>?_) ?_
   ·rw[show ((0:Int),(0:Int))=((((ts.take 0).foldl (fun a p=>a+bt L ts s (u+L-p)) 0:Nat):Int),((0:Nat):Int)) from rfl,hin,Option.bind_some,tmod2,Vk,← aCo hr h0 hs u,rW (by rw[pB];omega) (by omega),Option.bind_some,← Gs,w64 (x:=((u+L:Nat):Int)+1) (by omega),show min (u+L) L=L by omega,show min (u+L+1) L=L by omega]
    rfl
   ·obtain⟨p,hp⟩:∃ p,ts[k]?=some p:=⟨_,List.getElem?_eq_getElem hk⟩
    have hpm:=hr.le p (List.mem_of_getElem? hp)
    dsimp only[kD]
    rw[if_pos (by simpa using hk),aL,List.getElem?_map,hp,Option.map_some,Option.bind_some,w64 (x:=((u+L:Nat):Int)-(p:Int)) (by omega),tH (k:=u+L-p) (by omega)]
    have hg:(btl L ts s (u+L))[u+L-p]?=some ((bt L ts s (u+L-p):Nat):Int):=by
     unfold btl
     rw[List.getElem?_map,List.getElem?_range (by omega)]
     rfl
    rw[hg,Option.bind_some,Ck hp,List.foldl_append]
    have hle:=Zf (fun p=>bt L ts s (u+L-p)) (fun p=>by unfold bt;omega) (ts.take k) 0
    rw[List.length_take] at hle
    have hb1:bt L ts s (u+L-p)≤1:=by unfold bt;omega
    rw[w64 (x:=(((ts.take k).foldl (fun a p=>a+bt L ts s (u+L-p)) 0:Nat):Int)+((bt L ts s (u+L-p):Nat):Int)) (by omega),w64 (x:=(k:Int)+1) (by omega)]
    congr 3
   ·dsimp only[kD]
    rw[if_neg (by simp),List.take_length]
 ·dsimp only[jZ]
  rw[if_neg (by simp)]
theorem Hk(hr:Reg L ts)(h0:0<s)(hs:s<2^L):nU L (ints ts) s=some ((nx L ts s:Nat):Int):=by
 have hL2:=hr.two
 have h8:=hr.most
 have hL:2^L≤2^8:=Nat.pow_le_pow_right (by omega) h8
 have hx:=aBk (L:=L) (ts:=ts) (s:=s) (by omega) hs
 unfold nU
 have hw:IntKind.i64.wrap ((L:Int)+1)=((L+1:Nat):Int):=by rw[w64 (by omega)];omega
 rw[hw,Hq hr h0 hs (by omega),Option.bind_some]
 have hrun:=cA (step:=jW (btl L ts s (L+1))) (e:=((nx L ts s:Nat):Int)) (fun j=>(((nx L ts s/2^(L-j):Nat):Int),(((L-j:Nat)):Int))) (n:=L) (fun j hj=>?_) ?_
 ·rw[show ((0:Int),(L:Int))=(((nx L ts s/2^(L-0):Nat):Int),(((L-0:Nat)):Int)) by rw[Nat.sub_zero,Nat.div_eq_of_lt hx];rfl,hrun]
  rfl
 ·dsimp only[jW]
  obtain⟨k,hk⟩:∃ k,L-j=k+1:=⟨L-j-1,by omega⟩
  rw[show L-(j+1)=k by omega,hk,if_pos (by simp;omega),aL]
  have hg:(btl L ts s (L+1))[k+1]?=some ((bt L ts s (k+1):Nat):Int):=by
   unfold btl
   rw[List.getElem?_map,List.getElem?_range (by omega)]
   rfl
  rw[hg,Option.bind_some]
  have hwin:=window hr h0 hs k 1 (by omega)
  have hstt:stt L ts s 1=nx L ts s:=rfl
  rw[hstt,Nat.add_comm 1 k] at hwin
  have hd:nx L ts s/2^k=2*(nx L ts s/2^(k+1))+bt L ts s (k+1):=by
   rw[← hwin,Nat.pow_succ,← Nat.div_div_eq_div_mul]
   omega
  have hb:=Nat.div_le_self (nx L ts s) (2^k)
  rw[w64 (x:=2*((nx L ts s/2^(k+1):Nat):Int)) (by omega),w64 (x:=2*((nx L ts s/2^(k+1):Nat):Int)+((bt L ts s (k+1):Nat):Int)) (by omega),w64 (x:=((k+1:Nat):Int)-1) (by omega),hd]
  congr 3
  omega
 ·dsimp only[jW]
  rw[if_neg (by simp),Nat.sub_self,Nat.pow_zero,Nat.div_one]
theorem Li(hr:Reg L ts)(h0:0<s)(hs:s<2^L){n:Nat}(hp:Ke L ts s n)(hn:n≤2^L-1):nC L (ints ts) s=some (n:Int):=by
 obtain⟨⟨h1,h2⟩,h3⟩:=hp
 have h8:=hr.most
 have hL:2^L≤2^8:=Nat.pow_le_pow_right (by omega) h8
 unfold nC
 rw[Hk hr h0 hs,Option.bind_some]
 obtain⟨m,rfl⟩:∃ m,n=m+1:=⟨n-1,by omega⟩
 have hrun:=cA (step:=hU L (ints ts) s) (e:=((m+1:Nat):Int)) (fun k=>(((k+1:Nat):Int),((stt L ts s (k+1):Nat):Int))) (n:=m) (fun k hk=>?_) ?_
 ·rw[show ((1:Int),((nx L ts s:Nat):Int))=(((0+1:Nat):Int),((stt L ts s (0+1):Nat):Int)) from rfl,hrun]
  rfl
 ·dsimp only[hU]
  have:=h3 (k+1) (by omega)
  obtain⟨a,b⟩:=rA hr h0 hs (k+1)
  rw[if_pos (by simp only[decide_eq_true_eq];intro e;exact this ⟨by omega,by omega⟩),Hk hr a b,Option.bind_some,w64 (by omega)]
  congr 3
 ·dsimp only[hU]
  rw[h2,if_neg (by simp)]
end
end Go.Rex
namespace Go.Rex
section
variable {L:Nat} {ts:List Nat} {s:Nat}
theorem Vo(hr:Reg L ts)(h0:0<s)(hs:s<2^L):jF L (ints ts) s=some (sgl L ts s (2^L-1)):=by
 have hp:=pow8 hr.most
 unfold jF
 rw[Es hr.most,Option.bind_some,Hq hr h0 hs (by omega),Option.bind_some,Ut (g:=fun b=>1-2*b)]
 ·rw[Yo];rfl
 ·intro k a x hk ha hx hx2
  have hb:=Uu hx2
  dsimp only[kU]
  rw[ha]
  rw[pB] at hk
  rw[if_pos (by rw[pB];simpa using hk),aL,hx,Option.bind_some,w64 (x:=2*x) (by omega),w64 (x:=1-2*x) (by omega),w64 (x:=(k:Int)+1) (by omega),Int.toNat_natCast]
  rfl
 ·intro a ha
  dsimp only[kU]
  rw[ha,if_neg (by simp)]
end
end Go.Rex
namespace Go.Rex
theorem Cz{L:Nat}{l:List Int}(s:Int)(hl:l.length≤12)(h:chk L l=0)(hL:L≤8):eH L l s=some (if 1≤s∧s≤((2^L-1:Nat):Int) then 0 else 2):=by
 unfold eH
 rw[Uo _ _ hl,h,Option.bind_some,if_neg (by simp),Es hL,Option.bind_some,Bq,Option.bind_some]
 by_cases q:1≤s∧s≤((2^L-1:Nat):Int)
 ·rw[if_pos (by simpa using q),if_pos q]
 ·rw[if_neg (by simpa using q),if_neg q]
theorem Dc{L:Nat}(l:List Int)(s:Int)(hL:L≤8):aT s L l=some (if 1≤s∧s≤((2^L-1:Nat):Int) then 0 else 2):=by
 unfold aT
 rw[Eo hL,Option.bind_some,zC,Option.bind_some]
 dsimp only
 rw[kV,Option.bind_some]
 by_cases q:1≤s∧s≤((2^L-1:Nat):Int)
 ·rw[if_pos q,show decide (1≤s∧s≤((2^L-1:Nat):Int))=true by simpa using q];rfl
 ·rw[if_neg q,show decide (1≤s∧s≤((2^L-1:Nat):Int))=false by simpa using q];rfl
end Go.Rex
namespace Go.Rex
open Go Go.Rex
set_option maxRecDepth 100000
def fo(w:List (Int×Int))(N:Nat):Nat→List (Int×Int)
 | 0=>List.replicate N (0,0)
 | t+1=>(fo w N t).set (t%N) (zadd (at0 (fo w N t) (t%N)) (at0 w t))
section
variable {W:List (Int×Int)} {S:List Int}
end
end Go.Rex
namespace Go.Rex
open Go Go.Rex
set_option maxRecDepth 100000
section
variable {W:List (Int×Int)} {S:List Int}
end
end Go.Rex
namespace Go.Rex
open Go Go.Rex
set_option maxRecDepth 100000
section
variable {W:List (Int×Int)} {S:List Int}
end
end Go.Rex
namespace Go.Rex
section
variable {L:Nat} {ts:List Nat}
theorem Sk(hr:Reg L ts):1<2^L:=by
 have h1:2^1≤2^L:=Nat.pow_le_pow_right (by omega) (by have:=hr.two;omega)
 omega
end
end Go.Rex
namespace Go.Rex
open Go Go.Rex
set_option maxRecDepth 100000
section
variable {L:Nat} {ts:List Nat} {s:Nat}
end
end Go.Rex
namespace Go.Rex
open Go Go.Rex
set_option maxRecDepth 100000
section
variable {L:Nat} {ts:List Nat} {s:Nat}
theorem aCE(hr:Reg L ts){n:Nat}(hp:Ke L ts 1 n)(hn:n≤2^L-1):cY L (ints ts)=some (if n=2^L-1 then 0 else 22):=by
 unfold cY eU aD aA
 have:=Vq hr (s:=1) (by omega) (Sk hr) hp hn
 rw[show (1:Int)=((1:Nat):Int) from rfl,this,Option.bind_some,Eo hr.most,Option.bind_some]
 by_cases h:n=2^L-1
 ·simp[h]
 ·have h':¬((n:Int)=((2^L-1:Nat):Int)):=by omega
  rw[decide_eq_false h',if_neg h]
  simp
theorem aCV(hr:Reg L ts){n:Nat}(hp:Ke L ts 1 n)(hn:n≤2^L-1):hZ L (ints ts)=some (decide (n=2^L-1)):=by
 unfold hZ
 have:=Li hr (s:=1) (by omega) (Sk hr) hp hn
 rw[show (1:Int)=((1:Nat):Int) from rfl,this,Option.bind_some,Es hr.most,Option.bind_some]
 by_cases h:n=2^L-1
 ·simp[h]
 ·have h':¬((n:Int)=((2^L-1:Nat):Int)):=by omega
  rw[decide_eq_false h,decide_eq_false h']
end
end Go.Rex
namespace Go.Rex
open Go Go.Rex
set_option maxRecDepth 100000
theorem Qv{α β ε:Type}(g:α→β)(fin:List β→ε):∀(l:List α) (b:List β),walk (fun b z=>(.inl (b++[g z]):List β ⊕ ε)) fin b l=fin (b++l.map g)
 | [],b=>by simp[walk]
 | z::l,b=>by
  simp only[walk]
  rw[Qv g fin l]
  simp
theorem Ks{α β γ ε:Type}(g:α→β)(h:α→γ)(fin:List β×List γ→ε):∀(l:List α) (b:List β×List γ),walk (fun b z=>(.inl (b.1++[g z],b.2++[h z]):List β×List γ ⊕ ε)) fin b l=fin (b.1++l.map g,b.2++l.map h)
 | [],b=>by simp[walk]
 | z::l,b=>by
  simp only[walk]
  rw[Ks g h fin l]
  simp
noncomputable def nr(x:Int):Nat:=FloatKind.f32.nearest x
theorem get01(a b:Int):aH [a,b] 0=some a∧aH [a,b] 1=some b:=by
 exact⟨aL (xs:=[a,b]) (k:=0),aL (xs:=[a,b]) (k:=1)⟩
theorem Uh(W:List (Int×Int))(lW:W.length≤1024):fR W 0=some (W.map (·.1))∧fR W 1=some (W.map (·.2)):=by
 have step:∀(i:Int) (g:Int×Int→Int),(∀ z:Int×Int,aH [z.1,z.2] i=some (g z))→fR W i=some (W.map g):=by
  intro i g hg
  have key:=Pq (step:=jY W i) (fun k (b:List Int)=>(b,(k:Int))) (fun b z=>(.inl (b++[g z]):List Int ⊕ List Int)) (fun b=>b) (fun k b=>b.length=k) W
   (fun k z b hz hb=>by
    have hk:=(List.getElem?_eq_some_iff.1 hz).1
    refine⟨?_,fun b' hb'=>by obtain rfl:=Sum.inl.inj hb';simp[hb]⟩
    unfold jY
    simp only
    rw[if_pos (by rw[decide_eq_true_eq];omega),aL,hz,Option.bind_some]
    try simp only
    rw[hg,Option.bind_some]
    unfold iT
    rw[if_pos (by simp;omega),Option.bind_some,wsucc (n:=1024) (by omega) (by decide)])
   (fun b hb=>by
    unfold jY
    simp only
    rw[if_neg (by rw[decide_eq_true_eq];omega)]) (b0:=[]) rfl
  rw[Qv] at key
  simp only[Int.natCast_zero,List.nil_append] at key
  unfold fR
  rw[key,Option.bind_some]
 exact⟨step 0 _ fun z=>(get01 _ _).1,step 1 _ fun z=>(get01 _ _).2⟩
def mx{α:Type}(old new:Nat→α)(m k:Nat):List α:=(List.range m).map fun i=>if i<k then new i else old i
section
variable {α:Type} {old new:Nat→α} {m:Nat}
theorem Td(k:Nat):(mx old new m k).length=m:=by unfold mx;simp
theorem Qo(k:Nat){i:Nat}(hi:i<m):(mx old new m k)[i]?=some (if i<k then new i else old i):=by
 unfold mx
 rw[List.getElem?_map,List.getElem?_range hi]
 rfl
theorem tD{k:Nat}(hk:k<m):(mx old new m k)[k]?=some (old k):=by rw[Qo k hk,if_neg (by omega)]
theorem yH{k:Nat}(hk:k<m):(mx old new m k).set k (new k)=mx old new m (k+1):=by
 apply List.ext_getElem?
 intro i
 rw[List.getElem?_set,Td]
 by_cases hi:i<m
 ·rw[Qo (k+1) hi]
  by_cases q:k=i
  ·subst q
   rw[if_pos rfl,if_pos hi,if_pos (by omega)]
  ·rw[if_neg q,Qo k hi]
   by_cases c:i<k
   ·rw[if_pos c,if_pos (by omega)]
   ·rw[if_neg c,if_neg (by omega)]
 ·have hn2:∀ j,(mx old new m j)[i]?=none:=fun j=>List.getElem?_eq_none (by rw[Td];omega)
  rw[hn2,hn2,if_neg (by omega)]
theorem wU:mx old new m 0=(List.range m).map old:=by
 unfold mx
 apply List.map_congr_left
 intro i _
 rw[if_neg (by omega)]
theorem zR:mx old new m m=(List.range m).map new:=by
 unfold mx
 apply List.map_congr_left
 intro i hi
 rw[List.mem_range] at hi
 rw[if_pos hi]
end
theorem aBd{α:Type}(z:α)(m:Nat):List.replicate m z=(List.range m).map fun _=>z:=by
 apply List.ext_getElem?
 intro i
 by_cases hi:i<m
 ·rw[List.getElem?_replicate,if_pos hi,List.getElem?_map,List.getElem?_range hi];rfl
 ·rw[List.getElem?_eq_none (by simp;omega),List.getElem?_eq_none (by simp;omega)]
section
variable {v:List (List (Nat×Nat))} {m:Nat} (hv:∀ l∈v,GoodL l∧l.length=m) (lv:1≤v.length∧v.length≤32) (lm:m≤1024)
include hv lv
include lm
end
theorem aBj(x:Option (List (Nat×Nat)×Int)):(x.bind fun (a,b)=>some (a,b))=x:=by cases x<;>rfl
theorem aB9(m:Nat)(h:m≤1024):mkI 16 (m:Int) ((0,0):Int×Int)=some (List.replicate m (0,0)):=by
 unfold mkI
 rw[if_pos (by omega)]
 rfl
end Go.Rex
namespace Go.Rex
def Pr(p:Nat):Prop:=2≤p∧∀ q,q ∣ p→q=1∨q=p
theorem Pr.coprime{p a:Nat}(h:Pr p)(ha:¬ p ∣ a):Nat.Coprime p a:=by
 rcases h.2 _ (Nat.gcd_dvd_left p a) with h1|h1
 ·exact h1
 ·exact absurd (h1 ▸ Nat.gcd_dvd_right p a) ha
theorem Pr.dvd_mul{p a b:Nat}(h:Pr p)(hd:p ∣ a*b):p ∣ a∨p ∣ b:=by
 rcases Nat.decEq (a%p) 0 with hn|hn
 ·right
  exact (h.coprime (fun hh=>hn (Nat.mod_eq_zero_of_dvd hh))).dvd_of_dvd_mul_left hd
 ·exact .inl (Nat.dvd_of_mod_eq_zero hn)
theorem Pr.dvd_pow{p a:Nat}(h:Pr p):∀ {n:Nat},p ∣ a^n→p ∣ a
 | 0,hd=>by
  have:=Nat.le_of_dvd (by simp) hd
  have:=h.1
  simp at *
  omega
 | n+1,hd=>by
  rw[Nat.pow_succ] at hd
  rcases h.dvd_mul hd with h1|h1
  ·exact h.dvd_pow h1
  ·exact h1
def jB(f:Nat→Nat):Nat→Nat
 | 0=>0
 | n+1=>jB f n+f n
theorem Pm(f g:Nat→Nat):∀ n,jB (fun k=>f k+g k) n=jB f n+jB g n
 | 0=>rfl
 | n+1=>by simp only[jB,Pm f g n];omega
theorem Ra(f:Nat→Nat)(a:Nat):∀ n,jB (fun k=>a*f k) n=a*jB f n
 | 0=>rfl
 | n+1=>by simp only[jB,Ra f a n,Nat.mul_add]
theorem sW(f:Nat→Nat):∀ n,jB f (n+1)=f 0+jB (fun k=>f (k+1)) n
 | 0=>by simp[jB]
 | n+1=>by
  have:=sW f n
  simp only[jB] at *
  omega
theorem Ew{f g:Nat→Nat}:∀ n,(∀ k,k<n→f k=g k)→jB f n=jB g n
 | 0,_=>rfl
 | n+1,h=>by simp only[jB];rw[Ew n (fun k hk=>h k (by omega)),h n (by omega)]
theorem Pp{f:Nat→Nat}{p:Nat}:∀ n,(∀ k,k<n→p ∣ f k)→p ∣ jB f n
 | 0,_=>⟨0,rfl⟩
 | n+1,h=>by simp only[jB];exact Nat.dvd_add (Pp n fun k hk=>h k (by omega)) (h n (by omega))
def choose':Nat→Nat→Nat
 | _,0=>1
 | 0,_+1=>0
 | n+1,k+1=>choose' n k+choose' n (k+1)
theorem vB(n:Nat):choose' n 0=1:=by cases n<;>rfl
theorem wV:∀ {n k:Nat},n<k→choose' n k=0
 | 0,k+1,_=>rfl
 | n+1,k+1,h=>by simp only[choose'];rw[wV (by omega),wV (by omega)]
theorem Dk:∀ n,choose' n n=1
 | 0=>rfl
 | n+1=>by simp only[choose'];rw[Dk n,wV (by omega)]
theorem nY:∀ n k,(k+1)*choose' (n+1) (k+1)=(n+1)*choose' n k
 | 0,0=>by simp[choose']
 | 0,k+1=>by simp[choose']
 | n+1,0=>by
  have:=nY n 0
  simp only[choose',vB] at *
  omega
 | n+1,k+1=>by
  have h1:=nY n (k+1)
  have h2:=nY n k
  have e:choose' (n+2) (k+2)=choose' (n+1) (k+1)+choose' (n+1) (k+2):=rfl
  have e2:choose' (n+1) (k+1)=choose' n k+choose' n (k+1):=rfl
  rw[show k+1+1=k+2 from rfl,show n+1+1=n+2 from rfl] at *
  rw[e,Nat.mul_add,h1,show (k+2)*choose' (n+1) (k+1)=(k+1)*choose' (n+1) (k+1)+choose' (n+1) (k+1) by rw[show k+2=(k+1)+1 from rfl,Nat.add_mul,Nat.one_mul],h2,show (n+2)*choose' (n+1) (k+1)=(n+1)*choose' (n+1) (k+1)+choose' (n+1) (k+1) by rw[show n+2=(n+1)+1 from rfl,Nat.add_mul,Nat.one_mul]]
  have:(n+1)*choose' (n+1) (k+1)=(n+1)*choose' n k+(n+1)*choose' n (k+1):=by rw[e2,Nat.mul_add]
  omega
theorem binom(a:Nat):∀ n,(a+1)^n=jB (fun k=>choose' n k*a^k) (n+1)
 | 0=>by simp[jB,choose']
 | n+1=>by
  rw[Nat.pow_succ,binom a n,sW (fun k=>choose' (n+1) k*a^k)]
  have e:∀ k,choose' (n+1) (k+1)*a^(k+1)=a*(choose' n k*a^k)+choose' n (k+1)*a^(k+1):=by
   intro k
   show (choose' n k+choose' n (k+1))*a^(k+1)=_
   rw[Nat.add_mul,Nat.pow_succ,Nat.mul_comm (a^k) a,Nat.mul_left_comm]
  rw[Ew _ fun k _=>e k,Pm,Ra]
  have s:=sW (fun k=>choose' n k*a^k) (n+1)
  have z:jB (fun k=>choose' n k*a^k) (n+1+1)=jB (fun k=>choose' n k*a^k) (n+1):=by
   show jB _ (n+1)+choose' n (n+1)*a^(n+1)=_
   rw[wV (by omega)]
   omega
  rw[z] at s
  simp only[vB,Nat.pow_zero,Nat.mul_one] at *
  rw[Nat.mul_add,Nat.mul_one,Nat.mul_comm _ a]
  omega
theorem Pr.choose{p k:Nat}(h:Pr p)(h1:0<k)(h2:k<p):p ∣ choose' p k:=by
 obtain⟨j,rfl⟩:∃ j,k=j+1:=⟨k-1,by omega⟩
 obtain⟨n,rfl⟩:∃ n,p=n+1:=⟨p-1,by omega⟩
 have:=nY n j
 rcases h.dvd_mul (a:=j+1) (b:=choose' (n+1) (j+1)) ⟨choose' n j,this⟩ with h3|h3
 ·exact absurd (Nat.le_of_dvd (by omega) h3) (by omega)
 ·exact h3
theorem Pr.fermat{p:Nat}(h:Pr p):∀ a,a^p%p=a%p
 | 0=>by
  have:=h.1
  rw[Nat.zero_pow (by omega)]
 | a+1=>by
  have ih:=h.fermat a
  rw[binom]
  obtain⟨n,rfl⟩:∃ n,p=n+1:=⟨p-1,by have:=h.1;omega⟩
  show (jB _ (n+1)+choose' (n+1) (n+1)*a^(n+1))%(n+1)=_
  rw[sW,Dk,vB]
  obtain⟨c,hc⟩:=Pp (p:=n+1) (f:=fun k=>choose' (n+1) (k+1)*a^(k+1)) n (fun k hk=>Nat.dvd_mul_right_of_dvd (h.choose (by omega) (by omega)) _)
  rw[hc,Nat.pow_zero,Nat.one_mul,Nat.one_mul,Nat.add_right_comm,Nat.add_mul_mod_self_left,Nat.add_mod,ih,← Nat.add_mod,Nat.add_comm]
theorem Pr.fermat1{p a:Nat}(h:Pr p)(ha:¬ p ∣ a):a^(p-1)%p=1:=by
 have h1:=h.1
 have hf:=h.fermat a
 obtain⟨n,rfl⟩:∃ n,p=n+1:=⟨p-1,by omega⟩
 rw[Nat.add_sub_cancel]
 have hpos:0<a^n:=Nat.pow_pos (Nat.pos_of_ne_zero fun h=>ha (h ▸ Nat.dvd_zero _))
 have:(n+1) ∣ a*(a^n-1):=by
  rw[Nat.mul_sub,Nat.mul_one,Nat.mul_comm,← Nat.pow_succ]
  exact Nat.dvd_of_mod_eq_zero (Nat.sub_mod_eq_zero_of_mod_eq hf)
 rcases h.dvd_mul this with h2|h2
 ·exact absurd h2 ha
 ·obtain⟨c,hc⟩:=h2
  rw[show a^n=1+(n+1)*c by omega,Nat.add_mul_mod_self_left]
  exact Nat.mod_eq_of_lt (by omega)
structure Ord(p a n:Nat):Prop where
 pos:0<n
 one:a^n%p=1
 least:∀ m,0<m→m<n→a^m%p≠1
theorem qQ{p a n:Nat}(hp:2≤p)(h:a^n%p=1)(k:Nat):a^(n*k)%p=1:=by
 rw[Nat.pow_mul,Nat.pow_mod,h,Nat.one_pow]
 exact Nat.mod_eq_of_lt (by omega)
theorem Ord.dvd{p a n m:Nat}(hp:2≤p)(h:Ord p a n)(hm:a^m%p=1):n ∣ m:=by
 have hlt:=Nat.mod_lt m h.pos
 have e:a^(m%n)%p=1:=by
  have h1:a^m=a^(n*(m/n))*a^(m%n):=by rw[← Nat.pow_add,Nat.div_add_mod]
  rw[h1,Nat.mul_mod,qQ hp h.one,Nat.one_mul,Nat.mod_mod] at hm
  exact hm
 rcases Nat.eq_zero_or_pos (m%n) with h0|h0
 ·exact Nat.dvd_of_mod_eq_zero h0
 ·exact absurd e (h.least _ h0 hlt)
theorem Ord.iff{p a n m:Nat}(hp:2≤p)(h:Ord p a n):a^m%p=1↔n ∣ m:=
 ⟨h.dvd hp,fun ⟨k,hk⟩=>hk ▸ qQ hp h.one k⟩
theorem Ord.of_iff{p a n:Nat}(hn:0<n)(h:∀ m,a^m%p=1↔n ∣ m):Ord p a n:=
 ⟨hn,(h n).2 (Nat.dvd_refl n),fun m h1 h2 h3=>by have:=Nat.le_of_dvd h1 ((h m).1 h3);omega⟩
theorem Rv{p a n:Nat}(hn:0<n)(h:a^n%p=1):∃ m,Ord p a m:=by
 induction n using Nat.strongRecOn with
 | _ n ih =>
  refine Classical.byContradiction fun hc=>?_
  refine hc ⟨n,hn,h,fun m h1 h2 h3=>hc (ih m h2 h1 h3)⟩
theorem rC{m:Nat}(hm:2≤m):∃ q,Pr q∧q ∣ m:=by
 induction m using Nat.strongRecOn with
 | _ m ih =>
  refine Classical.byContradiction fun hc=>?_
  refine hc ⟨m,⟨hm,fun q hq=>?_⟩,Nat.dvd_refl m⟩
  have hle:=Nat.le_of_dvd (by omega) hq
  have hpos:0<q:=Nat.pos_of_dvd_of_pos hq (by omega)
  refine Classical.byContradiction fun hn=>?_
  rw[not_or] at hn
  obtain⟨r,hr,hd⟩:=ih q (by omega) (by omega)
  exact hc ⟨r,hr,Nat.dvd_trans hd hq⟩
theorem Xc{q:Nat}(hq:2≤q):∀ m,0<m→∃ k m',m=q^k*m'∧¬ q ∣ m':=by
 intro m
 induction m using Nat.strongRecOn with
 | _ m ih =>
  intro hm
  rcases Nat.decEq (m%q) 0 with h|h
  ·exact⟨0,m,by simp,fun hd=>h (Nat.mod_eq_zero_of_dvd hd)⟩
  ·obtain⟨c,rfl⟩:=Nat.dvd_of_mod_eq_zero h
   have hc:0<c:=Nat.pos_of_mul_pos_left hm
   obtain⟨k,m',e,hn⟩:=ih c (by have:=Nat.mul_le_mul_right c hq;omega) hc
   exact⟨k+1,m',by rw[Nat.pow_succ,Nat.mul_comm (q^k) q,Nat.mul_assoc,← e],hn⟩
theorem Fd{P:Nat→Prop}(h:∃ n,P n):∃ n,P n∧∀ m,m<n→¬ P m:=by
 obtain⟨n,hn⟩:=h
 induction n using Nat.strongRecOn with
 | _ n ih =>
  refine Classical.byContradiction fun hc=>hc ⟨n,hn,fun m hm hP=>hc (ih m hm hP)⟩
def trial(n q:Nat):Prop:=n<q*q∨q ∣ n
theorem Pk{n q:Nat}(hn:2≤n)(hq:2≤q)(h:∀ r,2≤r→r<q→¬ trial n r)(ht:trial n q):n<q*q↔Pr n:=by
 constructor
 ·intro hlt
  refine⟨hn,fun d hd=>Classical.byContradiction fun hc=>?_⟩
  rw[not_or] at hc
  obtain⟨e,he⟩:=hd
  have hd0:d≠0:=fun h0=>by rw[h0] at he;omega
  have he0:e≠0:=fun h0=>by rw[h0] at he;omega
  have he1:e≠1:=fun h1=>by rw[h1] at he;omega
  have key:d<q∨e<q:=by
   refine Classical.byContradiction fun hh=>?_
   rw[not_or] at hh
   have:=Nat.mul_le_mul (show q≤d by omega) (show q≤e by omega)
   omega
  rcases key with hk|hk
  ·exact h d (by omega) hk (.inr ⟨e,he⟩)
  ·exact h e (by omega) hk (.inr ⟨d,by rw[he,Nat.mul_comm]⟩)
 ·intro hp
  rcases ht with h1|h1
  ·exact h1
  ·rcases hp.2 q h1 with h2|h2
   ·omega
   ·subst h2
    have:=Nat.mul_le_mul_right q hq
    omega
theorem Vt{n:Nat}(hn:2≤n)(hm:n≤2147483647):∃ e,run (eD n) 2=some e∧((∃ u,e = .inr u)↔Pr n):=by
 obtain⟨m,hP,hl⟩:=Fd (P:=fun k=>trial n (2+k)) ⟨n,.inl (by have:=Nat.mul_le_mul_right (2+n) (show 1≤2+n by omega);omega)⟩
 have small:∀ k,k≤m→(2+k)*(2+k)≤4294967296:=by
  intro k hk
  rcases Nat.eq_zero_or_pos k with h0|h0
  ·subst h0;decide
  ·have h1:=hl (k-1) (by omega)
   have h2:¬ n<(2+(k-1))*(2+(k-1)):=fun hh=>h1 (.inl hh)
   have h3:2+(k-1)<65536:=by
    refine Classical.byContradiction fun hc=>?_
    have:=Nat.mul_le_mul (show 65536≤2+(k-1) by omega) (show 65536≤2+(k-1) by omega)
    omega
   have:=Nat.mul_le_mul (show 2+k≤65536 by omega) (show 2+k≤65536 by omega)
   omega
 have hc:=Pk hn (q:=2+m) (by omega) (fun r h1 h2=>by have:=hl (r-2) (by omega);rwa [show 2+(r-2)=r by omega] at this) hP
 have sq:∀ k,k≤m→IntKind.i64.wrap (((2+k:Nat):Int)*((2+k:Nat):Int))=(((2+k)*(2+k):Nat):Int):=by
  intro k hk
  have:=small k hk
  rw[← Int.natCast_mul,w64 (by omega)]
 have step:∀ k,k<m→eD n ((2+k:Nat):Int)=some (.inl ((2+(k+1):Nat):Int)):=by
  intro k hk
  have h1:=hl k hk
  have h2:(2+k)*(2+k)≤n:=Nat.le_of_not_lt fun hh=>h1 (.inl hh)
  have h3:¬(2+k) ∣ n:=fun hh=>h1 (.inr hh)
  have hs:=small k (by omega)
  have hk2:2+k≤(2+k)*(2+k):=Nat.le_mul_of_pos_left _ (by omega)
  unfold eD
  rw[sq k (by omega),if_pos (by rw[decide_eq_true_eq];exact Int.ofNat_le.2 h2),if_neg (by omega),if_neg,w64 (by omega)]
  ·simp;omega
  ·rw[Int.tmod_eq_emod_of_nonneg (by omega)]
   simp only[decide_eq_true_eq]
   intro hh
   exact h3 (Nat.dvd_of_mod_eq_zero (by omega))
 by_cases hlast:n<(2+m)*(2+m)
 ·refine⟨.inr (),cA (fun k=>((2+k:Nat):Int)) (n:=m) step ?_,⟨fun _=>hc.1 hlast,fun _=>⟨(),rfl⟩⟩⟩
  unfold eD
  rw[sq m (Nat.le_refl _),if_neg (by rw[decide_eq_true_eq,Int.ofNat_le];exact Nat.not_le.2 hlast)]
 ·have hd:(2+m) ∣ n:=hP.resolve_left hlast
  refine⟨.inl (),cA (fun k=>((2+k:Nat):Int)) (n:=m) step ?_,(by constructor;(rintro⟨u,hu⟩;cases hu);(intro hp;exact absurd (hc.2 hp) hlast))⟩
  unfold eD
  rw[sq m (Nat.le_refl _),if_pos (by rw[decide_eq_true_eq,Int.ofNat_le];exact Nat.le_of_not_lt hlast),if_neg (by omega),if_pos]
  rw[Int.tmod_eq_emod_of_nonneg (by omega)]
  have:=Nat.mod_eq_zero_of_dvd hd
  simp only[decide_eq_true_eq]
  omega
theorem Fu{n:Nat}(hn:2≤n)(hm:n≤2147483647):∃ b,lP n=some b∧lM n=some b∧(b=true↔Pr n):=by
 obtain⟨e,he,hp⟩:=Vt hn hm
 have he2:run (lD n) 2=some e:=he
 unfold lP lM
 rw[he,he2,if_neg (by simp;omega)]
 cases e with
 | inl u=>exact⟨false,rfl,rfl,(by constructor;(intro h;cases h);(intro h;obtain⟨u,hu⟩:=hp.2 h;cases hu))⟩
 | inr u=>exact⟨true,rfl,rfl,⟨fun _=>hp.1 ⟨u,rfl⟩,fun _=>rfl⟩⟩
theorem Qm(x n:Nat):x^n=(x*x)^(n/2)*x^(n%2):=by
 have e:x*x=x^2:=by rw[Nat.pow_succ,Nat.pow_one]
 rw[e,← Nat.pow_mul,← Nat.pow_add,Nat.div_add_mod]
theorem rU{a b p:Nat}(ha:a<2147483648)(hb:b<2147483648):(IntKind.i64.wrap ((a:Int)*(b:Int))).tmod (p:Int)=((a*b%p:Nat):Int):=by
 have:=Nat.mul_le_mul (Nat.le_of_lt ha) (Nat.le_of_lt hb)
 rw[← Int.natCast_mul,w64 (by omega),Int.tmod_eq_emod_of_nonneg (by omega)]
 simp
theorem Sm{p:Nat}(hp:0<p)(hp2:p≤2147483647):∀(n x o:Nat),x<2147483648→o<p→n≤2147483648→run (gN p) ((x:Int),(n:Int),(o:Int))=some ((o*x^n%p:Nat):Int):=by
 intro n
 induction n using Nat.strongRecOn with
 | _ n ih =>
  intro x o hx ho hn
  rcases Nat.eq_zero_or_pos n with h0|h0
  ·subst h0
   refine iH ?_
   unfold gN
   simp only[]
   rw[if_neg (by simp),Nat.pow_zero,Nat.mul_one,Nat.mod_eq_of_lt ho]
  ·have hxx:x*x%p<2147483648:=by have:=Nat.mod_lt (x*x) hp;omega
   have ih2:=ih (n/2) (by omega) (x*x%p)
   have ediv:IntKind.i64.wrap ((n:Int).tdiv 2)=((n/2:Nat):Int):=by
    rw[Int.tdiv_eq_ediv_of_nonneg (by omega),w64 (by omega)];omega
   have emod:(n:Int).tmod 2=((n%2:Nat):Int):=by rw[Int.tmod_eq_emod_of_nonneg (by omega)];omega
   have hpw:=Qm x n
   rcases Nat.mod_two_eq_zero_or_one n with h2|h2
   ·have:=ih2 o hxx ho (by omega)
    rw[kR (s':=(((x*x%p:Nat):Int),((n/2:Nat):Int),(o:Int))),this]
    ·rw[hpw,h2,Nat.pow_zero,Nat.mul_one,Nat.mul_mod,← Nat.pow_mod,← Nat.mul_mod]
    ·unfold gN
     simp only[]
     rw[if_pos (by simp;omega),if_neg (by rw[emod,h2];simp),rU hx hx,ediv]
   ·have ho2:o*x%p<p:=Nat.mod_lt _ hp
    have:=ih2 (o*x%p) hxx ho2 (by omega)
    rw[kR (s':=(((x*x%p:Nat):Int),((n/2:Nat):Int),((o*x%p:Nat):Int))),this]
    ·rw[hpw,h2,Nat.pow_one,Nat.mul_mod,Nat.mod_mod,← Nat.pow_mod,← Nat.mul_mod,Nat.mul_right_comm,Nat.mul_assoc]
    ·unfold gN
     simp only[]
     rw[if_pos (by simp;omega),if_pos (by rw[emod,h2];simp),rU hx hx,ediv,rU (by omega) hx]
theorem zE{p:Nat}(hp:2≤p):(1:Int).tmod (p:Int)=1:=by
 rw[Int.tmod_eq_emod_of_nonneg (by omega)]
 exact Int.emod_eq_of_lt (by omega) (by omega)
theorem Mr{p n x:Nat}(hp:2≤p)(hp2:p≤2147483647)(hx:x<2147483648)(hn:n≤2147483648):gB x n p=some ((x^n%p:Nat):Int):=by
 unfold gB
 rw[if_neg (by omega),zE hp]
 have:=Sm (by omega) hp2 n x 1 hx (by omega) hn
 rw[Nat.one_mul] at this
 rw[show ((1:Nat):Int)=(1:Int) from rfl] at this
 rw[this]
 rfl
theorem mC{p a b:Nat}(v2 v3:Int)(hp:0<p)(ha:a<2147483648)(hb:b<2147483648):aU p v2 v3 a b=some ((a*b%p:Nat):Int):=by
 unfold aU
 rw[if_neg (by omega),rU ha hb]
theorem Sn{p:Nat}(v2 v3:Int)(hp:0<p)(hp2:p≤2147483647):∀(n x o:Nat),x<2147483648→o<p→n≤2147483648→run (dC p v2 v3) ((x:Int),(n:Int),(o:Int))=some ((o*x^n%p:Nat):Int):=by
 intro n
 induction n using Nat.strongRecOn with
 | _ n ih =>
  intro x o hx ho hn
  rcases Nat.eq_zero_or_pos n with h0|h0
  ·subst h0
   refine iH ?_
   unfold dC
   simp only[]
   rw[if_neg (by simp),Nat.pow_zero,Nat.mul_one,Nat.mod_eq_of_lt ho]
  ·have hxx:x*x%p<2147483648:=by have:=Nat.mod_lt (x*x) hp;omega
   have ih2:=ih (n/2) (by omega) (x*x%p)
   have ediv:IntKind.i64.wrap ((n:Int).tdiv 2)=((n/2:Nat):Int):=by
    rw[Int.tdiv_eq_ediv_of_nonneg (by omega),w64 (by omega)];omega
   have emod:(n:Int).tmod 2=((n%2:Nat):Int):=by rw[Int.tmod_eq_emod_of_nonneg (by omega)];omega
   have hpw:=Qm x n
   rcases Nat.mod_two_eq_zero_or_one n with h2|h2
   ·have:=ih2 o hxx ho (by omega)
    rw[kR (s':=(((x*x%p:Nat):Int),((n/2:Nat):Int),(o:Int))),this]
    ·rw[hpw,h2,Nat.pow_zero,Nat.mul_one,Nat.mul_mod,← Nat.pow_mod,← Nat.mul_mod]
    ·unfold dC
     simp only[]
     rw[if_pos (by simp;omega),if_neg (by rw[emod,h2];simp),mC _ _ hp hx hx,ediv]
     rfl
   ·have ho2:o*x%p<p:=Nat.mod_lt _ hp
    have:=ih2 (o*x%p) hxx ho2 (by omega)
    rw[kR (s':=(((x*x%p:Nat):Int),((n/2:Nat):Int),((o*x%p:Nat):Int))),this]
    ·rw[hpw,h2,Nat.pow_one,Nat.mul_mod,Nat.mod_mod,← Nat.pow_mod,← Nat.mul_mod,Nat.mul_right_comm,Nat.mul_assoc]
    ·unfold dC
     simp only[]
     rw[if_pos (by simp;omega),if_pos (by rw[emod,h2];simp),mC _ _ hp (by omega) hx,mC _ _ hp hx hx,ediv]
     rfl
theorem aBX{p n x:Nat}(v2 v3:Int)(hp:2≤p)(hp2:p≤2147483647)(hx:x<2147483648)(hn:n≤2147483648):iJ p v2 v3 x n=some ((x^n%p:Nat):Int):=by
 unfold iJ
 have:=Sn v2 v3 (by omega) hp2 n x 1 hx (by omega) hn
 rw[Nat.one_mul] at this
 rw[show ((1:Nat):Int)=(1:Int) from rfl] at this
 rw[this]
 rfl
theorem Qk{p r n:Nat}(hp:2≤p)(hp2:p≤2147483647)(hr:r<p)(hn:0<n)(hn2:n≤2147483647):∃ b,fF p r n=some b∧(b=true↔Ord p r n):=by
 obtain⟨m,hP,hl⟩:=Fd (P:=fun k=>r^(k+1)%p=1∨n≤k+1) ⟨n,.inr (by omega)⟩
 have hmn:m+1≤n:=by
  rcases Nat.eq_zero_or_pos m with h0|h0
  ·omega
  ·have:=hl (m-1) (by omega)
   rw[not_or] at this
   omega
 have hlt:∀ k,r^(k+1)%p<p:=fun k=>Nat.mod_lt _ (by omega)
 have hrun:run (cW p r n) ((r:Int),1)=some (((r^(m+1)%p:Nat):Int),((m+1:Nat):Int)):=by
  have h0:(((r^(0+1)%p:Nat):Int),((0+1:Nat):Int))=((r:Int),(1:Int)):=by
   rw[show 0+1=1 from rfl,Nat.pow_one,Nat.mod_eq_of_lt hr];rfl
  rw[← h0]
  refine cA (fun k=>(((r^(k+1)%p:Nat):Int),((k+1:Nat):Int))) (n:=m) (fun k hk=>?_) ?_
  ·have h1:=hl k hk
   rw[not_or] at h1
   unfold cW
   simp only[]
   have:=hlt k
   rw[if_pos (by rw[decide_eq_true_eq];omega),if_pos (by rw[decide_eq_true_eq];omega),mC _ _ (by omega) (by omega) (by omega),w64 (by omega)]
   rw[Option.bind_some,← Nat.mod_mul_mod,Nat.mod_mod,Nat.mod_mul_mod,← Nat.pow_succ]
   simp
  ·unfold cW
   simp only[]
   rcases hP with h1|h1
   ·rw[if_neg (by rw[h1];simp)]
   ·by_cases h2:r^(m+1)%p=1
    ·rw[if_neg (by rw[h2];simp)]
    ·rw[if_pos (by rw[decide_eq_true_eq];omega),if_neg (by rw[decide_eq_true_eq];omega)]
 unfold fF
 rw[hrun]
 simp only[Option.bind_some]
 by_cases h2:r^(m+1)%p=1
 ·rw[if_pos (by rw[decide_eq_true_eq];omega)]
  refine⟨_,rfl,?_⟩
  rw[decide_eq_true_eq]
  constructor
  ·intro h
   obtain rfl:m+1=n:=by omega
   exact⟨hn,h2,fun k h3 h4 h5=>hl (k-1) (by omega) (.inl (by rw[show k-1+1=k by omega];exact h5))⟩
  ·intro h
   refine Classical.byContradiction fun hc=>h.least (m+1) (by omega) (by omega) h2
 ·rw[if_neg (by rw[decide_eq_true_eq];omega)]
  refine⟨false,rfl,?_⟩
  constructor
  ·intro h;cases h
  ·intro h
   rcases hP with h1|h1
   ·exact absurd h1 h2
   ·obtain rfl:m+1=n:=by omega
    exact absurd h.one h2
theorem Dh{q:Nat}(hq:2≤q):∀(k m':Nat),¬ q ∣ m'→q^k*m'≤2147483647→run (iB q) ((q^k*m':Nat):Int)=some ((m':Nat):Int)
 | 0,m',hn,_=>by
  rw[Nat.pow_zero,Nat.one_mul]
  refine iH ?_
  unfold iB
  rw[if_neg]
  rw[decide_eq_true_eq,Int.tmod_eq_emod_of_nonneg (by omega)]
  intro h
  exact hn (Nat.dvd_of_mod_eq_zero (by omega))
 | k+1,m',hn,hle=>by
  have e:q^(k+1)*m'=q*(q^k*m'):=by rw[Nat.pow_succ,Nat.mul_comm (q^k) q,Nat.mul_assoc]
  have hle2:q^k*m'≤2147483647:=by
   have:=Nat.le_mul_of_pos_left (q^k*m') (show 0<q by omega)
   omega
  rw[e,kR (s':=((q^k*m':Nat):Int)),Dh hq k m' hn hle2]
  unfold iB
  rw[if_pos,Int.tdiv_eq_ediv_of_nonneg (by omega)]
  ·have : (((q * (q ^ k * m') : Nat) : Int) / (q : Int)) = ((q ^ k * m' : Nat) : Int) := by
     rw[← Int.natCast_ediv,Nat.mul_div_cancel_left _ (by omega)]
   rw[this,w64 (by omega)]
  ·rw[decide_eq_true_eq,Int.tmod_eq_emod_of_nonneg (by omega),← Int.natCast_emod,Nat.mul_mod_right]
   rfl
structure PrimesInv(n:Nat)(n' q:Nat)(out:List Int):Prop where
 pos:0<n'
 le:n'≤n
 q2:2≤q
 up:∀ r,Pr r→q≤r→(r ∣ n↔r ∣ n')
 low:∀ r,Pr r→r<q→¬ r ∣ n'
 mem:∀ x:Int,x∈out↔∃ r:Nat,x=r∧Pr r∧r<q∧r ∣ n
 len:out.length≤q
theorem Sp{n:Nat}(hn:n≤1024):∀(j n' q:Nat) (out:List Int),1026-q=j→q≤1026→PrimesInv n n' q out→∃ l,run eS ((n':Int),out,(q:Int))=some l∧(∀ x:Int,x∈l↔∃ r:Nat,x=r∧Pr r∧r ∣ n)∧l.length≤1026:=by
 intro j
 induction j with
 | zero =>
  intro n' q out hj hq I
  have h1:n'=1:=by
   refine Classical.byContradiction fun hc=>?_
   obtain⟨r,hr,hd⟩:=rC (show 2≤n' by have:=I.pos;omega)
   have:=Nat.le_of_dvd I.pos hd
   have:=I.le
   exact I.low r hr (by omega) hd
  subst h1
  refine⟨out,iH ?_,fun x=>?_,Nat.le_trans I.len hq⟩
  ·unfold eS
   simp only[]
   rw[if_neg (by simp)]
  ·rw[I.mem]
   constructor
   ·rintro⟨r,e,hr,_,hd⟩;exact⟨r,e,hr,hd⟩
   ·rintro⟨r,e,hr,hd⟩
    refine⟨r,e,hr,Classical.byContradiction fun hc=>?_,hd⟩
    have:=Nat.dvd_one.1 ((I.up r hr (by omega)).1 hd)
    have:=hr.1
    omega
 | succ j ih =>
  intro n' q out hj hq I
  by_cases h1:n'=1
  ·subst h1
   refine⟨out,iH ?_,fun x=>?_,Nat.le_trans I.len hq⟩
   ·unfold eS
    simp only[]
    rw[if_neg (by simp)]
   ·rw[I.mem]
    constructor
    ·rintro⟨r,e,hr,_,hd⟩;exact⟨r,e,hr,hd⟩
    ·rintro⟨r,e,hr,hd⟩
     refine⟨r,e,hr,Classical.byContradiction fun hc=>?_,hd⟩
     have:=Nat.dvd_one.1 ((I.up r hr (by omega)).1 hd)
     have:=hr.1
     omega
  ·have hpos:=I.pos
   have hq2:=I.q2
   have hle:=I.le
   have hqw:IntKind.i64.wrap ((q:Int)+1)=((q+1:Nat):Int):=by rw[w64 (by omega)];simp
   by_cases hd:q ∣ n'
   ·have hpq : Pr q := by
      obtain⟨r,hr,hrq⟩:=rC hq2
      have h3:=Nat.le_of_dvd (by omega) hrq
      have h4:¬ r<q:=fun hh=>I.low r hr hh (Nat.dvd_trans hrq hd)
      obtain rfl:r=q:=by omega
      exact hr
    obtain⟨k,m',e,hm'⟩:=Xc hq2 n' hpos
    have hm'0:0<m':=Nat.pos_of_ne_zero fun h0=>hm' (h0 ▸ Nat.dvd_zero _)
    have hm'le:m'≤n':=by rw[e];exact Nat.le_mul_of_pos_left _ (Nat.pow_pos (by omega))
    have I2:PrimesInv n m' (q+1) (out++[(q:Int)]):={
     pos:=hm'0
     le:=by omega
     q2:=by omega
     up:=fun r hr hh=>by
      rw[I.up r hr (by omega),e]
      constructor
      ·intro h
       rcases hr.dvd_mul h with h5|h5
       ·have h6:=hr.dvd_pow h5
        have:=Nat.le_of_dvd (by omega) h6
        omega
       ·exact h5
      ·intro h;exact Nat.dvd_trans h (Nat.dvd_mul_left _ _)
     low:=fun r hr hh h=>by
      rcases Nat.lt_or_ge r q with h5|h5
      ·exact I.low r hr h5 (by rw[e];exact Nat.dvd_trans h (Nat.dvd_mul_left _ _))
      ·obtain rfl:r=q:=by omega
       exact hm' h
     mem:=fun x=>by
      rw[List.mem_append,I.mem,List.mem_singleton]
      constructor
      ·rintro (⟨r,e1,hr,h5,h6⟩|rfl)
       ·exact⟨r,e1,hr,by omega,h6⟩
       ·exact⟨q,rfl,hpq,by omega,(I.up q hpq (Nat.le_refl _)).2 hd⟩
      ·rintro⟨r,e1,hr,h5,h6⟩
       rcases Nat.lt_or_ge r q with h7|h7
       ·exact .inl ⟨r,e1,hr,h7,h6⟩
       ·obtain rfl:r=q:=by omega
        exact .inr e1
     len:=by have:=I.len;simp;omega }
    obtain⟨l,hl,hmem⟩:=ih m' (q+1) (out++[(q:Int)]) (by omega) (by omega) I2
    refine⟨l,?_,hmem⟩
    rw[kR (s':=((m':Int),out++[(q:Int)],((q+1:Nat):Int)))]
    ·exact hl
    ·unfold eS
     simp only[]
     have hw:=Dh hq2 k m' hm' (by omega)
     rw[← e] at hw
     have:=I.len
     rw[if_pos (by simp;omega),if_neg (by omega),if_pos,rW (by omega) (by omega),Option.bind_some,hw,Option.bind_some,hqw]
     rw[decide_eq_true_eq,Int.tmod_eq_emod_of_nonneg (by omega)]
     have:=Nat.mod_eq_zero_of_dvd hd
     omega
   ·have I2 : PrimesInv n n' (q + 1) out := {
      pos:=hpos
      le:=hle
      q2:=by omega
      up:=fun r hr hh=>I.up r hr (by omega)
      low:=fun r hr hh h=>by
       rcases Nat.lt_or_ge r q with h5|h5
       ·exact I.low r hr h5 h
       ·obtain rfl:r=q:=by omega
        exact hd h
      mem:=fun x=>by
       rw[I.mem]
       constructor
       ·rintro⟨r,e1,hr,h5,h6⟩;exact⟨r,e1,hr,by omega,h6⟩
       ·rintro⟨r,e1,hr,h5,h6⟩
        rcases Nat.lt_or_ge r q with h7|h7
        ·exact⟨r,e1,hr,h7,h6⟩
        ·obtain rfl:r=q:=by omega
         exact absurd ((I.up r hr (Nat.le_refl _)).1 h6) hd
      len:=by have:=I.len;omega }
    obtain⟨l,hl,hmem⟩:=ih n' (q+1) out (by omega) (by omega) I2
    refine⟨l,?_,hmem⟩
    rw[kR (s':=((n':Int),out,((q+1:Nat):Int)))]
    ·exact hl
    ·unfold eS
     simp only[]
     rw[if_pos (by simp;omega),if_neg (by omega),if_neg,show run lX ()=some () from iH rfl,Option.bind_some,hqw]
     rw[decide_eq_true_eq,Int.tmod_eq_emod_of_nonneg (by omega)]
     intro h
     exact hd (Nat.dvd_of_mod_eq_zero (by omega))
theorem Wg{n:Nat}(h0:0<n)(hn:n≤1024):∃ l,mV n=some l∧(∀ x:Int,x∈l↔∃ r:Nat,x=r∧Pr r∧r ∣ n)∧l.length≤1026:=by
 obtain⟨l,hl,hm⟩:=Sp hn 1024 n 2 [] rfl (by omega) ⟨h0,Nat.le_refl _,Nat.le_refl _,fun r _ _=>Iff.rfl,fun r hr h=>by have:=hr.1;omega,fun x=>by
  constructor
  ·intro h;cases h
  ·rintro⟨r,_,hr,h,_⟩;have:=hr.1;omega,by simp⟩
 refine⟨l,?_,hm⟩
 unfold mV
 rw[show ((2:Nat):Int)=(2:Int) from rfl] at hl
 rw[hl]
 rfl
theorem Fo{p r n:Nat}(hp:2≤p)(hn:0<n):Ord p r n↔r^n%p=1∧∀ q,Pr q→q ∣ n→r^(n/q)%p≠1:=by
 constructor
 ·intro h
  refine⟨h.one,fun q hq hd=>?_⟩
  obtain⟨c,rfl⟩:=hd
  have hq2:=hq.1
  have hc:0<c:=Nat.pos_of_mul_pos_left hn
  rw[Nat.mul_div_cancel_left _ (by omega)]
  exact h.least c hc (by have:=Nat.mul_le_mul_right c hq2;omega)
 ·rintro⟨h1,h2⟩
  obtain⟨m,hm⟩:=Rv hn h1
  obtain⟨c,hc⟩:=hm.dvd hp h1
  rcases Nat.lt_or_ge c 2 with h3|h3
  ·have : c = 1 := by
     have:c≠0:=fun h0=>by rw[h0] at hc;omega
     omega
   rw[this,Nat.mul_one] at hc
   exact hc ▸ hm
  ·obtain⟨q,hq,d,hd⟩:=rC h3
   have hq2:=hq.1
   exfalso
   refine h2 q hq ⟨m*d,by rw[hc,hd,Nat.mul_left_comm]⟩ ?_
   rw[hc,hd,Nat.mul_left_comm,Nat.mul_div_cancel_left _ (by omega)]
   exact qQ hp hm.one d
theorem Ki{p r n:Nat}(hp:2≤p)(hp2:p≤2147483647)(hr:r<p)(hn:0<n)(hn2:n≤1024):∃ b,nF r n p=some b∧(b=true↔Ord p r n):=by
 obtain⟨l,hl,hmem,hlen⟩:=Wg hn hn2
 unfold nF
 rw[Mr hp hp2 (by omega) (by omega),Option.bind_some,if_neg (by omega),zE hp]
 by_cases h1:r^n%p=1
 ·rw[if_neg (by rw[h1];simp),hl,Option.bind_some]
  have pows:∀ k (hk:k<l.length),∃ q:Nat,l[k]=(q:Int)∧Pr q∧q ∣ n:=fun k hk=>(hmem _).1 (List.getElem_mem hk)
  have step:∀ k (hk:k<l.length) (q:Nat),l[k]=(q:Int)→Pr q→dV r n p l (k:Int)=if r^(n/q)%p=1 then some (.inr (.inl ())) else some (.inl (IntKind.i64.wrap ((k:Int)+1))):=by
   intro k hk q hq hpq
   have hq2:=hpq.1
   have hdle:=Nat.div_le_self n q
   have hw:IntKind.i64.wrap ((n/q:Nat):Int)=((n/q:Nat):Int):=by
    generalize n/q=z at *
    exact w64 (by omega)
   unfold dV
   rw[if_pos (by simpa using hk),aL,List.getElem?_eq_getElem hk,Option.bind_some,hq,if_neg (by omega),Int.tdiv_eq_ediv_of_nonneg (by omega),← Int.natCast_ediv,hw,Mr hp hp2 (by omega) (by omega),Option.bind_some,zE hp]
   by_cases h2:r^(n/q)%p=1
   ·rw[if_pos (by rw[h2];simp),if_pos h2]
   ·rw[if_neg (by rw[decide_eq_true_eq];omega),if_neg h2]
  by_cases hall:∀ q,Pr q→q ∣ n→r^(n/q)%p≠1
  ·have : run (dV r n p l) 0 = some (.inr ()) := by
     refine cA (fun k=>(k:Int)) (n:=l.length) (fun k hk=>?_) ?_
     ·obtain⟨q,e,hq,hd⟩:=pows k hk
      rw[step k hk q e hq,if_neg (hall q hq hd),w64 (by omega)]
      simp
     ·unfold dV
      rw[if_neg (by simp)]
   rw[this]
   refine⟨true,rfl,?_⟩
   rw[Fo hp hn]
   exact⟨fun _=>⟨h1,hall⟩,fun _=>rfl⟩
  ·have hex : ∃ k : Nat, ∃ q : Nat, l[k]? = some ((q : Nat) : Int) ∧ Pr q ∧ r ^ (n / q) % p = 1 := by
     refine Classical.byContradiction fun hc=>hall fun q hq hd h3=>hc ?_
     obtain⟨k,hk,e⟩:=List.getElem_of_mem ((hmem (q:Int)).2 ⟨q,rfl,hq,hd⟩)
     exact⟨k,q,by rw[List.getElem?_eq_getElem hk,e],hq,h3⟩
   obtain⟨m,⟨q,hq,hpq,h3⟩,hleast⟩:=Fd hex
   obtain⟨hm,hqe⟩:=List.getElem?_eq_some_iff.1 hq
   have:run (dV r n p l) 0=some (.inl ()):=by
    refine cA (fun k=>(k:Int)) (n:=m) (fun k hk=>?_) ?_
    ·obtain⟨q',e,hq',hd⟩:=pows k (by omega)
     rw[step k (by omega) q' e hq',if_neg (fun hh=>hleast k hk ⟨q',by rw[List.getElem?_eq_getElem (by omega),e],hq',hh⟩),w64 (by omega)]
     simp
    ·show dV r n p l (m:Int)=_
     rw[step m hm q hqe hpq,if_pos h3]
   rw[this]
   refine⟨false,rfl,?_⟩
   constructor
   ·intro h;cases h
   ·intro h
    exact absurd ((Fo hp hn).1 h).2 hall
 ·rw[if_pos (by rw[decide_eq_true_eq];omega)]
  refine⟨false,rfl,?_⟩
  constructor
  ·intro h;cases h
  ·intro h;exact absurd h.one h1
theorem Nq(v a b:Int):cB v a b=some (decide (v<a∨v>b),2):=by
 unfold cB aD
 by_cases h:v<a<;>simp[h]
theorem Di(v a b:Int):bN v a b=some (decide (a≤v∧v≤b)):=by
 unfold bN
 by_cases h:a≤v<;>simp[h]
theorem Hb(b:Bool)(e:Int):aA b e=some (if b=true then e else 0):=by
 unfold aA
 cases b<;>rfl
theorem Js(v1 v2 v3:Int):∃ e,gD v1 v2 v3=some e∧dG v1 v2 v3=some e:=by
 unfold gD dG
 simp only[Nq,Di,Option.bind_some,nK,gT,Hb]
 by_cases h1:2≤v1∧v1≤2147483647
 ·have n1:¬(v1<2∨v1>2147483647):=by omega
  by_cases h3:1≤v3∧v3≤1024
  ·have n3:¬(v3<1∨v3>1024):=by omega
   rw[w64 (x:=v1-1) (by omega)]
   by_cases h2:1≤v2∧v2≤v1-1
   ·have n2:¬(v2<1∨v2>v1-1):=by omega
    obtain⟨p,rfl⟩:∃ p:Nat,v1=p:=⟨v1.toNat,by omega⟩
    obtain⟨r,rfl⟩:∃ r:Nat,v2=r:=⟨v2.toNat,by omega⟩
    obtain⟨n,rfl⟩:∃ n:Nat,v3=n:=⟨v3.toNat,by omega⟩
    obtain⟨b1,p1,p2,_⟩:=Fu (n:=p) (by omega) (by omega)
    obtain⟨b2,q1,q2⟩:=Qk (p:=p) (r:=r) (n:=n) (by omega) (by omega) (by omega) (by omega) (by omega)
    obtain⟨b3,r1,r2⟩:=Ki (p:=p) (r:=r) (n:=n) (by omega) (by omega) (by omega) (by omega) (by omega)
    have e3:b3=b2:=by
     have:=q2.trans r2.symm
     cases b2<;>cases b3<;>simp at this<;>rfl
    subst e3
    simp only[fC,fA,fB,p1,p2,q1,r1,Option.bind_some,aD,Hb,n1,n2,n3,h1,h2,h3]
    rw[w64 (x:=(p:Int)-1) (by omega)]
    have hn0:¬(n=0):=by omega
    by_cases hm:((p:Int)-1).tmod n=0<;>cases b1<;>cases b3<;>simp[hm,hn0]
   ·have n2:v2<1∨v2>v1-1:=by omega
    refine⟨2,?_,?_⟩
    ·simp[n1,n2,n3]
    ·rw[if_pos (by simp[h1]),if_pos (by simp[h3]),if_neg (by rw[decide_eq_true_eq];exact h2)]
  ·have n3:v3<1∨v3>1024:=by omega
   refine⟨2,?_,?_⟩
   ·simp[n1,n3]
   ·rw[if_pos (by simp[h1]),if_neg (by rw[decide_eq_true_eq];exact h3)]
 ·have n1:v1<2∨v1>2147483647:=by omega
  refine⟨2,?_,?_⟩
  ·simp[n1]
  ·rw[if_neg (by rw[decide_eq_true_eq];exact h1)]
structure Fld(p r n:Nat):Prop where
 prime:Pr p
 le:p≤2147483647
 pos:0<n
 small:n≤1024
 r0:0<r
 lt:r<p
 dvd:n ∣ p-1
 ord:Ord p r n
theorem tW{v1 v2 v3:Int}(h:dG v1 v2 v3=some 0):∃ p r n:Nat,v1=p∧v2=r∧v3=n∧Fld p r n:=by
 unfold dG at h
 simp only[Di,Option.bind_some] at h
 by_cases h1:2≤v1∧v1≤2147483647
 ·rw[if_pos (by rw[decide_eq_true_eq];exact h1)] at h
  by_cases h3:1≤v3∧v3≤1024
  ·rw[if_pos (by rw[decide_eq_true_eq];exact h3),w64 (x:=v1-1) (by omega)] at h
   by_cases h2:1≤v2∧v2≤v1-1
   ·rw[if_pos (by rw[decide_eq_true_eq];exact h2)] at h
    obtain⟨p,rfl⟩:∃ p:Nat,v1=p:=⟨v1.toNat,by omega⟩
    obtain⟨r,rfl⟩:∃ r:Nat,v2=r:=⟨v2.toNat,by omega⟩
    obtain⟨n,rfl⟩:∃ n:Nat,v3=n:=⟨v3.toNat,by omega⟩
    obtain⟨b1,p1,p2,p3⟩:=Fu (n:=p) (by omega) (by omega)
    obtain⟨b3,r1,r2⟩:=Ki (p:=p) (r:=r) (n:=n) (by omega) (by omega) (by omega) (by omega) (by omega)
    rw[p2,Option.bind_some] at h
    cases b1 with
    | false=>simp at h
    | true =>
     rw[if_pos rfl,if_neg (by omega)] at h
     by_cases hm:((p:Int)-1).tmod n=0
     ·rw[if_neg (by simp[hm]),r1,Option.bind_some] at h
      cases b3 with
      | false=>simp at h
      | true =>
       refine⟨p,r,n,rfl,rfl,rfl,p3.1 rfl,by omega,by omega,by omega,by omega,by omega,?_,r2.1 rfl⟩
       rw[show (p:Int)-1=((p-1:Nat):Int) by omega,Int.tmod_eq_emod_of_nonneg (by omega),← Int.natCast_emod] at hm
       exact Nat.dvd_of_mod_eq_zero (by exact Int.ofNat.inj hm)
     ·rw[if_pos (by simp[hm])] at h
      simp at h
   ·rw[if_neg (by rw[decide_eq_true_eq];exact h2)] at h
    simp at h
  ·rw[if_neg (by rw[decide_eq_true_eq];exact h3)] at h
   simp at h
 ·rw[if_neg (by rw[decide_eq_true_eq];exact h1)] at h
  simp at h
theorem aCw{x:Int}{p:Nat}(hp:0<p)(hp2:p≤2147483647):jC x p=some (x%(p:Int)):=by
 unfold jC
 rw[if_neg (by omega)]
 have h1:=Int.tmod_lt_of_pos x (show (0:Int)<p by omega)
 have h2:-(p:Int)<x.tmod p:=by
  have h:=Int.natAbs_tmod x p
  have h3:(x.tmod p).natAbs<p:=by
   rw[h]
   simp only[Int.natAbs_natCast]
   exact Nat.mod_lt _ hp
  omega
 have he:=Int.tmod_add_mul_tdiv x p
 by_cases h:x.tmod p<0
 ·rw[if_pos (by simpa using h),w64 (by omega)]
  congr 1
  have e:x%(p:Int)=(x.tmod p+p)%(p:Int):=by
   rw[show x=(x.tmod p+p)+p*(x.tdiv p-1) by rw[Int.mul_sub,Int.mul_one];omega,Int.add_mul_emod_self_left,← show x=(x.tmod p+p)+p*(x.tdiv p-1) by rw[Int.mul_sub,Int.mul_one];omega]
  rw[e,Int.emod_eq_of_lt (by omega) (by omega)]
 ·rw[if_neg (by simpa using h)]
  congr 1
  have e:x%(p:Int)=(x.tmod p)%(p:Int):=by
   rw[show x=x.tmod p+p*x.tdiv p by omega,Int.add_mul_emod_self_left,← show x=x.tmod p+p*x.tdiv p by omega]
  rw[e,Int.emod_eq_of_lt (by omega) (by omega)]
theorem Sj{x:Int}{p:Nat}(hp:0<p)(hp2:p≤2147483647):jH x p=some (x%(p:Int)):=by
 unfold jH
 rw[if_neg (by omega)]
 have h1:=Int.tmod_lt_of_pos x (show (0:Int)<p by omega)
 have h2:-(p:Int)<x.tmod p:=by
  have h:=Int.natAbs_tmod x p
  have h3:(x.tmod p).natAbs<p:=by
   rw[h]
   simp only[Int.natAbs_natCast]
   exact Nat.mod_lt _ hp
  omega
 have he:x.tmod p=x-p*x.tdiv p:=by have:=Int.tmod_add_mul_tdiv x p;omega
 rw[w64 (by omega),Int.tmod_eq_emod_of_nonneg (by omega),he]
 have:(x-p*x.tdiv p+p)%(p:Int)=x%p:=by
  rw[show x-(p:Int)*x.tdiv p+p=x+p*(1-x.tdiv p) by rw[Int.mul_sub,Int.mul_one];omega,Int.add_mul_emod_self_left]
 rw[this]
def res(p:Nat)(x:Int):Nat:=(x%(p:Int)).toNat
theorem Hl{p:Nat}(hp:0<p)(x:Int):(res p x:Int)=x%(p:Int):=by
 have:=Int.emod_nonneg x (show (p:Int)≠0 by omega)
 unfold res
 omega
theorem Zy{p:Nat}(hp:0<p)(x:Int):res p x<p:=by
 have:=Int.emod_lt_of_pos x (show (0:Int)<p by omega)
 have:=Hl hp x
 omega
def term(p:Nat)(l:List Int)(r k t:Nat):Nat:=res p (l[t]?.getD 0)*(r^(t*k)%p)%p
def kM(p:Nat)(l:List Int)(r k:Nat):Nat:=jB (term p l r k) l.length%p
def Ao(p r n:Nat):List Int:=(List.range n).map fun i=>((r^i%p:Nat):Int)
theorem Hc(p r n:Nat):(Ao p r n).length=n:=by simp[Ao]
theorem Vp(p r n:Nat):Ao p r (n+1)=Ao p r n++[((r^n%p:Nat):Int)]:=by simp[Ao,List.range_succ]
theorem Tw{p r n i:Nat}(h:i<n):(Ao p r n)[i]?=some ((r^i%p:Nat):Int):=by simp[Ao,h]
theorem We{p r n:Nat}(hp:2≤p)(hp2:p≤2147483647)(hr:r<p)(hn:0<n)(hn2:n≤1024):gM p r n=some (Ao p r n):=by
 unfold gM
 have h1:Ao p r (0+1)=[1]:=by
  show [((r^0%p:Nat):Int)]=[1]
  rw[Nat.pow_zero,Nat.mod_eq_of_lt (by omega)]
  rfl
 have:run (dN p r n) [1]=some (Ao p r n):=by
  rw[← h1]
  refine cA (fun k=>Ao p r (k+1)) (n:=n-1) (fun k hk=>?_) ?_
  ·unfold dN
   have hlt:r^k%p<p:=Nat.mod_lt _ (by omega)
   rw[Hc,if_pos (by rw[decide_eq_true_eq];omega),w64 (by omega),tH (k:=k) (by omega),Tw (by omega),Option.bind_some,mC _ _ (by omega) (by omega) (by omega),Option.bind_some,rW (by rw[Hc];omega) (by omega),Option.bind_some,Vp p r (k+1)]
   rw[Nat.pow_succ,Nat.mod_mul_mod]
  ·unfold dN
   rw[Hc,if_neg (by rw[decide_eq_true_eq];omega),show n-1+1=n by omega]
 rw[this]
 rfl
theorem Uw{f:Nat→Nat}{b:Nat}:∀ n,(∀ k,k<n→f k≤b)→jB f n≤n*b
 | 0,_=>by simp[jB]
 | n+1,h=>by
  have h1:=Uw n (fun k hk=>h k (by omega))
  have h2:=h n (by omega)
  simp only[jB,Nat.add_mul,Nat.one_mul]
  omega
theorem Te{p r n m:Nat}(hp:2≤p)(h:r^n%p=1):r^(m%n)%p=r^m%p:=by
 have e:r^m=r^(n*(m/n))*r^(m%n):=by rw[← Nat.pow_add,Nat.div_add_mod]
 rw[e,Nat.mul_mod,qQ hp h,Nat.one_mul,Nat.mod_mod]
theorem Ul{p:Nat}(hp:0<p)(l:List Int)(r k t:Nat):term p l r k t<p:=Nat.mod_lt _ hp
def trL(p:Nat)(l:List Int)(r n:Nat):List Int:=(List.range n).map fun k=>((kM p l r k:Nat):Int)
def rN(p:Nat)(l:List Int)(r n k:Nat):List Int:=(List.range n).map fun j=>if j<k then ((kM p l r j:Nat):Int) else 0
theorem rM(p:Nat)(l:List Int)(r n k:Nat):(rN p l r n k).length=n:=by simp[rN]
theorem Aa{p:Nat}{l:List Int}{r n k j:Nat}(h:j<n):(rN p l r n k)[j]?=some (if j<k then ((kM p l r j:Nat):Int) else 0):=by simp[rN,h]
theorem Vz(p:Nat)(l:List Int)(r n:Nat):rN p l r n 0=List.replicate n 0:=by
 apply List.ext_getElem?
 intro j
 rcases Nat.lt_or_ge j n with h|h
 ·rw[Aa h];simp[h]
 ·simp[rN,h]
theorem Zh(p:Nat)(l:List Int)(r n:Nat):rN p l r n n=trL p l r n:=by
 unfold rN trL
 refine List.map_congr_left fun j hj=>?_
 rw[List.mem_range] at hj
 simp[hj]
theorem aAr{p:Nat}{l:List Int}{r n k:Nat}(h:k<n):(rN p l r n k).set k ((kM p l r k:Nat):Int)=rN p l r n (k+1):=by
 apply List.ext_getElem?
 intro j
 rw[List.getElem?_set]
 rcases Nat.lt_or_ge j n with hj|hj
 ·by_cases e:k=j
  ·subst e
   rw[if_pos rfl,if_pos (by rw[rM];exact h),Aa hj]
   simp
  ·rw[if_neg e,Aa hj,Aa hj]
   have:(j<k)↔(j<k+1):=by omega
   simp[this]
 ·by_cases e:k=j
  ·omega
  ·rw[if_neg e]
   simp[rN,hj]
theorem Wv{p n r k:Nat}{l:List Int}{w:Int}(F:Ord p r n)(hp:2≤p)(hp2:p≤2147483647)(hr:r<p)(hn2:n≤1024)(hl:l.length=n)(hk:k<n) :
 run (bL p w n l (Ao p r n) k) (rN p l r n k,0)=some ((rN p l r n k).set k ((jB (term p l r k) n:Nat):Int)):=by
 have hn:=F.pos
 have bound:∀ t,t≤n→jB (term p l r k) t≤t*2147483647:=fun t _=>Uw t fun j _=>by have:=Ul (show 0<p by omega) l r k j;omega
 have h0:(rN p l r n k).set k ((jB (term p l r k) 0:Nat):Int)=rN p l r n k:=by
  apply List.ext_getElem?
  intro j
  rw[List.getElem?_set]
  by_cases e:k=j
  ·subst e
   rw[if_pos rfl,if_pos (by rw[rM];exact hk),Aa hk]
   simp[jB]
  ·rw[if_neg e]
 have key:=cA (step:=bL p w n l (Ao p r n) k) (fun t=>((rN p l r n k).set k ((jB (term p l r k) t:Nat):Int),(t:Int))) (n:=n) (e:=(rN p l r n k).set k ((jB (term p l r k) n:Nat):Int)) (fun t ht=>?_) ?_
 ·simp only[h0] at key
  exact key
 ·unfold bL
  simp only[]
  have htk:t*k≤1048576:=Nat.le_trans (Nat.mul_le_mul (show t≤1024 by omega) (show k≤1024 by omega)) (by decide)
  have b1:=bound t (by omega)
  have b2:=Ul (show 0<p by omega) l r k t
  have hres:=Zy (show 0<p by omega) (l[t]'(by omega))
  have hpl:r^(t*k%n)%p<p:=Nat.mod_lt _ (by omega)
  rw[if_pos (by rw[decide_eq_true_eq];omega),aL,List.getElem?_eq_getElem (by omega),Option.bind_some,aL,List.getElem?_set_self (by rw[rM];exact hk),Option.bind_some,Sj (by omega) hp2,Option.bind_some,if_neg (by omega)]
  rw[tH (k:=t*k%n) (by rw[← Int.natCast_mul,w64 (by omega),Int.tmod_eq_emod_of_nonneg (by omega)];simp),Tw (Nat.mod_lt _ hn),Option.bind_some,← Hl (show 0<p by omega),mC _ _ (by omega) (by omega) (by omega),Option.bind_some,Te hp F.one]
  have e:res p (l[t]'(by omega))*(r^(t*k)%p)%p=term p l r k t:=by
   unfold term
   rw[List.getElem?_eq_getElem (by omega)]
   rfl
  rw[e,Int.toNat_natCast,List.set_set,w64 (by omega),w64 (by omega)]
  simp[jB]
 ·unfold bL
  simp only[]
  rw[if_neg (by rw[decide_eq_true_eq];omega)]
theorem zY{p n r:Nat}{l:List Int}(F:Ord p r n)(hp:2≤p)(hp2:p≤2147483647)(hr:r<p)(hn2:n≤1024)(hl:l.length=n):bB p r n l=some (trL p l r n):=by
 have hn:=F.pos
 unfold bB
 rw[We hp hp2 hr hn hn2,Option.bind_some]
 have hmk:mkI 8 (n:Int) (0:Int)=some (List.replicate n 0):=by
  unfold mkI
  simp
  omega
 rw[hmk,Option.bind_some,← Vz p l r n]
 have:run (cK p r n l (Ao p r n) (rN p l r n 0)) (rN p l r n 0,0)=some (trL p l r n):=by
  rw[← Zh]
  refine cA (fun k=>(rN p l r n k,(k:Int))) (n:=n) (fun k hk=>?_) ?_
  ·unfold cK
   simp only[]
   rw[rM,if_pos (by rw[decide_eq_true_eq];omega),Wv F hp hp2 hr hn2 hl hk,Option.bind_some,aL,List.getElem?_set_self (by rw[rM];exact hk),Option.bind_some,if_neg (by omega),Int.toNat_natCast,List.set_set,Int.tmod_eq_emod_of_nonneg (by omega),← Int.natCast_emod]
   have e:jB (term p l r k) n%p=kM p l r k:=by unfold kM;rw[hl]
   rw[e,aAr hk,w64 (by omega)]
   simp
  ·unfold cK
   simp only[]
   rw[rM,if_neg (by simp)]
 rw[this]
 rfl
theorem Ya(p:Nat)(l:List Int)(r k:Nat):trL p l r (k+1)=trL p l r k++[((kM p l r k:Nat):Int)]:=by simp[trL,List.range_succ]
theorem La(p:Nat)(l:List Int)(r n:Nat):(trL p l r n).length=n:=by simp[trL]
theorem Nn{p n r k:Nat}{l:List Int}(hp:2≤p)(hp2:p≤2147483647)(hn2:n≤1024)(hl:l.length=n) :
 run (iN l p ((r^k%p:Nat):Int)) (0,1,0)=some ((kM p l r k:Nat):Int):=by
 have key:=cA (step:=iN l p ((r^k%p:Nat):Int)) (fun t=>(((jB (term p l r k) t%p:Nat):Int),((r^(t*k)%p:Nat):Int),(t:Int))) (n:=n) (e:=((kM p l r k:Nat):Int)) (fun t ht=>?_) ?_
 ·have e0:r^(0*k)%p=1:=by rw[Nat.zero_mul,Nat.pow_zero,Nat.mod_eq_of_lt (by omega)]
  simp only[e0,jB,Nat.zero_mod] at key
  exact key
 ·unfold iN
  simp only[]
  have hres:=Zy (show 0<p by omega) (l[t]'(by omega))
  have h1:r^(t*k)%p<p:=Nat.mod_lt _ (by omega)
  have h2:r^k%p<p:=Nat.mod_lt _ (by omega)
  have h3:jB (term p l r k) t%p<p:=Nat.mod_lt _ (by omega)
  rw[if_pos (by rw[decide_eq_true_eq];omega),aL,List.getElem?_eq_getElem (by omega),Option.bind_some,aCw (by omega) hp2,Option.bind_some,← Hl (show 0<p by omega)]
  have hm:=Nat.mul_le_mul (show res p (l[t]'(by omega))≤2147483647 by omega) (show r^(t*k)%p≤2147483647 by omega)
  have e1:(jB (term p l r k) t%p+res p (l[t]'(by omega))*(r^(t*k)%p))%p=jB (term p l r k) (t+1)%p:=by
   simp only[jB]
   rw[Nat.mod_add_mod]
   have:term p l r k t=res p (l[t]'(by omega))*(r^(t*k)%p)%p:=by
    unfold term
    rw[List.getElem?_eq_getElem (by omega)]
    rfl
   rw[this,Nat.add_mod_mod]
  have e2:(r^(t*k)%p)*(r^k%p)%p=r^((t+1)*k)%p:=by
   rw[← Nat.mul_mod,← Nat.pow_add,Nat.add_mul,Nat.one_mul]
  rw[rU (by omega) (by omega),e2,← Int.natCast_mul,w64 (x:=((res p (l[t]'(by omega))*(r^(t*k)%p):Nat):Int)) (by omega),← Int.natCast_add,w64 (by omega),w64 (by omega),Int.tmod_eq_emod_of_nonneg (by omega),← Int.natCast_emod,e1]
  simp
 ·unfold iN
  simp only[]
  rw[if_neg (by rw[decide_eq_true_eq];omega)]
  unfold kM
  rw[hl]
theorem Up{p n r:Nat}{l:List Int}(hp:2≤p)(hp2:p≤2147483647)(hr:r<p)(hn2:n≤1024)(hl:l.length=n):nT l r p=some (trL p l r n):=by
 unfold nT
 have:run (jX l r p) ([],0)=some (trL p l r n):=by
  have h0:trL p l r 0=[]:=rfl
  rw[← h0]
  refine cA (fun k=>(trL p l r k,(k:Int))) (n:=n) (fun k hk=>?_) ?_
  ·unfold jX
   simp only[]
   rw[if_pos (by rw[decide_eq_true_eq];omega),if_neg (by omega),Mr hp hp2 (by omega) (by omega),Option.bind_some,zE hp,Nn hp hp2 hn2 hl,Option.bind_some,rW (by rw[La];omega) (by omega),Option.bind_some,Ya,w64 (by omega)]
   simp
  ·unfold jX
   simp only[]
   rw[if_neg (by rw[decide_eq_true_eq];omega)]
 rw[this]
 rfl
def inv(p a:Nat):Nat:=a^(p-2)%p
theorem aAN{p a:Nat}(h:Pr p)(ha:0<a)(hl:a<p):inv p a*a%p=1:=by
 have hp:=h.1
 unfold inv
 rw[Nat.mod_mul_mod,← Nat.pow_succ,show (p-2).succ=p-1 by omega]
 exact h.fermat1 fun hd=>by have:=Nat.le_of_dvd ha hd;omega
theorem Sa{p a:Nat}(v2 v3:Int)(hp:2≤p)(hp2:p≤2147483647)(ha:a<p):dL p v2 v3 a=some ((inv p a:Nat):Int):=by
 unfold dL
 rw[w64 (by omega),show (p:Int)-2=((p-2:Nat):Int) by omega,aBX _ _ hp hp2 (by omega) (by omega)]
 rfl
theorem Ns{p a:Nat}(hp:2≤p)(hp2:p≤2147483647)(ha:a<p):gA a p=some ((inv p a:Nat):Int):=by
 unfold gA
 have e:(a:Int).tmod p=(a:Int):=by rw[Int.tmod_eq_emod_of_nonneg (by omega),Int.emod_eq_of_lt (by omega) (by omega)]
 have hlt:a^(p-2)%p<p:=Nat.mod_lt _ (by omega)
 rw[if_neg (by omega),e,w64 (by omega),show (p:Int)-2=((p-2:Nat):Int) by omega,Mr hp hp2 (by omega) (by omega),Option.bind_some,Int.tmod_eq_emod_of_nonneg (by omega),Int.emod_eq_of_lt (by omega) (by omega)]
 rfl
theorem aBf{p u r n:Nat}(hp:2≤p)(h:u*r%p=1)(F:Ord p r n):Ord p u n:=by
 refine Ord.of_iff F.pos fun m=>?_
 rw[← F.iff hp]
 have e:u^m*r^m%p=1:=by rw[← Nat.mul_pow,Nat.pow_mod,h,Nat.one_pow,Nat.mod_eq_of_lt (by omega)]
 constructor
 ·intro h1
  rw[Nat.mul_mod,h1,Nat.one_mul,Nat.mod_mod] at e
  exact e
 ·intro h1
  rw[Nat.mul_mod,h1,Nat.mul_one,Nat.mod_mod] at e
  exact e
def bkL(p:Nat)(l:List Int)(r n k:Nat):List Int:=(List.range n).map fun j=>if j<k then ((kM p l (inv p r) j*inv p n%p:Nat):Int) else ((kM p l (inv p r) j:Nat):Int)
theorem sU(p:Nat)(l:List Int)(r n k:Nat):(bkL p l r n k).length=n:=by simp[bkL]
theorem Fk{p:Nat}{l:List Int}{r n k j:Nat}(h:j<n):(bkL p l r n k)[j]?=some (if j<k then ((kM p l (inv p r) j*inv p n%p:Nat):Int) else ((kM p l (inv p r) j:Nat):Int)):=by simp[bkL,h]
theorem Qs(p:Nat)(l:List Int)(r n:Nat):bkL p l r n 0=trL p l (inv p r) n:=by simp[bkL,trL]
theorem Vh{p:Nat}{l:List Int}{r n k:Nat}(h:k<n):(bkL p l r n k).set k ((kM p l (inv p r) k*inv p n%p:Nat):Int)=bkL p l r n (k+1):=by
 apply List.ext_getElem?
 intro j
 rw[List.getElem?_set]
 rcases Nat.lt_or_ge j n with hj|hj
 ·by_cases e:k=j
  ·subst e
   rw[if_pos rfl,if_pos (by rw[sU];exact h),Fk hj]
   simp
  ·rw[if_neg e,Fk hj,Fk hj]
   have:(j<k)↔(j<k+1):=by omega
   simp[this]
 ·by_cases e:k=j
  ·omega
  ·rw[if_neg e]
   simp[bkL,hj]
theorem Fld.nlt{p r n:Nat}(F:Fld p r n):n<p:=by
 have h1:=F.prime.1
 have:=Nat.le_of_dvd (by omega) F.dvd
 omega
theorem Fld.iord{p r n:Nat}(F:Fld p r n):Ord p (inv p r) n:=aBf F.prime.1 (aAN F.prime F.r0 F.lt) F.ord
theorem Np{p a:Nat}(hp:0<p):inv p a<p:=Nat.mod_lt _ hp
theorem Ui{p:Nat}(hp:0<p)(l:List Int)(r k:Nat):kM p l r k<p:=Nat.mod_lt _ hp
theorem aAK{p r n:Nat}{l:List Int}(F:Fld p r n)(hl:l.length=n):gC p r n l=some (bkL p l r n n):=by
 have hp:=F.prime.1
 have hp2:=F.le
 have hn2:=F.small
 have hi:=Np (p:=p) (a:=r) (by omega)
 have hj:=Np (p:=p) (a:=n) (by omega)
 unfold gC
 rw[Sa _ _ hp hp2 F.lt,Option.bind_some,Sa _ _ hp hp2 F.nlt,Option.bind_some,zY F.iord hp hp2 hi hn2 hl,Option.bind_some]
 have:run (eQ p r n ((inv p n:Nat):Int) (trL p l (inv p r) n)) (trL p l (inv p r) n,0)=some (bkL p l r n n):=by
  rw[← Qs]
  refine cA (fun k=>(bkL p l r n k,(k:Int))) (n:=n) (fun k hk=>?_) ?_
  ·unfold eQ
   simp only[]
   have ht:=Ui (show 0<p by omega) l (inv p r) k
   rw[sU,if_pos (by rw[decide_eq_true_eq];omega),aL,Fk hk,if_neg (by omega),Option.bind_some,mC _ _ (by omega) (by omega) (by omega),Option.bind_some,Int.toNat_natCast,Vh hk,w64 (by omega)]
   simp
  ·unfold eQ
   simp only[]
   rw[sU,if_neg (by simp)]
 rw[this]
 rfl
theorem Tl{p r n:Nat}{l:List Int}(F:Fld p r n)(hl:l.length=n):iP l p r n=some (bkL p l r n n):=by
 have hp:=F.prime.1
 have hp2:=F.le
 have hn2:=F.small
 have hi:=Np (p:=p) (a:=r) (by omega)
 have hj:=Np (p:=p) (a:=n) (by omega)
 unfold iP
 rw[Ns hp hp2 F.lt,Option.bind_some,Up hp hp2 hi hn2 hl,Option.bind_some]
 have:run (kE p n) (trL p l (inv p r) n,0)=some (bkL p l r n n):=by
  rw[← Qs]
  refine cA (fun k=>(bkL p l r n k,(k:Int))) (n:=n) (fun k hk=>?_) ?_
  ·unfold kE
   simp only[]
   have ht:=Ui (show 0<p by omega) l (inv p r) k
   rw[sU,if_pos (by rw[decide_eq_true_eq];omega),aL,Fk hk,if_neg (by omega),Option.bind_some,Ns hp hp2 F.nlt,Option.bind_some,if_neg (by omega),rU (by omega) (by omega),Int.toNat_natCast,Vh hk,w64 (by omega)]
   simp
  ·unfold kE
   simp only[]
   rw[sU,if_neg (by simp)]
 rw[this]
 rfl
end Go.Rex
namespace Go.Rex
open Go Go.Rex
set_option maxRecDepth 100000
def qA(p:Nat)(l S:List Int)(r k:Nat):Nat:=kM p l r k*inv p (kM p S r k)%p
def vP(p:Nat)(l S:List Int)(r n:Nat):List Int:=(List.range n).map fun k=>((qA p l S r k:Nat):Int)
def bA(p:Nat)(l S:List Int)(r n k:Nat):Nat:=kM p (vP p l S r n) (inv p r) k*inv p n%p
def aBn(p:Nat)(x:Int):Int:=if 2*x>p then x-p else x
def unX(p:Nat)(l S:List Int)(r n k:Nat):Int:=aBn p (bA p l S r n k)
def unW(p:Nat)(l S:List Int)(r n:Nat):List Int:=(List.range n).map (unX p l S r n)
theorem Ud{α:Type}{old new:Nat→α}{m k:Nat}(hk:k<m)(h:new k=old k):mx old new m (k+1)=mx old new m k:=by
 unfold mx
 apply List.map_congr_left
 intro i hi
 by_cases c:i<k
 ·rw[if_pos (by omega),if_pos c]
 ·rw[if_neg c]
  by_cases q:i=k
  ·subst q;rw[if_pos (by omega),h]
  ·rw[if_neg (by omega)]
section
variable {p r n:Nat} {l S:List Int} (F:Fld p r n)
include F
theorem aAh(k:Nat):bA p l S r n k<p:=Nat.mod_lt _ (by have:=F.r0;have:=F.lt;omega)
theorem Vg{a b:Nat}(ha:a<p)(hb:b<p):IntKind.i64.wrap ((a:Int)*(b:Int))=((a*b:Nat):Int)∧(((a*b:Nat):Int)).tmod (p:Int)=((a*b%p:Nat):Int):=by
 have hp:=F.le
 have h:a*b≤2147483647*2147483647:=Nat.mul_le_mul (by omega) (by omega)
 constructor
 ·rw[← Int.natCast_mul,w64 (by omega)]
 ·rw[Int.tmod_eq_emod_of_nonneg (by omega)];exact (Int.natCast_emod _ _).symm
theorem Qq(hl:l.length=n):bB p r n l=some (trL p l r n)∧bG l p r n=some (trL p l r n):=by
 have h2:=F.prime.1
 refine⟨zY F.ord h2 F.le F.lt F.small hl,?_⟩
 unfold bG
 rw[Up h2 F.le F.lt F.small hl,Option.bind_some]
theorem Er{k:Nat}(hk:k<n):(trL p l r n)[k]?=some ((kM p l r k:Nat):Int):=by simp[trL,hk]
theorem Wz(hl:l.length=n):fE p r n (trL p l r n) (trL p S r n)=some (vP p l S r n):=by
 have h2:=F.prime.1
 have hs:=F.small
 have key:=jT (step:=bT p r n (trL p l r n) (trL p S r n)) (st:=fun k (_:Unit)=>((List.range k).map (fun k=>((qA p l S r k:Nat):Int)),(k:Int))) (g:=fun _ x=>x) (fin:=fun _=>vP p l S r n) n (fun _ _=>True) (b0:=()) trivial
  (fun k _ hk _=>⟨by
   have a1:kM p l r k<p:=Nat.mod_lt _ (by omega)
   have a2:kM p S r k<p:=Nat.mod_lt _ (by omega)
   have a3:inv p (kM p S r k)<p:=Nat.mod_lt _ (by omega)
   obtain⟨p1,p2⟩:=Vg F a1 a3
   unfold bT aU
   try simp only
   rw[if_pos (by rw[decide_eq_true_eq];rw[La];omega),aL,Er F hk,Option.bind_some,aL,Er F hk,Option.bind_some,Sa _ _ h2 F.le a2,Option.bind_some,if_neg (by omega),p1,p2,Option.bind_some]
   unfold iT
   rw[if_pos (by simp;omega),Option.bind_some,wsucc (n:=1024) (by omega) (by decide),List.range_succ,List.map_append]
   rfl,trivial⟩) (fun _ _=>by
   unfold bT
   try simp only
   rw[if_neg (by rw[decide_eq_true_eq];rw[La];omega)]
   rfl)
 have k1:=key.1
 unfold fE
 have k2:run (bT p r n (trL p l r n) (trL p S r n)) (([]:List Int),0)=some (vP p l S r n):=k1
 rw[k2,Option.bind_some]
theorem Rq:bkL p (vP p l S r n) r n n=(List.range n).map fun k=>((bA p l S r n k:Nat):Int):=by
 unfold bkL
 apply List.map_congr_left
 intro k hk
 rw[List.mem_range] at hk
 rw[if_pos hk]
 rfl
theorem Yy(k:Nat):gL p r n ((bA p l S r n k:Nat):Int)=some (unX p l S r n k):=by
 have hp:=F.le
 have h:=aAh (l:=l) (S:=S) F k
 unfold gL unX aBn
 have e:(p:Int).tdiv 2=((p/2:Nat):Int):=by rw[Int.tdiv_eq_ediv_of_nonneg (by omega)];omega
 rw[e,w64 (x:=((p/2:Nat):Int)) (by omega),w64 (x:=((bA p l S r n k:Nat):Int)-p) (by omega)]
 by_cases c:2*((bA p l S r n k:Nat):Int)>p
 ·rw[if_pos c,if_pos (by rw[decide_eq_true_eq];omega)]
 ·rw[if_neg c,if_neg (by rw[decide_eq_true_eq];omega)]
theorem Tv(hl:l.length=n):bY p r n l (trL p S r n)=some (unW p l S r n):=by
 have hs:=F.small
 have key:=jT (step:=cZ p r n (bkL p (vP p l S r n) r n n)) (st:=fun k (_:Unit)=>(mx (fun k=>((bA p l S r n k:Nat):Int)) (unX p l S r n) n k,(k:Int))) (g:=fun _ x=>x) (fin:=fun _=>unW p l S r n) n (fun _ _=>True) (b0:=()) trivial
  (fun k _ hk _=>⟨by
   unfold cZ
   try simp only
   rw[if_pos (by rw[decide_eq_true_eq,sU];omega),aL,tD hk,Option.bind_some,Yy F,Option.bind_some,show ((k:Int)).toNat=k by omega,← yH (old:=fun k=>((bA p l S r n k:Nat):Int)) (new:=unX p l S r n) hk,wsucc (n:=1024) (by omega) (by decide)],trivial⟩) (fun _ _=>by
   unfold cZ
   try simp only
   rw[if_neg (by rw[decide_eq_true_eq,sU];omega),zR]
   rfl)
 have k1:=key.1
 simp only[Int.natCast_zero] at k1
 rw[wU,← Rq F] at k1
 unfold bY
 rw[(Qq F hl).1,Option.bind_some,Wz F hl,Option.bind_some,aAK F (by unfold vP;simp),Option.bind_some,k1,Option.bind_some]
theorem Qw:run (cN p n (trL p S r n)) (trL p l r n,0)=some (vP p l S r n)∧run (cP p n (trL p S r n)) (trL p l r n,0)=some (vP p l S r n):=by
 have h2:=F.prime.1
 have hs:=F.small
 have e0:trL p l r n=mx (fun k=>((kM p l r k:Nat):Int)) (fun k=>((qA p l S r k:Nat):Int)) n 0:=by rw[wU];rfl
 have facts:∀ k,k<n→IntKind.i64.wrap (((kM p l r k:Nat):Int)*((inv p (kM p S r k):Nat):Int))=((kM p l r k*inv p (kM p S r k):Nat):Int)∧(((kM p l r k*inv p (kM p S r k):Nat):Int)).tmod (p:Int)=((qA p l S r k:Nat):Int):=fun k _=>Vg F (Nat.mod_lt _ (by omega)) (Nat.mod_lt _ (by omega))
 constructor
 ·have key := jT (step := cN p n (trL p S r n)) (st := fun k (_ : Unit) => (mx (fun k => ((kM p l r k : Nat) : Int)) (fun k => ((qA p l S r k : Nat) : Int)) n k, (k : Int))) (g := fun _ x => x) (fin := fun _ => vP p l S r n) n (fun _ _ => True) (b0 := ()) trivial
    (fun k _ hk _=>⟨by
     obtain⟨p1,p2⟩:=facts k hk
     unfold cN
     try simp only
     rw[if_pos (by rw[decide_eq_true_eq];omega),aL,tD hk,Option.bind_some,aL,Er F hk,Option.bind_some,Ns h2 F.le (show kM p S r k<p from Nat.mod_lt _ (by omega)),Option.bind_some,if_neg (by omega),p1,p2,show ((k:Int)).toNat=k by omega,← yH (old:=fun k=>((kM p l r k:Nat):Int)) (new:=fun k=>((qA p l S r k:Nat):Int)) hk,wsucc (n:=1024) (by omega) (by decide)],trivial⟩) (fun _ _=>by
     unfold cN
     try simp only
     rw[if_neg (by rw[decide_eq_true_eq];omega),zR]
     rfl)
  rw[e0]
  exact key.1
 ·have key := jT (step := cP p n (trL p S r n)) (st := fun k (_ : Unit) => (mx (fun k => ((kM p l r k : Nat) : Int)) (fun k => ((qA p l S r k : Nat) : Int)) n k, (k : Int))) (g := fun _ x => x) (fin := fun _ => vP p l S r n) n (fun _ _ => True) (b0 := ()) trivial
    (fun k _ hk _=>⟨by
     obtain⟨p1,p2⟩:=facts k hk
     unfold cP
     try simp only
     rw[if_pos (by rw[decide_eq_true_eq];omega),aL,tD hk,Option.bind_some,aL,Er F hk,Option.bind_some,Ns h2 F.le (show kM p S r k<p from Nat.mod_lt _ (by omega)),Option.bind_some,if_neg (by omega),p1,p2,show ((k:Int)).toNat=k by omega,← yH (old:=fun k=>((kM p l r k:Nat):Int)) (new:=fun k=>((qA p l S r k:Nat):Int)) hk,wsucc (n:=1024) (by omega) (by decide)],trivial⟩) (fun _ _=>by
     unfold cP
     try simp only
     rw[if_neg (by rw[decide_eq_true_eq];omega),zR]
     rfl)
  rw[e0]
  exact key.1
theorem Tq(k:Nat):IntKind.i64.wrap (2*((bA p l S r n k:Nat):Int))=2*((bA p l S r n k:Nat):Int)∧IntKind.i64.wrap (((bA p l S r n k:Nat):Int)-p)=((bA p l S r n k:Nat):Int)-p:=by
 have hp:=F.le
 have h:=aAh (l:=l) (S:=S) F k
 exact⟨w64 (by omega),w64 (by omega)⟩
theorem Uz(X:Nat→Int):run (cS p n) (List.replicate n (0,0),bkL p (vP p l S r n) r n n,0)=some ((List.range n).map fun k=>(unX p l S r n k,0)) ∧
 run (cQ p n) ((List.range n).map (fun k=>(X k,0)),bkL p (vP p l S r n) r n n,0)=some ((List.range n).map fun k=>(X k,unX p l S r n k)):=by
 have hs:=F.small
 constructor
 ·have key := jT (step := cS p n) (st := fun k (_ : Unit) => (mx (fun _ => ((0, 0) : Int × Int)) (fun k => (unX p l S r n k, 0)) n k, mx (fun k => ((bA p l S r n k : Nat) : Int)) (unX p l S r n) n k, (k : Int))) (g := fun _ x => x) (fin := fun _ => (List.range n).map fun k => (unX p l S r n k, 0)) n (fun _ _ => True) (b0 := ()) trivial
    (fun k _ hk _=>⟨by
     obtain⟨s1,s2⟩:=Tq (l:=l) (S:=S) F k
     have st1:=yH (old:=fun _=>((0,0):Int×Int)) (new:=fun k=>(unX p l S r n k,0)) hk
     have st2:=yH (old:=fun k=>((bA p l S r n k:Nat):Int)) (new:=unX p l S r n) hk
     have gt:=Td (old:=fun k=>((bA p l S r n k:Nat):Int)) (new:=unX p l S r n) (m:=n) k
     unfold cS
     try simp only
     rw[if_pos (by rw[decide_eq_true_eq];omega),aL,tD hk,Option.bind_some,s1,s2,show ((k:Int)).toNat=k by omega]
     by_cases c:2*((bA p l S r n k:Nat):Int)>p
     ·have e:unX p l S r n k=((bA p l S r n k:Nat):Int)-p:=if_pos c
      rw[if_pos (decide_eq_true c),← e,st2,aL,Qo (k+1) hk,if_pos (by omega),Option.bind_some,aL,tD hk,Option.bind_some]
      try simp only
      rw[st1,wsucc (n:=1024) (by omega) (by decide)]
     ·have e:unX p l S r n k=((bA p l S r n k:Nat):Int):=if_neg c
      rw[if_neg (by simpa using c),aL,tD hk,Option.bind_some]
      try simp only
      rw[← e,st1,← Ud (old:=fun k=>((bA p l S r n k:Nat):Int)) (new:=unX p l S r n) hk e,wsucc (n:=1024) (by omega) (by decide)],trivial⟩) (fun _ _=>by
     unfold cS
     try simp only
     rw[if_neg (by rw[decide_eq_true_eq];omega),zR])
  have k1:=key.1
  simp only[Int.natCast_zero] at k1
  rw[wU,wU,← Rq F,← aBd] at k1
  exact k1
 ·have key := jT (step := cQ p n) (st := fun k (_ : Unit) => (mx (fun k => ((X k, 0) : Int × Int)) (fun k => (X k, unX p l S r n k)) n k, mx (fun k => ((bA p l S r n k : Nat) : Int)) (unX p l S r n) n k, (k : Int))) (g := fun _ x => x) (fin := fun _ => (List.range n).map fun k => (X k, unX p l S r n k)) n (fun _ _ => True) (b0 := ()) trivial
    (fun k _ hk _=>⟨by
     obtain⟨s1,s2⟩:=Tq (l:=l) (S:=S) F k
     have st1:=yH (old:=fun k=>((X k,0):Int×Int)) (new:=fun k=>(X k,unX p l S r n k)) hk
     have st2:=yH (old:=fun k=>((bA p l S r n k:Nat):Int)) (new:=unX p l S r n) hk
     unfold cQ
     try simp only
     rw[if_pos (by rw[decide_eq_true_eq];omega),aL,tD hk,Option.bind_some,s1,s2,show ((k:Int)).toNat=k by omega]
     by_cases c:2*((bA p l S r n k:Nat):Int)>p
     ·have e:unX p l S r n k=((bA p l S r n k:Nat):Int)-p:=if_pos c
      rw[if_pos (decide_eq_true c),← e,st2,aL,Qo (k+1) hk,if_pos (by omega),Option.bind_some,aL,tD hk,Option.bind_some]
      try simp only
      rw[st1,wsucc (n:=1024) (by omega) (by decide)]
     ·have e:unX p l S r n k=((bA p l S r n k:Nat):Int):=if_neg c
      rw[if_neg (by simpa using c),aL,tD hk,Option.bind_some]
      try simp only
      rw[← e,st1,← Ud (old:=fun k=>((bA p l S r n k:Nat):Int)) (new:=unX p l S r n) hk e,wsucc (n:=1024) (by omega) (by decide)],trivial⟩) (fun _ _=>by
     unfold cQ
     try simp only
     rw[if_neg (by rw[decide_eq_true_eq];omega),zR])
  have k1:=key.1
  simp only[Int.natCast_zero] at k1
  rw[wU,wU,← Rq F] at k1
  exact k1
theorem Yn(k:Nat):-2147483647≤unX p l S r n k∧unX p l S r n k≤2147483647:=by
 have hp:=F.le
 have h:=aAh (l:=l) (S:=S) F k
 unfold unX aBn
 split<;>omega
end
theorem Vs(X Y:Nat→Int){n:Nat}(hn:n≤1024):run (cR ((List.range n).map X) ((List.range n).map Y)) (([]:List (Int×Int)),0)=some ((List.range n).map fun k=>(X k,Y k)):=by
 have at_:∀(f:Nat→Int) (k:Nat),k<n→((List.range n).map f)[k]?=some (f k):=fun f k hk=>by rw[List.getElem?_map,List.getElem?_range hk];rfl
 have key:=jT (step:=cR ((List.range n).map X) ((List.range n).map Y)) (st:=fun k (_:Unit)=>((List.range k).map (fun k=>(X k,Y k)),(k:Int))) (g:=fun _ x=>x) (fin:=fun _=>(List.range n).map fun k=>(X k,Y k)) n (fun _ _=>True) (b0:=()) trivial
  (fun k _ hk _=>⟨by
   unfold cR
   try simp only
   rw[if_pos (by rw[decide_eq_true_eq];simp only[List.length_map,List.length_range];omega),aL,at_ X k hk,Option.bind_some,aL,at_ Y k hk,Option.bind_some]
   unfold iT
   rw[if_pos (by simp;omega),Option.bind_some,wsucc (n:=1024) (by omega) (by decide),List.range_succ,List.map_append]
   rfl,trivial⟩) (fun _ _=>by
   unfold cR
   try simp only
   rw[if_neg (by rw[decide_eq_true_eq];simp only[List.length_map,List.length_range];omega)])
 exact key.1
theorem So(W:List (Int×Int))(lW:W.length≤1024):mP W=some (W.map (·.1),W.map (·.2)):=by
 have key:=Pq (step:=gP W) (fun k (b:List Int×List Int)=>(b.1,b.2,(k:Int))) (fun b z=>(.inl (b.1++[z.1],b.2++[z.2]):(List Int×List Int) ⊕ (List Int×List Int))) (fun b=>b) (fun k b=>b.1.length=k∧b.2.length=k) W
  (fun k z b hz hb=>by
   have hk:=(List.getElem?_eq_some_iff.1 hz).1
   refine⟨?_,fun b' hb'=>by obtain rfl:=Sum.inl.inj hb';simp[hb.1,hb.2]⟩
   unfold gP
   try simp only
   rw[if_pos (by rw[decide_eq_true_eq];omega),aL,hz,Option.bind_some]
   try simp only
   unfold iT
   rw[if_pos (by simp;omega),Option.bind_some,if_pos (by simp;omega),Option.bind_some,wsucc (n:=1024) (by omega) (by decide)])
  (fun b hb=>by
   unfold gP
   try simp only
   rw[if_neg (by rw[decide_eq_true_eq];omega)]) (b0:=([],[])) ⟨rfl,rfl⟩
 rw[Ks] at key
 have k2:run (gP W) (([]:List Int),([]:List Int),0)=some (W.map (·.1),W.map (·.2)):=key
 unfold mP
 rw[k2,Option.bind_some]
end Go.Rex
namespace Go.Rex
open Go Go.Rex
set_option maxRecDepth 100000
noncomputable def otV(W:List (Int×Int))(S:List Int)(p r n:Nat):List (Nat×Nat)×Int:=rec ((List.range n).map fun k=>(unX p (W.map (·.1)) S r n k,unX p (W.map (·.2)) S r n k))
section
variable {L:Nat} {ts:List Nat} {s p r n:Nat}
theorem Zr(hr:Reg L ts)(h0:0<s)(hs:s<2^L)(F:Fld p r n){l:List (Nat×Nat)}(G:GoodL l)(hl:l.length=n)(hn:n=2^L-1):((cT L (ints ts) s).bind fun v15 =>
 (bB p r n v15).bind fun v16 =>
 (bC l).bind fun v17 =>
 (mP v17).bind fun (v18,v19) =>
 (bY p r n v18 v16).bind fun v20 =>
 (bY p r n v19 v16).bind fun v21 =>
 (run (cR v20 v21) (([]:List (Int×Int)),0)).bind fun v31 =>
 (bR v31).bind fun (v32,v33) =>
 some (v32,v33))=some (otV (nums l) (sgl L ts s (2^L-1)) p r n):=by
 have hs2:=F.small
 have ln:=Vj L ts s (2^L-1)
 have nl:=Fp l
 rw[Xd hr h0 hs,Option.bind_some]
 generalize sgl L ts s (2^L-1)=S at *
 rw[(Qq F (l:=S) (by omega)).1,Option.bind_some,Km G,Option.bind_some]
 generalize nums l=W at *
 rw[So W (by omega),Option.bind_some]
 dsimp only
 rw[Tv F (l:=W.map (·.1)) (by rw[List.length_map];omega),Option.bind_some,Tv F (l:=W.map (·.2)) (by rw[List.length_map];omega),Option.bind_some]
 unfold unW
 rw[Vs _ _ hs2,Option.bind_some,aBj]
 exact Yz _ (by simp only[List.length_map,List.length_range];omega)
theorem aAJ (hr : Reg L ts) (h0 : 0 < s) (hs : s < 2 ^ L) (F : Fld p r n) {l : List (Nat × Nat)} (G : GoodL l) (hl : l.length = n) (hn : n = 2 ^ L - 1) : ((jF L (ints ts) s).bind fun v15 =>
              (bG v15 p r n).bind fun v16 =>
              (mkI 16 (n:Int) ((0,0):(Int×Int))).bind fun v17 =>
              (bZ l).bind fun v18 =>
              (fR v18 0).bind fun v19 =>
              (bG v19 p r n).bind fun v20 =>
              (run (cN p n v16) (v20,0)).bind fun v30 =>
              (iP v30 p r n).bind fun v31 =>
              (run (cS p n) (v17,v31,0)).bind fun v48 =>
              (bZ l).bind fun v49 =>
              (fR v49 1).bind fun v50 =>
              (bG v50 p r n).bind fun v51 =>
              (run (cP p n v16) (v51,0)).bind fun v61 =>
              (iP v61 p r n).bind fun v62 =>
              (run (cQ p n) (v48,v62,0)).bind fun v79 =>
              (run (fW) ()).bind fun _ =>
              (eY v79).bind fun (v80,v81) =>
              some (v80,v81))=some (otV (nums l) (sgl L ts s (2^L-1)) p r n):=by
 have hs2:=F.small
 have ln:=Vj L ts s (2^L-1)
 have nl:=Fp l
 rw[Vo hr h0 hs,Option.bind_some]
 generalize sgl L ts s (2^L-1)=S at *
 rw[(Qq F (l:=S) (by omega)).2,Option.bind_some,aB9 n hs2,Option.bind_some,aAc G,Option.bind_some]
 generalize nums l=W at *
 have l1:(W.map (·.1)).length=n:=by rw[List.length_map];omega
 have l2:(W.map (·.2)).length=n:=by rw[List.length_map];omega
 have q1:=(Qw (l:=W.map (·.1)) (S:=S) F).1
 have q2:=(Qw (l:=W.map (·.2)) (S:=S) F).2
 have t1:=(Uz (l:=W.map (·.1)) (S:=S) F (fun _=>0)).1
 have t2:=(Uz (l:=W.map (·.2)) (S:=S) F (unX p (W.map (·.1)) S r n)).2
 have b1:=Tl F (l:=vP p (W.map (·.1)) S r n) (by unfold vP;simp)
 have b2:=Tl F (l:=vP p (W.map (·.2)) S r n) (by unfold vP;simp)
 have hrun:run fW ()=some ():=iH rfl
 rw[(Uh W (by omega)).1,Option.bind_some,(Qq F l1).2,Option.bind_some,q1,Option.bind_some,b1,Option.bind_some,t1,Option.bind_some,Option.bind_some,(Uh W (by omega)).2,Option.bind_some,(Qq F l2).2,Option.bind_some,q2,Option.bind_some,b2,Option.bind_some,t2,Option.bind_some,hrun,Option.bind_some,aBj]
 refine aAQ _ (by simp only[List.length_map,List.length_range];omega) (fun z hz=>?_)
 obtain⟨k,_,rfl⟩:=List.mem_map.1 hz
 have u1:=Yn (l:=W.map (·.1)) (S:=S) F k
 have u2:=Yn (l:=W.map (·.2)) (S:=S) F k
 unfold mid
 dsimp only
 omega
end
theorem Ct{l:List (Nat×Nat)}{L:Int}{t:List Int}(s p r n:Int)(ht:t.length≤12)(h:lE l≠0∨chk L t≠0):cJ l L t s p r n=some ([],if lE l≠0 then lE l else chk L t):=by
 unfold cJ cC bE dP
 rw[Option.bind_some,Option.bind_some,Bo]
 simp only
 rw[Option.bind_some]
 by_cases h1:lE l=0
 ·have h2 : chk L t ≠ 0 := by
    rcases h with h|h
    ·exact absurd h1 h
    ·exact h
  rw[if_neg (by simpa using h1),Bj L t ht,Option.bind_some,if_pos (by simpa using h2),Option.bind_some,if_pos (by simpa using h2),if_neg (by simpa using h1)]
 ·rw[if_pos (by simpa using h1),Option.bind_some,if_pos (by simpa using h1),if_pos h1]
theorem Hr{l:List (Nat×Nat)}{L:Int}{t:List Int}(s p r n:Int)(ht:t.length≤12)(h:lE l≠0∨chk L t≠0):cL l L t s p r n=some ([],if lE l≠0 then lE l else chk L t):=by
 unfold cL
 rw[Gw,Option.bind_some]
 by_cases h1:lE l=0
 ·have h2 : chk L t ≠ 0 := by
    rcases h with h|h
    ·exact absurd h1 h
    ·exact h
  have hs:eH L t s=some (chk L t):=by
   unfold eH
   rw[Uo _ _ ht,Option.bind_some,if_pos (by simpa using h2)]
  rw[if_neg (by simpa using h1),hs,Option.bind_some,if_pos (by simpa using h2),if_neg (by simpa using h1)]
 ·rw[if_pos (by simpa using h1),if_pos h1]
theorem aB2{l:List (Nat×Nat)}{L:Nat}{t:List Int}(s p r n:Int)(ht:t.length≤12)(hl:lE l=0)(hc:chk L t=0)(hL:L≤8)(hs:¬(1≤s∧s≤((2^L-1:Nat):Int))):cJ l L t s p r n=some ([],2)∧cL l L t s p r n=some ([],2):=by
 constructor
 ·unfold cJ cC bE dP
  rw[Option.bind_some,Option.bind_some,Bo]
  simp only
  rw[Option.bind_some,if_neg (by simpa using hl),Bj _ t ht,Option.bind_some,hc,if_neg (by decide),Dc t s hL,Option.bind_some,if_neg hs]
  rfl
 ·unfold cL
  rw[Gw,Option.bind_some,if_neg (by simpa using hl),Cz s ht hc hL,Option.bind_some,if_neg hs]
  rfl
theorem Wy(l:List (Nat×Nat)){L:Nat}(t:List Int)(p r n:Int)(hL:L≤8):dT l L t p r n=some (if l.length=2^L-1∧n=((2^L-1:Nat):Int) then 0 else 13):=by
 unfold dT aD aA
 rw[Eo hL,Option.bind_some]
 by_cases h:l.length=2^L-1
 ·rw[if_neg (by simp;omega),Option.bind_some]
  by_cases h2:n=((2^L-1:Nat):Int)
  ·rw[if_pos ⟨h,h2⟩,decide_eq_false (show ¬ n≠((2^L-1:Nat):Int) from fun x=>x h2)]
   rfl
  ·rw[if_neg (fun x=>h2 x.2),decide_eq_true h2]
   rfl
 ·have h':¬((l.length:Int)=((2^L-1:Nat):Int)):=by omega
  rw[if_pos (show decide ((l.length:Int)≠((2^L-1:Nat):Int))=true from decide_eq_true h'),if_neg (show ¬(l.length=2^L-1∧n=((2^L-1:Nat):Int)) from fun x=>h x.1)]
  rfl
noncomputable def otG(l:List (Nat×Nat))(L:Nat)(ts:List Nat)(s m:Nat)(e p r n:Int):List (Nat×Nat)×Int:=if e≠0 then ([],e) else if m=2^L-1 then if l.length=2^L-1∧n=((2^L-1:Nat):Int) then otV (nums l) (sgl L ts s (2^L-1)) p.toNat r.toNat n.toNat else ([],13) else ([],22)
theorem aCW{l:List (Nat×Nat)}{L:Nat}{ts:List Nat}{s m:Nat}{p r n e:Int}(ht:(ints ts).length≤12)(hl:lE l=0)(hc:chk L (ints ts)=0)(hr:Reg L ts)(h0:0<s)(hs:s<2^L)(hp:Ke L ts 1 m)(hm:m≤2^L-1)(c1:gD p r n=some e)(c2:dG p r n=some e):cJ l L (ints ts) s p r n=some (otG l L ts s m e p r n)∧cL l L (ints ts) s p r n=some (otG l L ts s m e p r n):=by
 have hL:=hr.most
 have hin:1≤(s:Int)∧(s:Int)≤((2^L-1:Nat):Int):=by omega
 unfold otG
 constructor
 ·unfold cJ cC bE dP iL
  rw[Option.bind_some,Option.bind_some,Bo]
  simp only
  rw[Option.bind_some,if_neg (by simpa using hl),Bj _ _ ht,Option.bind_some,hc,if_neg (by decide),Dc _ _ hL,Option.bind_some,if_pos hin,if_neg (by decide),c1,Option.bind_some,Option.bind_some,aCE hr hp hm,Option.bind_some,Wy l _ _ _ _ hL]
  by_cases he:e=0
  ·subst he
   rw[if_neg (by decide),if_neg (show ¬(0:Int)≠0 from fun x=>x rfl)]
   by_cases h1:m=2^L-1
   ·rw[if_pos h1,if_pos h1,if_neg (by decide),Option.bind_some]
    by_cases h2:l.length=2^L-1∧n=((2^L-1:Nat):Int)
    ·rw[if_pos h2,if_pos h2,if_neg (by decide),Option.bind_some,if_neg (by decide)]
     obtain⟨P,R,N,rfl,rfl,rfl,F⟩:=tW c2
     exact Zr hr h0 hs F (Uv hl) (by omega) (by omega)
    ·rw[if_neg h2,if_neg h2,if_pos (by decide),Option.bind_some,if_pos (by decide)]
   ·rw[if_neg h1,if_neg h1,if_pos (by decide),Option.bind_some,if_pos (by decide)]
  ·rw[if_pos (by simpa using he),if_pos he,Option.bind_some,if_pos (by simpa using he)]
 ·unfold cL
  rw[Gw,Option.bind_some,if_neg (by simpa using hl),Cz _ ht hc hL,Option.bind_some,if_pos hin,if_neg (by decide),c2,Option.bind_some]
  by_cases he:e=0
  ·subst he
   rw[if_neg (by decide),if_neg (show ¬(0:Int)≠0 from fun x=>x rfl),aCV hr hp hm,Option.bind_some]
   by_cases h1:m=2^L-1
   ·rw[if_pos (decide_eq_true h1),if_pos h1,Es hL,Option.bind_some]
    by_cases h2:l.length=2^L-1
    ·rw[if_neg (by simpa using (by omega:(l.length:Int)=((2^L-1:Nat):Int)))]
     by_cases h3:n=((2^L-1:Nat):Int)
     ·rw[if_neg (by simpa using h3),if_pos ⟨h2,h3⟩]
      obtain⟨P,R,N,rfl,rfl,hN,F⟩:=tW c2
      subst hN
      have hN:N=2^L-1:=by omega
      rw[← hN]
      have:=aAJ hr h0 hs F (Uv hl) (by omega) hN
      rw[← hN] at this
      exact this
     ·rw[if_pos (by simpa using h3),if_neg (fun x=>h3 x.2)]
    ·rw[if_pos (by rw[decide_eq_true_eq];omega),if_neg (fun x=>h2 x.1)]
   ·rw[if_neg (by simpa using h1),if_neg h1]
  ·rw[if_pos (by simpa using he),if_pos he]
theorem Xl(l:List (Nat×Nat)){L:Nat}(hL:L≤8)(ts:List Nat)(s m:Nat)(e p r n:Int):aN (otG l L ts s m e p r n).1 (otG l L ts s m e p r n).1=some true:=by
 have hp:=pow8 hL
 have nil:aN [] []=some true:=pK _ (by simp) (fun p hp=>by simp at hp)
 unfold otG otV
 split
 ·exact nil
 ·split
  ·split
   ·rename_i h
    exact Xu _ (by simp only[List.length_map,List.length_range];omega)
   ·exact nil
  ·exact nil
theorem aBc(l:List (Nat×Nat))(L:Int)(t:List Int)(s p r n:Int)(ht:t.length≤12):∃ x,cJ l L t s p r n=some x∧cL l L t s p r n=some x∧aN x.1 x.1=some true:=by
 by_cases h1:lE l=0
 ·by_cases h2:chk L t=0
  ·obtain⟨k,ts,rfl,rfl,hr⟩:=aBC ht h2
   have hL:=hr.most
   have hp:=pow8 hL
   obtain⟨m,hp,hm⟩:=Rp hr (s:=1) (by omega) (Sk hr)
   by_cases q:1≤s∧s≤((2^k-1:Nat):Int)
   ·obtain⟨s,rfl⟩:∃ m:Nat,s=m:=⟨s.toNat,by omega⟩
    obtain⟨e,c1,c2⟩:=Js p r n
    obtain⟨e1,e2⟩:=aCW (s:=s) ht h1 h2 hr (by omega) (by omega) hp hm c1 c2
    exact⟨_,e1,e2,Xl _ hL _ _ _ _ _ _ _⟩
   ·obtain⟨e1,e2⟩:=aB2 s p r n ht h1 h2 hL q
    exact⟨_,e1,e2,pK _ (by simp) (fun p hp=>by simp at hp)⟩
  ·exact⟨_,Ct s p r n ht (.inr h2),Hr s p r n ht (.inr h2),pK _ (by simp) (fun p hp=>by simp at hp)⟩
 ·exact⟨_,Ct s p r n ht (.inl h1),Hr s p r n ht (.inl h1),pK _ (by simp) (fun p hp=>by simp at hp)⟩
theorem Hv(l:List (Nat×Nat))(L:Int)(t:List Int)(s p r n:Int):iZ l L t s p r n=some true:=by
 unfold iZ qN
 obtain⟨b,hb⟩:=aAb l
 rw[hb,Option.bind_some]
 cases b with
 | false=>rw[if_neg (by decide)]
 | true =>
 have hl:l.length≤1026:=by have:=Wc hb;omega
 rw[if_pos rfl]
 by_cases h1:(t.length:Int)>12
 ·rw[if_pos (decide_eq_true h1)]
 rw[if_neg (by simpa using h1)]
 have ht:t.length≤12:=by omega
 obtain⟨⟨x1,x2⟩,e1,e2,e3⟩:=aBc l L t s p r n ht
 simp only at e3
 rw[Wp l hl,Option.bind_some,Yc L t (by omega),Option.bind_some]
 simp only
 rw[Option.bind_some]
 simp only
 rw[e1,Option.bind_some]
 simp only[Option.bind_some]
 rw[e2]
 simp only[Option.bind_some]
 rw[e3]
 simp
end Go.Rex
namespace Go.Rex
open Go Go.ChangeShapes Go.WideShapes Go.ChangeAt Go.RowKit Go.Joins Go.Proofs
structure Arg(W:World)(v':Value)(p:TV)(bs:List Blk)(is:List Info)(av:Nat→Value):Prop where
 vr:∀(D:Nat→Prop) (m:NMap) n,(∀ j,j<bs.length→D (n+j))→(∀(j:Nat) i,is[j]?=some i→m (n+j)=i)→VR D m (av n) v'
 vl:∀(Fz:Nat→Prop) (h:List Blk) n,(∀ j,j<bs.length→Fz (n+j))→(∀(j:Nat) b,bs[j]?=some b→h[n+j]?=some b)→VL Fz h noL p (av n)
 ok:∀(D:Nat→Prop) (m:NMap) n,(∀ j,j<bs.length→D (n+j))→(∀(j:Nat) i,is[j]?=some i→m (n+j)=i)→∀(j:Nat) b,bs[j]?=some b→BlkOk D m W (n+j) b
 lt:∀(j:Nat) b i,bs[j]?=some b→is[j]?=some i→b ≠ .dead→i.block<W.heap.size
 len:is.length=bs.length
structure Args(W:World)(vs':List Value)(ps:List TV)(bs:List Blk)(is:List Info)(av:Nat→List Value):Prop where
 vr:∀(D:Nat→Prop) (m:NMap) n,(∀ j,j<bs.length→D (n+j))→(∀(j:Nat) i,is[j]?=some i→m (n+j)=i)→VRs D m (av n) vs'
 vl:∀(Fz:Nat→Prop) (h:List Blk) n,(∀ j,j<bs.length→Fz (n+j))→(∀(j:Nat) b,bs[j]?=some b→h[n+j]?=some b)→VLs Fz h noL ps (av n)
 ok:∀(D:Nat→Prop) (m:NMap) n,(∀ j,j<bs.length→D (n+j))→(∀(j:Nat) i,is[j]?=some i→m (n+j)=i)→∀(j:Nat) b,bs[j]?=some b→BlkOk D m W (n+j) b
 lt:∀(j:Nat) b i,bs[j]?=some b→is[j]?=some i→b ≠ .dead→i.block<W.heap.size
 len:is.length=bs.length
def nm(is:List Info):NMap:=fun n=>is.getD n ⟨0,0,0,0⟩
section
variable {W:World} {vs':List Value} {ps:List TV} {bs:List Blk} {is:List Info} {av:Nat→List Value}
end
theorem len1{α:Type}{l:List α}(h:l.length=1):∃ x0,l=[x0]:=by
 match l,h with
 | [x0],_=>exact⟨_,rfl⟩
theorem len2{α:Type}{l:List α}(h:l.length=2):∃ x0 x1,l=[x0,x1]:=by
 match l,h with
 | [x0,x1],_=>exact⟨_,_,rfl⟩
theorem len3{α:Type}{l:List α}(h:l.length=3):∃ x0 x1 x2,l=[x0,x1,x2]:=by
 match l,h with
 | [x0,x1,x2],_=>exact⟨_,_,_,rfl⟩
def Ku(c:Value):Prop:=rE c=true∧∀ D m,VR D m c c
theorem wW(k:IntKind)(n:Int):Ku (.int k n):=⟨rfl,fun _ _=>.int _ _⟩
theorem Arg.atom{W:World}{v:Value}(h:Ku v):Arg W v (.v v) [] [] (fun _=>v):=
 ⟨fun _ _ _ _ _=>h.2 _ _,fun _ _ _ _ _=>.v _ _ h.1,fun _ _ _ _ _ j b h=>by simp at h,fun j b i h=>by simp at h,rfl⟩
theorem Arg.agg{W:World}{l:List Value}(h:∀ c∈l,Ku c):Arg W (.agg ⟨l⟩) (.agg (l.map .v)) [] [] (fun _=>.agg ⟨l⟩):=by
 refine⟨fun _ _ _ _ _=>.agg _ _ rfl fun i v v' hv hv'=>?_,fun _ _ _ _ _=>.agg _ _ _ (by simp) fun i p x hp hx=>?_,fun _ _ _ _ _ j b h=>by simp at h,fun j b i h=>by simp at h,rfl⟩
 ·obtain rfl:v=v':=Option.some.inj (hv.symm.trans hv')
  exact (h v (List.mem_of_getElem? hv)).2 _ _
 ·rw[List.getElem?_map,hx] at hp
  obtain rfl:=Option.some.inj hp
  exact .v _ _ (h x (List.mem_of_getElem? hx)).1
theorem Fm{α β:Type}{g:α→List β}{es:Nat}(hg:∀ x,(g x).length=es)(he:0<es):∀(xs:List α) i,(xs.flatMap g)[i]?=(xs[i/es]?).bind fun x=>(g x)[i%es]?
 | [],i=>by simp
 | x::t,i=>by
  rw[List.flatMap_cons]
  rcases Nat.lt_or_ge i es with h|h
  ·rw[List.getElem?_append_left (by rw[hg];exact h),Nat.div_eq_of_lt h,Nat.mod_eq_of_lt h]
   rfl
  ·rw[List.getElem?_append_right (by rw[hg];exact h),hg,Fm hg he t (i-es)]
   have e1:i/es=(i-es)/es+1:=by rw[Nat.div_eq_sub_div he h]
   have e2:i%es=(i-es)%es:=Nat.mod_eq_sub_mod h
   rw[e1,e2]
   rfl
theorem Cr{α β:Type}{g:α→List β}{es:Nat}(hg:∀ x,(g x).length=es):∀(xs:List α),(xs.flatMap g).length=xs.length*es
 | []=>by simp
 | x::t=>by rw[List.flatMap_cons,List.length_append,hg,Cr hg t,List.length_cons,Nat.add_mul];omega
theorem De{α:Type}{f:α→List TV}{g:α→List Value}(hf:∀ x,f x=(g x).map .v):∀(xs:List α),(xs.map f).flatten=(xs.flatMap g).map .v
 | []=>rfl
 | x::t=>by rw[List.map_cons,List.flatten_cons,De hf t,List.flatMap_cons,List.map_append,hf]
theorem Cv{α:Type}{Q:Nat→α→Prop}:∀ n,(∀ i,i<n→∃ x,Q i x)→∃ xs:List α,xs.length=n∧∀(i:Nat) x,xs[i]?=some x→Q i x
 | 0,_=>⟨[],rfl,fun i x h=>by simp at h⟩
 | n+1,h=>by
  obtain⟨xs,hl,hq⟩:=Cv n (fun i hi=>h i (by omega))
  obtain⟨x,hx⟩:=h n (by omega)
  refine⟨xs++[x],by simp[hl],fun i y hy=>?_⟩
  rcases Nat.lt_or_ge i n with hi|hi
  ·rw[List.getElem?_append_left (by omega)] at hy
   exact hq i y hy
  ·rw[List.getElem?_append_right (by omega),hl] at hy
   have:i=n:=by
    rcases Nat.lt_or_ge 0 (i-n) with g|g
    ·rw[List.getElem?_eq_none (by simp;omega)] at hy;cases hy
    ·omega
   subst this
   simp at hy
   subst hy
   exact hx
section
variable {H:Type} {enc:TypeId×Value→H} {W:World} {base:Nat} {spare:Nat→Bool} {held:Bool}
theorem Gb{α:Type}{f:α→List TV}{g:α→List Value}{es:Nat}(he:0<es)(hf:∀ x,f x=(g x).map .v)(hg:∀ x,(g x).length=es)(hat:∀ x,∀ c∈g x,Ku c)
 {P:Program} {t te:TypeId} (ht:P.underlying t=some (.slice te)) (hC:P.cellsOf te=es) {r:Reach} {b0:Nat} {v':Value} (hval:Cell.okWide P W r b0 t v')
 (elem:∀ n cs y,DataW.trod enc P W base spare held n te cs=some y→cs.length=es→∃ x:α,cs=g x)
 {fuel:Nat} {x:DataW H×List MemPlace} (h:DataW.trod enc P W base spare held fuel t [v']=some x):∃(xs:List α) (bs:List Blk) (is:List Info) (av:Nat→Value),Arg W v' (.list es (xs.map f)) bs is av:=by
 rcases DataW.trod_slice ht h with⟨hv,_⟩|⟨a,len,cap,elems,rest,n,_,hv,_,hb,hlc,hcm,hel,hel2,_,_⟩
 ·obtain rfl:v' = .slice none 0 0:=by simpa using hv
  exact⟨[],[],[],fun _=>.slice none 0 0,fun _ _ _ _ _=>.nilSlice 0 0,fun _ _ _ _ _=>.nillist _ _,fun _ _ _ _ _ j b h=>by simp at h,fun j b i h=>by simp at h,rfl⟩
 ·obtain rfl:v' = .slice (some a) len cap:=by simpa using hv
  have hok:len≤cap∧(cap:Int)≤IntKind.i64.max∧W.has P r b0 a te cap:=by
   unfold Cell.okWide at hval
   simp only[ht] at hval
   unfold Cell.ok at hval
   simpa only[ht] using hval
  obtain⟨gb,o,s⟩:=a
  obtain⟨_,_,_,hs,row,cells,hsh,_⟩:=hok
  simp only at hs hsh
  subst hs
  have hgb:gb<W.heap.size:=by
   unfold World.shape? at hsh
   rcases Nat.lt_or_ge gb W.heap.size with hg|hg
   ·exact hg
   ·rw[Array.getElem?_eq_none hg] at hsh
    simp at hsh
  have key:∀ i,i<len→∃ x:α,∀ j,j<es→W.cell? ⟨gb,o+i*es+j,none⟩=(g x)[j]?:=fun i hi=>by
   have h1:=hel2 i hi
   rw[List.getElem?_eq_getElem (by omega),Option.bind_eq_some_iff] at h1
   obtain⟨cs,hcs,htr⟩:=h1
   rw[hC] at hcs
   unfold World.cells? at hcs
   split at hcs
   ·have hlen:=mapM_some_length hcs
    simp at hlen
    obtain⟨x,rfl⟩:=elem n cs _ htr hlen
    refine⟨x,fun j hj=>?_⟩
    have:=mapM_some_get hcs j j (by simp[hj])
    have e:((⟨gb,o,none⟩:Addr).add (i*es)).add j=⟨gb,o+i*es+j,none⟩:=by
     unfold Addr.add
     split<;>split<;>simp_all
    rw[← e]
    exact this
   ·cases hcs
  obtain⟨xs,hl,hq⟩:=Cv len key
  subst hl
  have hlen:=Cr hg xs
  have hfl:=De hf xs
  refine⟨xs,[.cells es (xs.flatMap g)],[⟨gb,o,cap*es,es⟩],fun n=>.slice (some ⟨n,0,none⟩) xs.length xs.length,fun D m n hD hm=>?_,fun Fz h n hF hh=>?_,fun D m n hD hm j b hb=>?_,fun j b i hb hi hd=>?_,rfl⟩
  ·have e:=hm 0 _ rfl
   rw[Nat.add_zero] at e
   have:=VR.slice (D:=D) (m:=m) n 0 xs.length xs.length cap (hD 0 (by simp)) (Nat.le_refl _) hlc (.inr (by rw[e];simp))
   rw[e] at this
   exact this
  ·have hw:∀ r∈xs.map f,r.length=es:=fun r hr=>by obtain⟨x,_,rfl⟩:=List.mem_map.1 hr;rw[hf,List.length_map,hg]
   have:=VL.list (Fz:=Fz) (h:=h) noL es (xs.map f) n 0 xs.length (xs.flatMap g) es (hF 0 (by simp)) (hh 0 _ rfl) (.inl rfl) hw (by simp) (by rw[List.length_map,hlen];omega) (fun j p x hp hx=>by
    rw[hfl,List.getElem?_map,Option.map_eq_some_iff] at hp
    rw[Nat.zero_add] at hx
    obtain⟨y,h1,rfl⟩:=hp
    obtain rfl:y=x:=Option.some.inj (h1.symm.trans hx)
    obtain⟨z,_,hz⟩:=List.mem_flatMap.1 (List.mem_of_getElem? hx)
    exact .v _ _ (hat z y hz).1)
   rw[List.length_map] at this
   exact this
  ·match j,hb with
   | 0,hb =>
    obtain rfl:=Option.some.inj hb
    have e:=hm 0 _ rfl
    rw[Nat.add_zero] at e ⊢
    refine⟨by rw[e],fun i v hv=>⟨v,?_,?_⟩⟩
    ·rw[Fm hg he,Option.bind_eq_some_iff] at hv
     obtain⟨x,hx,hv⟩:=hv
     rw[e]
     have:=hq _ x hx (i%es) (Nat.mod_lt _ he)
     rw[Nat.add_assoc,Nat.mul_comm,Nat.div_add_mod] at this
     rw[this]
     exact hv
    ·obtain⟨z,_,hz⟩:=List.mem_flatMap.1 (List.mem_of_getElem? hv)
     exact (hat z v hz).2 _ _
   | j+1,hb=>simp at hb
  ·match j,hb,hi with
   | 0, hb, hi => obtain rfl := Option.some.inj hi
                  exact hgb
   | j+1,hb,hi=>simp at hb
theorem Xa{α:Type}{f:α→List TV}{g:α→List Value}{es:Nat}(he:0<es)(hf:∀ x,f x=(g x).map .v)(hg:∀ x,(g x).length=es)(hat:∀ x,∀ c∈g x,Ku c)
 {P:Program} {t te:TypeId} (ht:P.underlying t=some (.slice te)) (hC:P.cellsOf te=es) {r:Reach} {b0:Nat} {v':Value} (hval:Value.okWide P W r b0 t v')
 (elem:∀ n cs y,DataW.trod enc P W base spare held n te cs=some y→cs.length=es→∃ x:α,cs=g x)
 {fuel:Nat} {x:DataW H×List MemPlace} (h:DataW.trod enc P W base spare held fuel t [v']=some x):∃(xs:List α) (bs:List Blk) (is:List Info) (av:Nat→Value),Arg W v' (.list es (xs.map f)) bs is av:=by
 refine Gb he hf hg hat ht hC (r:=r) (b0:=b0) ?_ elem h
 unfold Value.okWide at hval
 simpa only[ht] using hval
def AI(cs:List Value):Prop:=∀ c∈cs,∃ n:Int,c = .int .i64 n
theorem AI.list{cs:List Value}(h:AI cs):∃ l:List Int,cs=l.map (.int .i64):=by
 induction cs with
 | nil=>exact⟨[],rfl⟩
 | cons c t ih =>
  obtain⟨n,rfl⟩:=h c (by simp)
  obtain⟨l,rfl⟩:=ih fun c hc=>h c (by simp[hc])
  exact⟨n::l,rfl⟩
variable {P:Program}
theorem aBr{te:TypeId}(ht:P.underlying te=some (.int .i64)){fuel:Nat}{cs:List Value}{x:DataW H×List MemPlace}(h:DataW.trod enc P W base spare held fuel te cs=some x):AI cs:=by
 obtain⟨n,rfl,_⟩:=DataW.trod_int ht h
 exact fun c hc=>⟨n,by simpa using hc⟩
theorem Mm{t:TypeId}(ht:P.underlying t=some (.int .i64)){r:Reach}{b:Nat}{v:Value}(w:Cell.okWide P W r b t v):∃ n:Int,v = .int .i64 n:=by
 unfold Cell.okWide at w
 simp only[ht] at w
 unfold Cell.ok at w
 simp only[ht] at w
 cases v<;>first|exact⟨_,by rw[w.1]⟩|exact absurd w (by simp)
theorem Zb{t ti:TypeId}{fs:Array Field}{n:Nat}(ht:P.underlying t=some (.struct fs))(hti:P.underlying ti=some (.int .i64))(hct:P.cellTypes P.depth t=some (List.replicate n ti))(hn:P.cellsOf t=n)
 {r:Reach} {b:Nat} {v:Value} (w:Value.okWide P W r b t v):∃ l:List Int,l.length=n∧v = .agg ⟨l.map (.int .i64)⟩:=by
 unfold Value.okWide at w
 simp only[ht] at w
 obtain⟨cs,rfl,hs,ts,hts,_,hc⟩:=w
 rw[hct] at hts
 obtain rfl:=Option.some.inj hts
 obtain⟨l⟩:=cs
 have:AI l:=by
  intro c hcm
  obtain⟨j,hj,rfl⟩:=List.mem_iff_getElem.1 hcm
  obtain⟨u,hu,hok⟩:=hc j l[j] (by simp)
  have:=List.eq_of_mem_replicate (List.mem_of_getElem? hu)
  subst this
  exact Mm hti hok
 obtain⟨l',rfl⟩:=this.list
 refine⟨l',?_,rfl⟩
 simpa [hn] using hs
theorem Yx(l:List Int):Arg W (.agg ⟨l.map (.int .i64)⟩) (.agg (l.map fun x=>.v (.int .i64 x))) [] [] (fun _=>.agg ⟨l.map (.int .i64)⟩):=by
 have:=Arg.agg (W:=W) (l:=l.map (.int .i64)) fun c hc=>by obtain⟨x,_,rfl⟩:=List.mem_map.1 hc;exact wW _ _
 rwa [List.map_map] at this
theorem Ry{t:TypeId}{fs:Array Field}{ts:List TypeId}(ht:P.underlying t=some (.struct fs))(hct:P.cellTypes P.depth t=some ts)(hn:P.cellsOf t=ts.length){r:Reach}{b:Nat}{v:Value}(w:Value.okWide P W r b t v) :
 ∃ cs:List Value,v = .agg ⟨cs⟩∧cs.length=ts.length∧∀(j:Nat) c u,cs[j]?=some c→ts[j]?=some u→Cell.okWide P W r b u c:=by
 unfold Value.okWide at w
 simp only[ht] at w
 obtain⟨cs,rfl,hs,ts',hts,_,hc⟩:=w
 rw[hct] at hts
 obtain rfl:=Option.some.inj hts
 obtain⟨l⟩:=cs
 have hl:l.length=ts.length:=by simpa [hn] using hs
 refine⟨l,rfl,hl,fun j c u hj hu=>?_⟩
 obtain⟨u',hu',hok⟩:=hc j c (by simpa using hj)
 rw[Nat.mod_eq_of_lt (by have:=(List.getElem?_eq_some_iff.1 hj).1;omega)] at hu'
 obtain rfl:=Option.some.inj (hu.symm.trans hu')
 exact hok
theorem Nv{t:TypeId}{fs:Array Field}{i:Nat}{f:Field}(ht:P.underlying t=some (.struct fs))(hf:fs[i]?=some f){fuel:Nat}{cs:List Value}{x:DataW H×List MemPlace}(h:DataW.trod enc P W base spare held fuel t cs=some x) :
 ∃ n y,DataW.trod enc P W base spare held n f.type ((cs.drop f.offset).take (P.cellsOf f.type))=some y:=by
 obtain⟨xs,n,_,_,hl,hx,hi⟩:=DataW.trod_struct ht h
 have:=hi i f hf
 have hil:i<fs.size:=(Array.getElem?_eq_some_iff.1 hf).1
 rw[List.getElem?_eq_getElem (by omega)] at this
 exact⟨n,_,this⟩
end
end Go.Rex
namespace Go.Rex
open Go Go.ChangeShapes Go.WideShapes Go.ChangeAt Go.RowKit Go.Joins Go.Proofs
structure NArg(W:World)(v':Value)(p:TV)(bs:Nat→List Blk)(is:List Info)(av:Nat→Value):Prop where
 vr:∀(D:Nat→Prop) (m:NMap) n,(∀ j,j<is.length→D (n+j))→(∀(j:Nat) i,is[j]?=some i→m (n+j)=i)→VR D m (av n) v'
 vl:∀(Fz:Nat→Prop) (h:List Blk) n,(∀ j,j<is.length→Fz (n+j))→(∀(j:Nat) b,(bs n)[j]?=some b→h[n+j]?=some b)→VL Fz h noL p (av n)
 ok:∀(D:Nat→Prop) (m:NMap) n,(∀ j,j<is.length→D (n+j))→(∀(j:Nat) i,is[j]?=some i→m (n+j)=i)→∀(j:Nat) b,(bs n)[j]?=some b→BlkOk D m W (n+j) b
 lt:∀ n (j:Nat) b i,(bs n)[j]?=some b→is[j]?=some i→b ≠ .dead→i.block<W.heap.size
 len:∀ n,(bs n).length=is.length
structure NArgs(W:World)(vs':List Value)(ps:List TV)(bs:Nat→List Blk)(is:List Info)(av:Nat→List Value):Prop where
 vr:∀(D:Nat→Prop) (m:NMap) n,(∀ j,j<is.length→D (n+j))→(∀(j:Nat) i,is[j]?=some i→m (n+j)=i)→VRs D m (av n) vs'
 vl:∀(Fz:Nat→Prop) (h:List Blk) n,(∀ j,j<is.length→Fz (n+j))→(∀(j:Nat) b,(bs n)[j]?=some b→h[n+j]?=some b)→VLs Fz h noL ps (av n)
 ok:∀(D:Nat→Prop) (m:NMap) n,(∀ j,j<is.length→D (n+j))→(∀(j:Nat) i,is[j]?=some i→m (n+j)=i)→∀(j:Nat) b,(bs n)[j]?=some b→BlkOk D m W (n+j) b
 lt:∀ n (j:Nat) b i,(bs n)[j]?=some b→is[j]?=some i→b ≠ .dead→i.block<W.heap.size
 len:∀ n,(bs n).length=is.length
theorem Arg.n{W:World}{v':Value}{p:TV}{bs:List Blk}{is:List Info}{av:Nat→Value}(a:Arg W v' p bs is av):NArg W v' p (fun _=>bs) is av:=
 ⟨fun D m n hD hm=>a.vr D m n (by rw[← a.len];exact hD) hm,fun Fz h n hF hh=>a.vl Fz h n (by rw[← a.len];exact hF) hh,fun D m n hD hm=>a.ok D m n (by rw[← a.len];exact hD) hm,fun _=>a.lt,fun _=>a.len.symm⟩
theorem NArgs.nil(W:World):NArgs W [] [] (fun _=>[]) [] (fun _=>[]):=
 ⟨fun _ _ _ _ _=>⟨rfl,fun i a a' h=>by simp at h⟩,fun _ _ _ _ _=>.nil,fun _ _ _ _ _ j b h=>by simp at h,fun _ j b i h=>by simp at h,fun _=>rfl⟩
theorem NArgs.cons{W:World}{v':Value}{p:TV}{bs bs2:Nat→List Blk}{is is2:List Info}{av:Nat→Value}{vs':List Value}{ps:List TV}{avs:Nat→List Value}
 (a:NArg W v' p bs is av) (az:NArgs W vs' ps bs2 is2 avs):NArgs W (v'::vs') (p::ps) (fun n=>bs n++bs2 (n+is.length)) (is++is2) (fun n=>av n::avs (n+is.length)):=by
 have cD:∀(D:Nat→Prop) n,(∀ j,j<(is++is2).length→D (n+j))→(∀ j,j<is.length→D (n+j))∧(∀ j,j<is2.length→D (n+is.length+j)):=by
  intro D n h
  refine⟨fun j hj=>h j (by simp;omega),fun j hj=>?_⟩
  have:=h (is.length+j) (by simp;omega)
  rwa [← Nat.add_assoc] at this
 have cI:∀(m:NMap) n,(∀(j:Nat) i,(is++is2)[j]?=some i→m (n+j)=i)→(∀(j:Nat) i,is[j]?=some i→m (n+j)=i)∧(∀(j:Nat) i,is2[j]?=some i→m (n+is.length+j)=i):=by
  intro m n h
  refine⟨fun j i hj=>h j i (by rw[List.getElem?_append_left (List.getElem?_eq_some_iff.1 hj).1];exact hj),fun j i hj=>?_⟩
  have:=h (is.length+j) i (by rw[List.getElem?_append_right (by omega),Nat.add_sub_cancel_left];exact hj)
  rwa [← Nat.add_assoc] at this
 refine⟨fun D m n hD hm=>?_,fun Fz h n hF hh=>?_,fun D m n hD hm j b hb=>?_,fun n j b i hb hi hd=>?_,fun n=>by simp[a.len,az.len]⟩
 ·have h1:=a.vr D m n (cD D n hD).1 (cI m n hm).1
  have h2:=az.vr D m (n+is.length) (cD D n hD).2 (cI m n hm).2
  refine⟨by simp[h2.len],fun i x x' hx hx'=>?_⟩
  cases i with
  | zero=>simp at hx hx';subst hx hx';exact h1
  | succ i=>simp at hx hx';exact h2.at' i x x' hx hx'
 ·refine .cons (a.vl Fz h n (cD Fz n hF).1 fun j b hb=>hh j b (by rw[List.getElem?_append_left (List.getElem?_eq_some_iff.1 hb).1];exact hb)) (az.vl Fz h (n+is.length) (cD Fz n hF).2 fun j b hb=>?_)
  have:=hh (is.length+j) b (by rw[List.getElem?_append_right (by rw[a.len];omega),a.len,Nat.add_sub_cancel_left];exact hb)
  rwa [← Nat.add_assoc] at this
 ·rcases Nat.lt_or_ge j is.length with hj|hj
  ·rw[List.getElem?_append_left (by rw[a.len];exact hj)] at hb
   exact a.ok D m n (cD D n hD).1 (cI m n hm).1 j b hb
  ·rw[List.getElem?_append_right (by rw[a.len];exact hj),a.len] at hb
   have:=az.ok D m (n+is.length) (cD D n hD).2 (cI m n hm).2 _ b hb
   rwa [show n+is.length+(j-is.length)=n+j by omega] at this
 ·rcases Nat.lt_or_ge j is.length with hj|hj
  ·rw[List.getElem?_append_left (by rw[a.len];exact hj)] at hb
   rw[List.getElem?_append_left hj] at hi
   exact a.lt n j b i hb hi hd
  ·rw[List.getElem?_append_right (by rw[a.len];exact hj),a.len] at hb
   rw[List.getElem?_append_right hj] at hi
   exact az.lt _ _ b i hb hi hd
section
variable {W:World} {vs':List Value} {ps:List TV} {bs:Nat→List Blk} {is:List Info} {av:Nat→List Value}
def gnm(is:List Info):NMap:=fun k=>if k<NG then gm k else is.getD (k-NG) ⟨0,0,0,0⟩
theorem Ro{is:List Info}{j:Nat}{i:Info}(h:is[j]?=some i):gnm is (NG+j)=i:=by
 unfold gnm
 rw[if_neg (by omega),Nat.add_sub_cancel_left,List.getD_eq_getElem?_getD,h]
 rfl
theorem Bw:GH.length=NG:=rfl
theorem NArgs.rel(a:NArgs W vs' ps bs is av)(hw:GW W)(hs:NG≤W.heap.size):Rel W.heap.size (GH++bs NG).length (fun k=>k<(GH++bs NG).length) (gnm is) (GH++bs NG) W:=by
 have hl:=a.len NG
 have hn:(GH++bs NG).length=NG+is.length:=by rw[List.length_append,Bw,hl]
 have old:∀ k,k<NG→gnm is k=gm k:=fun k hk=>if_pos hk
 have parts:∀ n b,n<(GH++bs NG).length→(GH++bs NG)[n]?=some b→(n<NG∧GH[n]?=some b)∨∃ j,n=NG+j∧(bs NG)[j]?=some b:=by
  intro n b hn' hb
  rcases Nat.lt_or_ge n NG with h|h
  ·rw[List.getElem?_append_left h] at hb;exact .inl ⟨h,hb⟩
  ·rw[List.getElem?_append_right h,Bw] at hb;exact .inr ⟨n-NG,by omega,hb⟩
 have st:=Rel.start W hw hs
 have lt:∀ n b,n<(GH++bs NG).length→(GH++bs NG)[n]?=some b→b ≠ .dead→(gnm is n).block<W.heap.size:=by
  intro n b hn' hb hd
  rcases parts n b hn' hb with⟨h1,h2⟩|⟨j,rfl,h2⟩
  ·rw[old n h1];exact st.lt n b h1 h2 hd
  ·have hj:j<is.length:=by omega
   rw[Ro (List.getElem?_eq_getElem hj)]
   exact a.lt NG j b _ h2 (List.getElem?_eq_getElem hj) hd
 refine⟨Nat.le_refl _,fun _ h=>h,fun n b hn' hb=>?_,lt,fun n b hD hl=>absurd hD (by omega),fun n b hn' _ hb hd=>lt n b hn' hb hd,fun n b hD hl=>absurd hD (by omega),fun n n' b b' hD _ hl=>absurd hD (by omega),⟨fun g hg=>⟨?_,?_⟩,hs,hw⟩⟩
 ·rcases parts n b hn' hb with⟨h1,h2⟩|⟨j,rfl,h2⟩
  ·exact (st.ok n b h1 h2).mono (fun k hk=>by have hk':k<NG:=hk;show k<(GH++bs NG).length;omega) (fun k hk=>old k hk) (old n h1)
  ·exact a.ok (fun k=>k<(GH++bs NG).length) (gnm is) NG (fun j hj=>by omega) (fun j i hi=>Ro hi) j b h2
 ·show g<(GH++bs NG).length;omega
 ·rw[old g hg];exact Kc g
theorem NArgs.vls(a:NArgs W vs' ps bs is av):VLs (fun k=>k<(GH++bs NG).length) (GH++bs NG) noL ps (av NG):=by
 have hn:(GH++bs NG).length=NG+is.length:=by rw[List.length_append,Bw,a.len NG]
 exact a.vl _ _ NG (fun j hj=>by omega) (fun j b hb=>by rw[List.getElem?_append_right (by rw[Bw];omega),Bw,Nat.add_sub_cancel_left];exact hb)
theorem NArgs.fz(_a:NArgs W vs' ps bs is av):FZ (fun k=>k<(GH++bs NG).length) (GH++bs NG):=
 ⟨fun _ h=>h,fun g hg=>by
  have h1:g<GH.length:=hg
  exact⟨by rw[List.length_append];omega,List.getElem?_append_left h1⟩⟩
theorem NArgs.vrs(a:NArgs W vs' ps bs is av):VRs (fun k=>k<(GH++bs NG).length) (gnm is) (av NG) vs':=by
 have hn:(GH++bs NG).length=NG+is.length:=by rw[List.length_append,Bw,a.len NG]
 exact a.vr _ _ NG (fun j hj=>by omega) (fun j i hi=>Ro hi)
theorem NArg.ofArgs(a:NArgs W vs' ps bs is av):NArg W (.agg ⟨vs'⟩) (.agg ps) bs is (fun n=>.agg ⟨av n⟩):=
 ⟨fun D m n hD hm=>.agg' (a.vr D m n hD hm),fun Fz h n hF hh=>.agg' (a.vl Fz h n hF hh),a.ok,a.lt,a.len⟩
end
section
variable {H:Type} {enc:TypeId×Value→H} {W:World} {base:Nat} {spare:Nat→Bool} {held:Bool}
end
section
variable {H:Type} {enc:TypeId×Value→H} {W:World} {base:Nat} {spare:Nat→Bool} {held:Bool}
end
theorem Pu(k:FloatKind)(b:Nat):Ku (.float k b):=⟨rfl,fun _ _=>.float _ _ _ .refl⟩
theorem Tf{H:Type}{enc:TypeId×Value→H}{P:Program}{w:World}{base:Nat}{spare:Nat→Bool}{held:Bool}{fuel:Nat}{t:TypeId}{cs:List Value}{x:DataW H×List MemPlace}{k:FloatKind}(ht:P.underlying t=some (.float k))(h:DataW.trod enc P w base spare held fuel t cs=some x):∃ b,cs=[.float k b]:=by
 cases fuel with
 | zero=>simp[DataW.trod] at h
 | succ n =>
  unfold DataW.trod at h
  rw[ht] at h
  split at h<;>simp_all
section
variable {H:Type} {enc:TypeId×Value→H} {W:World} {base:Nat} {spare:Nat→Bool} {held:Bool} {P:Program} {k0:FloatKind}
def AF(k0:FloatKind)(cs:List Value):Prop:=∀ c∈cs,∃ b:Nat,c = .float k0 b
theorem AF.list{cs:List Value}(h:AF k0 cs):∃ l:List Nat,cs=l.map (.float k0):=by
 induction cs with
 | nil=>exact⟨[],rfl⟩
 | cons c t ih =>
  obtain⟨n,rfl⟩:=h c (by simp)
  obtain⟨l,rfl⟩:=ih fun c hc=>h c (by simp[hc])
  exact⟨n::l,rfl⟩
theorem Zv{te:TypeId}(ht:P.underlying te=some (.float k0)){fuel:Nat}{cs:List Value}{x:DataW H×List MemPlace}(h:DataW.trod enc P W base spare held fuel te cs=some x):AF k0 cs:=by
 obtain⟨n,rfl⟩:=Tf ht h
 exact fun c hc=>⟨n,by simpa using hc⟩
theorem aBx{t e:TypeId}{m k:Nat}(ht:P.underlying t=some (.array m e))(hk:P.cellsOf e=k)(hk0:0<k)(hc:P.cellsOf t=m*k)(he:∀ n cs y,DataW.trod enc P W base spare held n e cs=some y→AF k0 cs)
 {fuel:Nat} {cs:List Value} {x:DataW H×List MemPlace} (h:DataW.trod enc P W base spare held fuel t cs=some x):AF k0 cs:=by
 obtain⟨xs,n,_,_,hl,hx,hi⟩:=DataW.trod_array ht h
 intro c hcm
 obtain⟨j,hj,rfl⟩:=List.mem_iff_getElem.1 hcm
 rw[hl,hc] at hj
 have hd:j/k<m:=(Nat.div_lt_iff_lt_mul hk0).2 hj
 have h1:=hi _ hd
 rw[List.getElem?_eq_getElem (by omega),hk] at h1
 refine he _ _ _ h1 _ ?_
 refine List.mem_of_getElem? (i:=j%k) ?_
 rw[List.getElem?_take,if_pos (Nat.mod_lt _ hk0),List.getElem?_drop,Nat.mul_comm,Nat.div_add_mod,List.getElem?_eq_getElem]
end
end Go.Rex
