/- What these functions return: facts on lists and numbers. -/
import Derived.Test.YtbodidihhbejmaaGreatRexG10
import Derived.Test.YtbodidihhbejmaaGreatS
import Derived.ProofKit
import Derived.OpenShut
import Derived.ShutString
import Derived.ChangeOld
import Derived.Below
import Derived.Lib.SmallJoins
import Derived.ChangeShapes
import Derived.ChangeArms
import Derived.WideShapes
set_option linter.unusedSimpArgs false
set_option linter.unusedVariables false
set_option linter.defProp false
set_option linter.unusedSectionVars false
namespace Go.Rex
open Go.RowKit
structure FOk(f:Ieee.Format)(q:Nat):Prop where
 lp:f.leastPlace = -(q:Int)
 le:f.fractionBits+1≤q
 inf:(q+2)*f.binade≤f.infRung
 sgn:f.infRung<f.signWeight
def fq:FloatKind→Nat
 | .f32=>149
 | .f64=>1074
def fb:FloatKind→Nat
 | .f32=>23
 | .f64=>52
theorem fok(k:FloatKind):FOk k.format (fq k):=by
 cases k<;>exact⟨by decide,by decide,by decide +kernel,by decide +kernel⟩
theorem Yg(k:FloatKind):k.format.fractionBits=fb k:=by cases k<;>rfl
theorem Gj(n:Nat)(neg:Bool):Ieee.Toward.cut .even neg n 0=n:=by
 simp[Ieee.Toward.cut,Nat.mod_one]
theorem shl(m s:Nat):m <<< s=m*2^s:=Nat.shiftLeft_eq m s
theorem Bi{m:Nat}(hm:m≠0)(s:Nat):(m*2^s).log2=m.log2+s:=by
 rw[Nat.log2_eq_iff (by have:=Nat.two_pow_pos s;exact Nat.mul_ne_zero hm (by omega))]
 have h1:=(Nat.log2_eq_iff hm).1 rfl
 constructor
 ·rw[Nat.pow_add];exact Nat.mul_le_mul_right _ h1.1
 ·rw[show m.log2+s+1=m.log2+1+s by omega,Nat.pow_add];exact Nat.mul_lt_mul_of_pos_right h1.2 (Nat.two_pow_pos s)
theorem kG{m:Nat}(hm:m≠0)(neg:Bool){s d:Nat}(hd:d≤s)(way:Ieee.Toward):way.cut neg (m*2^s) d=m*2^(s-d):=by
 have hg:min d ((m*2^s).log2+2)=d:=by rw[Bi hm];omega
 have e:m*2^s=2^d*(m*2^(s-d)):=by
  rw[Nat.mul_comm (2^d),Nat.mul_assoc,← Nat.pow_add,Nat.sub_add_cancel hd]
 have hp:=Nat.two_pow_pos d
 unfold Ieee.Toward.cut
 rw[hg,shl,Nat.one_mul,e]
 dsimp only
 rw[Nat.mul_div_cancel_left _ hp,Nat.mul_mod_right]
 have:(2^d==0)=false:=by simp
 cases way<;>simp[this]
theorem tU(neg:Bool){d:Nat}(way:Ieee.Toward):way.cut neg 0 d=0:=by
 unfold Ieee.Toward.cut
 have hp:0<1 <<< min d ((0:Nat).log2+2):=by rw[shl,Nat.one_mul];exact Nat.two_pow_pos _
 have:(1 <<< min d ((0:Nat).log2+2)==0)=false:=by rw[beq_eq_false_iff_ne];omega
 cases way<;>simp[this]
theorem log2_lt{m b:Nat}(hm:m≠0)(h:m<2^(b+1)):m.log2≤b:=by
 have:=(Nat.log2_lt hm).2 h
 omega
theorem Hy{f:Ieee.Format}{q:Nat}(ok:FOk f q){m:Nat}(hm:m≠0)(hl:m<2^(f.fractionBits+1))(neg:Bool)(s:Nat) :
 f.nearest neg (m*2^s) (-(s:Int))=f.word neg ((q+m.log2-f.fractionBits)*f.binade+m*2^(f.fractionBits-m.log2)):=by
 have hL:=log2_lt hm hl
 have hle:=ok.le
 unfold Ieee.Format.nearest
 rw[if_neg (by have:=Nat.two_pow_pos s;exact Nat.mul_ne_zero hm (by omega)),Bi hm,ok.lp]
 have e1:max (-(s:Int)+((m.log2+s:Nat):Int)-(f.fractionBits:Int)) (-(q:Int))=(m.log2:Int)-f.fractionBits:=by omega
 rw[e1]
 have kept:Ieee.Toward.even.cut neg ((m*2^s) <<< (-(s:Int)-((m.log2:Int)-f.fractionBits)).toNat) ((m.log2:Int)-f.fractionBits - -(s:Int)).toNat=m*2^(f.fractionBits-m.log2):=by
  rcases Nat.lt_or_ge (f.fractionBits-m.log2) s with h|h
  ·have a1:(-(s:Int)-((m.log2:Int)-f.fractionBits)).toNat=0:=by omega
   rw[a1,shl,Nat.pow_zero,Nat.mul_one,kG hm neg (by omega)]
   congr 2;omega
  ·have a1:(-(s:Int)-((m.log2:Int)-f.fractionBits)).toNat=f.fractionBits-m.log2-s:=by omega
   have a2:((m.log2:Int)-f.fractionBits - -(s:Int)).toNat=0:=by omega
   rw[a1,a2,Gj,shl,Nat.mul_assoc,← Nat.pow_add]
   congr 2;omega
 dsimp only
 rw[kept]
 have a3:((m.log2:Int)-f.fractionBits - -(q:Int)).toNat=q+m.log2-f.fractionBits:=by omega
 rw[a3]
 have hk:m*2^(f.fractionBits-m.log2)<2*f.binade:=by
  have h1:=(Nat.log2_eq_iff hm).1 rfl
  have h2:=Nat.mul_lt_mul_of_pos_right h1.2 (Nat.two_pow_pos (f.fractionBits-m.log2))
  rw[← Nat.pow_add] at h2
  rw[show m.log2+1+(f.fractionBits-m.log2)=f.fractionBits+1 by omega] at h2
  unfold Ieee.Format.binade
  rw[Nat.pow_succ] at h2
  omega
 have hi:=ok.inf
 have hq:(q+m.log2-f.fractionBits)*f.binade≤q*f.binade:=Nat.mul_le_mul_right _ (by omega)
 rw[Nat.add_mul] at hi
 rw[Nat.min_eq_left (by omega)]
def digs(f:Ieee.Format)(q m:Nat):Nat:=if m=0 then q else f.fractionBits-m.log2
theorem Ng{f:Ieee.Format}{q:Nat}(ok:FOk f q){m:Nat}(hl:m<2^(f.fractionBits+1))(neg:Bool):f.read (f.nearest neg m 0) = .number neg (m*2^digs f q m) (-(digs f q m:Int)):=by
 have hle:=ok.le
 have hsg:=ok.sgn
 have hinf:=ok.inf
 have hbp:0<f.binade:=Nat.two_pow_pos _
 have wd:∀ r,r<f.signWeight→(f.word neg r/f.signWeight%2==1)=neg∧f.word neg r%f.signWeight=r:=by
  intro r hr
  unfold Ieee.Format.word
  cases neg
  ·simp[Nat.div_eq_of_lt hr,Nat.mod_eq_of_lt hr]
  ·have hs:0<f.signWeight:=by omega
   simp only[if_true]
   rw[Nat.add_div_left _ hs,Nat.div_eq_of_lt hr,Nat.add_mod_left,Nat.mod_eq_of_lt hr]
   simp
 rw[Nat.add_mul] at hinf
 have hq0:2*f.binade≤f.infRung:=by omega
 by_cases hm:m=0
 ·subst hm
  have:f.nearest neg 0 0=f.word neg 0:=by unfold Ieee.Format.nearest;simp
  rw[this]
  unfold Ieee.Format.read
  simp only[(wd 0 (by omega)).1,(wd 0 (by omega)).2]
  rw[if_pos hbp,ok.lp]
  simp[digs]
 ·have h0:=Hy ok hm hl neg 0
  simp only[Nat.pow_zero,Nat.mul_one,Int.natCast_zero,Int.neg_zero] at h0
  rw[h0]
  have hL:=log2_lt hm hl
  have h1:=(Nat.log2_eq_iff hm).1 rfl
  have hk:m*2^(f.fractionBits-m.log2)<2*f.binade:=by
   have h2:=Nat.mul_lt_mul_of_pos_right h1.2 (Nat.two_pow_pos (f.fractionBits-m.log2))
   rw[← Nat.pow_add] at h2
   rw[show m.log2+1+(f.fractionBits-m.log2)=f.fractionBits+1 by omega] at h2
   unfold Ieee.Format.binade
   rw[Nat.pow_succ] at h2
   omega
  have hk2:f.binade≤m*2^(f.fractionBits-m.log2):=by
   have h2:=Nat.mul_le_mul_right (2^(f.fractionBits-m.log2)) h1.1
   rw[← Nat.pow_add] at h2
   rw[show m.log2+(f.fractionBits-m.log2)=f.fractionBits by omega] at h2
   exact h2
  generalize hK:m*2^(f.fractionBits-m.log2)=K at *
  obtain⟨j,hj⟩:∃ j,K=f.binade+j:=⟨K-f.binade,by omega⟩
  subst hj
  have hjb:j<f.binade:=by omega
  have hq:(q+m.log2-f.fractionBits)*f.binade≤q*f.binade:=Nat.mul_le_mul_right _ (by omega)
  have hr:(q+m.log2-f.fractionBits)*f.binade+(f.binade+j)<f.infRung:=by omega
  have hrs:(q+m.log2-f.fractionBits)*f.binade+(f.binade+j)<f.signWeight:=by omega
  unfold Ieee.Format.read
  simp only[(wd _ hrs).1,(wd _ hrs).2]
  rw[if_neg (by omega),if_pos hr]
  have e1:(q+m.log2-f.fractionBits)*f.binade+(f.binade+j)=f.binade*(q+m.log2-f.fractionBits+1)+j:=by
   rw[Nat.mul_add,Nat.mul_comm];omega
  rw[e1,Nat.mul_add_mod,Nat.mod_eq_of_lt hjb,Nat.mul_add_div hbp,Nat.div_eq_of_lt hjb,ok.lp]
  unfold digs
  rw[if_neg hm,hK]
  congr 1
  omega
def sg(s:Bool)(m:Nat):Int:=if s then -(m:Int) else m
theorem sC(s:Bool)(m u:Nat):Ieee.signed s m u=sg s m*2^u:=by
 unfold Ieee.signed sg
 rw[shl]
 cases s<;>simp[Int.neg_mul]
def fz(k:FloatKind)(s:Bool)(m:Nat):Nat:=k.encode (.number s m 0)
def ffit(k:FloatKind)(m:Nat):Prop:=m<2^(fb k+1)
def dg(k:FloatKind)(m:Nat):Nat:=digs k.format (fq k) m
theorem Tp{k:FloatKind}{s:Bool}{m:Nat}(h:ffit k m):k.format.read (fz k s m) = .number s (m*2^dg k m) (-(dg k m:Int)) :=
 Ng (fok k) (by rw[Yg];exact h) s
theorem Jv(s:Bool)(m n:Nat):sg s (m*n)=sg s m*n:=by cases s<;>simp[sg,Int.neg_mul]
theorem tY(s:Bool)(m:Nat):(sg s m).natAbs=m:=by cases s<;>simp[sg]
theorem Ws{op:BinOp}{k:FloatKind}{a b r:Nat}(h:farith0 op k a b=some r):farith op k a b=some r:=by
 unfold farith arN
 rw[h]
 rfl
end Go.Rex
open Go Go.Rex
namespace Go.Rex
set_option maxRecDepth 100000
theorem dbl:Ieee.double.fractionBits=52∧Ieee.double.leastPlace = -1074∧Ieee.double.binade=2^52∧Ieee.double.infRung=2047*Ieee.double.binade∧Ieee.double.signWeight=2048*Ieee.double.binade:=by decide +kernel
theorem Ff{m:Nat}(hm:m≠0)(hl:m<2^53)(neg:Bool)(a:Nat){e p:Int}(hp:p=e-a)(h1:-1074≤e+m.log2-52)(h2:e+m.log2≤1023) :
 Ieee.double.nearest neg (m*2^a) p=Ieee.double.word neg ((1074+e+m.log2-52).toNat*Ieee.double.binade+m*2^(52-m.log2)):=by
 subst hp
 have hL:=log2_lt hm hl
 unfold Ieee.Format.nearest
 rw[if_neg (by have:=Nat.two_pow_pos a;exact Nat.mul_ne_zero hm (by omega)),Bi hm,dbl.1,dbl.2.1]
 have e1:max (e-(a:Int)+((m.log2+a:Nat):Int)-((52:Nat):Int)) (-1074)=e+(m.log2:Int)-52:=by omega
 rw[e1]
 have kept:Ieee.Toward.even.cut neg ((m*2^a) <<< (e-(a:Int)-(e+(m.log2:Int)-52)).toNat) (e+(m.log2:Int)-52-(e-(a:Int))).toNat=m*2^(52-m.log2):=by
  rcases Nat.lt_or_ge (52-m.log2) a with h|h
  ·have a1:(e-(a:Int)-(e+(m.log2:Int)-52)).toNat=0:=by omega
   rw[a1,shl,Nat.pow_zero,Nat.mul_one,kG hm neg (by omega)]
   congr 2;omega
  ·have a1:(e-(a:Int)-(e+(m.log2:Int)-52)).toNat=52-m.log2-a:=by omega
   have a2:(e+(m.log2:Int)-52-(e-(a:Int))).toNat=0:=by omega
   rw[a1,a2,Gj,shl,Nat.mul_assoc,← Nat.pow_add]
   congr 2;omega
 dsimp only
 rw[kept]
 have a3:(e+(m.log2:Int)-52 - -1074).toNat=(1074+e+m.log2-52).toNat:=by omega
 rw[a3]
 have hk:m*2^(52-m.log2)<2*Ieee.double.binade:=by
  have h1:=(Nat.log2_eq_iff hm).1 rfl
  have h2:=Nat.mul_lt_mul_of_pos_right h1.2 (Nat.two_pow_pos (52-m.log2))
  rw[← Nat.pow_add] at h2
  rw[show m.log2+1+(52-m.log2)=53 by omega] at h2
  rw[dbl.2.2.1]
  omega
 rw[dbl.2.2.2.1]
 generalize Ieee.double.binade=B at hk ⊢
 rw[Nat.min_eq_left (by
  have:(1074+e+(m.log2:Int)-52).toNat≤2045:=by omega
  have:=Nat.mul_le_mul_right B this
  omega)]
theorem wd(neg:Bool)(r:Nat)(hr:r<Ieee.double.signWeight):(Ieee.double.word neg r/Ieee.double.signWeight%2==1)=neg∧Ieee.double.word neg r%Ieee.double.signWeight=r:=by
 unfold Ieee.Format.word
 cases neg
 ·simp[Nat.div_eq_of_lt hr,Nat.mod_eq_of_lt hr]
 ·have hs:0<Ieee.double.signWeight:=by omega
  simp only[if_true]
  rw[Nat.add_div_left _ hs,Nat.div_eq_of_lt hr,Nat.add_mod_left,Nat.mod_eq_of_lt hr]
  simp
theorem Lg{m:Nat}(hm:m≠0)(hl:m<2^53)(neg:Bool){e:Int}(h1:-1074≤e+m.log2-52)(h2:e+m.log2≤1023) :
 Ieee.double.read (Ieee.double.nearest neg m e) = .number neg (m*2^(52-m.log2)) (e-((52-m.log2:Nat):Int)):=by
 have h0:=Ff hm hl neg 0 (e:=e) (p:=e) (by simp) h1 h2
 rw[Nat.pow_zero,Nat.mul_one] at h0
 rw[h0]
 have hL:=log2_lt hm hl
 have hh:=(Nat.log2_eq_iff hm).1 rfl
 have hB:=dbl.2.2.1
 have hk:m*2^(52-m.log2)<2*Ieee.double.binade:=by
  have h2:=Nat.mul_lt_mul_of_pos_right hh.2 (Nat.two_pow_pos (52-m.log2))
  rw[← Nat.pow_add] at h2
  rw[show m.log2+1+(52-m.log2)=53 by omega] at h2
  rw[hB]
  omega
 have hk2:Ieee.double.binade≤m*2^(52-m.log2):=by
  have h2:=Nat.mul_le_mul_right (2^(52-m.log2)) hh.1
  rw[← Nat.pow_add] at h2
  rw[show m.log2+(52-m.log2)=52 by omega] at h2
  rw[hB]
  exact h2
 have hB0:0<Ieee.double.binade:=by rw[hB];decide
 generalize hK:m*2^(52-m.log2)=K at *
 obtain⟨j,hj⟩:∃ j,K=Ieee.double.binade+j:=⟨K-Ieee.double.binade,by omega⟩
 subst hj
 obtain⟨q,hq⟩:∃ q:Nat,(1074+e+(m.log2:Int)-52).toNat=q:=⟨_,rfl⟩
 rw[hq]
 have hq2:q≤2045:=by omega
 have hqb:=Nat.mul_le_mul_right Ieee.double.binade hq2
 have hr:q*Ieee.double.binade+(Ieee.double.binade+j)<Ieee.double.signWeight:=by
  rw[dbl.2.2.2.2]
  omega
 unfold Ieee.Format.read
 simp only[(wd neg _ hr).1,(wd neg _ hr).2]
 rw[dbl.2.2.2.1,dbl.2.1]
 generalize Ieee.double.binade=B at *
 rw[if_neg (by omega),if_pos (by omega)]
 have e1:q*B+(B+j)=B*(q+1)+j:=by rw[Nat.mul_add,Nat.mul_comm];omega
 have hjb:j<B:=by omega
 rw[e1,Nat.mul_add_mod,Nat.mod_eq_of_lt hjb,Nat.mul_add_div hB0,Nat.div_eq_of_lt hjb]
 congr 1
 omega
theorem wQ(neg:Bool)(p:Int):Ieee.double.nearest neg 0 p=Ieee.double.word neg 0:=by
 unfold Ieee.Format.nearest
 simp
theorem Jt(neg:Bool):Ieee.double.read (Ieee.double.word neg 0) = .number neg 0 (-1074):=by
 cases neg<;>decide +kernel
def NV(s:Bool)(m:Nat)(e:Int)(x:Int):Prop:=(0≤e∧sg s m*2^e.toNat=x)∨(e<0∧sg s m=x*2^(-e).toNat)
theorem kE(a b:Nat):(2:Int)^(a+b)=2^a*2^b:=Int.pow_add ..
theorem NV.at{s:Bool}{m:Nat}{e x:Int}(h:NV s m e x){b:Int}(hb:b≤e)(hb0:b≤0):sg s m*2^(e-b).toNat=x*2^(-b).toNat:=by
 rcases h with⟨h0,h1⟩|⟨h0,h1⟩
 ·rw[show (e-b).toNat=e.toNat+(-b).toNat by omega,kE,← Int.mul_assoc,h1]
 ·rw[h1,show (-b).toNat=(-e).toNat+(e-b).toNat by omega,kE,Int.mul_assoc]
theorem NV.of{s:Bool}{m:Nat}{e x b:Int}(hb:b≤e)(hb0:b≤0)(h:sg s m*2^(e-b).toNat=x*2^(-b).toNat):NV s m e x:=by
 have hp:∀ k:Nat,(0:Int)<2^k:=fun k=>Int.pow_pos (by decide)
 by_cases he:0≤e
 ·left
  refine⟨he,?_⟩
  rw[show (e-b).toNat=e.toNat+(-b).toNat by omega,kE,← Int.mul_assoc] at h
  exact Int.eq_of_mul_eq_mul_right (Int.ne_of_gt (hp _)) h
 ·right
  refine⟨by omega,?_⟩
  rw[show (-b).toNat=(-e).toNat+(e-b).toNat by omega,kE,← Int.mul_assoc] at h
  exact Int.eq_of_mul_eq_mul_right (Int.ne_of_gt (hp _)) h
theorem Cw(a b:Int)(k:Nat):compare (a*2^k) (b*2^k)=compare a b:=by
 have hp:(0:Int)<2^k:=Int.pow_pos (by decide)
 have key:∀ a b:Int,a*2^k<b*2^k↔a<b:=fun a b=>Int.mul_lt_mul_right hp
 simp only[compare,compareOfLessAndEq,key]
 have:(a*2^k=b*2^k)↔a=b:=Int.mul_eq_mul_right_iff (by omega)
 simp only[this]
theorem nK{s t:Bool}{m n:Nat}{i j b:Int}(hi:b≤i)(hj:b≤j):Ieee.Datum.order (.number s m i) (.number t n j)=some (compare (sg s m*2^(i-b).toNat) (sg t n*2^(j-b).toNat)):=by
 simp only[Ieee.Datum.order,sC]
 congr 1
 rw[show (i-b).toNat=(i-min i j).toNat+(min i j-b).toNat by omega,show (j-b).toNat=(j-min i j).toNat+(min i j-b).toNat by omega,kE,kE,← Int.mul_assoc,← Int.mul_assoc,Cw]
theorem nL{s t:Bool}{m n:Nat}{i j x y:Int}(h:NV s m i x)(g:NV t n j y):Ieee.Datum.order (.number s m i) (.number t n j)=some (compare x y):=by
 have hb:min (min i j) 0≤i∧min (min i j) 0≤j∧min (min i j) 0≤0:=by omega
 rw[nK hb.1 hb.2.1,h.at hb.1 hb.2.2,g.at hb.2.1 hb.2.2,Cw]
theorem Sa{s t:Bool}{m n:Nat}{i j y:Int}(g:NV t n j y)(h:Ieee.Datum.order (.number s m i) (.number t n j)=some .eq):NV s m i y:=by
 have hb:min (min i j) 0≤i∧min (min i j) 0≤j∧min (min i j) 0≤0:=by omega
 rw[nK hb.1 hb.2.1,g.at hb.2.1 hb.2.2,Option.some.injEq,Int.compare_eq_eq] at h
 exact NV.of hb.1 hb.2.2 h
theorem NV.shift{s:Bool}{m:Nat}{e x:Int}(a:Nat):NV s (m*2^a) (e-a) x↔NV s m e x:=by
 have hb:min (e-a) 0≤e∧min (e-a) 0≤e-a∧min (e-a) 0≤0:=by omega
 have key:sg s (m*2^a)*2^(e-a-min (e-a) 0).toNat=sg s m*2^(e-min (e-a) 0).toNat:=by
  rw[Jv,Int.mul_assoc,Int.natCast_pow]
  congr 1
  show (2:Int)^a*2^_=_
  rw[← kE]
  congr 1
  omega
 constructor
 ·intro h
  exact NV.of hb.1 hb.2.2 (by rw[← key];exact h.at hb.2.1 hb.2.2)
 ·intro h
  exact NV.of hb.2.1 hb.2.2 (by rw[key];exact h.at hb.1 hb.2.2)
end Go.Rex
open Go Go.Rex
namespace Go.Rex
set_option maxRecDepth 100000
def MOk(m:Nat)(e:Int):Prop:=(m=0∧e = -149)∨(m≠0∧m<2^24∧-149≤e∧e≤104)
theorem sng:Ieee.single.leastPlace = -149∧Ieee.single.binade=2^23∧Ieee.single.infRung=255*2^23:=by decide +kernel
theorem Cr(b:Nat):(∃ s t,Ieee.single.read b = .nan s t)∨(∃ s,Ieee.single.read b = .infinity s)∨(∃ s m e,Ieee.single.read b = .number s m e∧MOk m e):=by
 unfold Ieee.Format.read
 simp only[sng.1,sng.2.1,sng.2.2]
 generalize b%Ieee.single.signWeight=r
 generalize (b/Ieee.single.signWeight%2==1)=s
 split
 ·rename_i h
  refine .inr (.inr ⟨_,_,_,rfl,?_⟩)
  by_cases h0:r=0
  ·exact .inl ⟨h0,rfl⟩
  ·exact .inr ⟨h0,by omega,by omega,by omega⟩
 ·split
  ·refine .inr (.inr ⟨_,_,_,rfl,.inr ⟨by omega,?_,by omega,by omega⟩⟩)
   have:=Nat.mod_lt r (show 0<2^23 by decide)
   omega
  ·split
   ·exact .inr (.inl ⟨_,rfl⟩)
   ·exact .inl ⟨_,_,rfl⟩
theorem Cv{m:Nat}(hm:m≠0)(hl:m<2^53)(neg:Bool)(a:Nat){e p:Int}(hp:p=e-a)(h1:-1074≤e+m.log2-52)(h2:e+m.log2≤1023):Ieee.double.nearest neg (m*2^a) p=Ieee.double.nearest neg m e:=by
 rw[Ff hm hl neg a hp h1 h2]
 have:=Ff hm hl neg 0 (e:=e) (p:=e) (by simp) h1 h2
 rw[Nat.pow_zero,Nat.mul_one] at this
 exact this.symm
theorem Nq(s:Bool)(m:Nat)(e:Int):∃ r,Ieee.double.nearest s m e=Ieee.double.word s r∧r≤Ieee.double.infRung:=by
 unfold Ieee.Format.nearest
 split
 ·exact⟨0,rfl,Nat.zero_le _⟩
 ·exact⟨_,rfl,Nat.min_le_right _ _⟩
theorem Mj{m:Nat}{e:Int}(h:m≠0∧m<2^24∧-149≤e∧e≤104):-1074≤e+m.log2-52∧e+m.log2≤1023∧m<2^53:=by
 have:m.log2≤23:=log2_lt h.1 h.2.1
 exact⟨by omega,by omega,by omega⟩
structure Dbl(s:Bool)(m:Nat)(e:Int)(v M:Nat)(E:Int):Prop where
 nr:v=Ieee.double.nearest s m e
 rd:Ieee.double.read v = .number s M E
 nv:∀ x,NV s M E x↔NV s m e x
 lt:M<2^53
 hi:E≤104
 sh:(m=0∧M=0∧E = -1074)∨∃ t:Nat,m≠0∧M=m*2^t∧E=e-t
theorem Aj{s:Bool}{m:Nat}{e:Int}(h:MOk m e):∃ M E,Dbl s m e (Ieee.double.nearest s m e) M E:=by
 rcases h with⟨rfl,rfl⟩|h
 ·refine⟨0,-1074,rfl,by rw[wQ];exact Jt s,fun x=>?_,by decide,by decide,.inl ⟨rfl,rfl,rfl⟩⟩
  have e0:sg s 0=0:=by cases s<;>rfl
  have hp:∀ k:Nat,(2:Int)^k≠0:=fun k=>Int.ne_of_gt (Int.pow_pos (by decide))
  unfold NV
  simp only[e0,Int.zero_mul]
  constructor
  ·rintro (⟨h,_⟩|⟨_,h⟩)
   ·omega
   ·right
    refine⟨by decide,?_⟩
    rcases Int.mul_eq_zero.1 h.symm with h|h
    ·rw[h,Int.zero_mul]
    ·exact absurd h (hp _)
  ·rintro (⟨h,_⟩|⟨_,h⟩)
   ·omega
   ·right
    refine⟨by decide,?_⟩
    rcases Int.mul_eq_zero.1 h.symm with h|h
    ·rw[h,Int.zero_mul]
    ·exact absurd h (hp _)
 ·obtain⟨h1,h2,h3⟩:=Mj h
  have hlog:m.log2≤23:=log2_lt h.1 h.2.1
  refine⟨m*2^(52-m.log2),e-((52-m.log2:Nat):Int),rfl,Lg h.1 h3 s h1 h2,fun x=>NV.shift _,?_,by omega,.inr ⟨52-m.log2,h.1,rfl,rfl⟩⟩
  have hh:=(Nat.log2_eq_iff h.1).1 rfl
  have h2:=Nat.mul_lt_mul_of_pos_right hh.2 (Nat.two_pow_pos (52-m.log2))
  rw[← Nat.pow_add] at h2
  rw[show m.log2+1+(52-m.log2)=53 by omega] at h2
  exact h2
theorem pL{k:FloatKind}{b:Nat}{s:Bool}{m:Nat}{e:Int}(h:k.format.read b = .number s m e):fK k b=false:=by
 cases hq:fK k b with
 | false=>rfl
 | true =>
  obtain⟨s',t,e'⟩:=jM hq
  rw[h] at e'
  cases e'
theorem uM{b:Nat}{s:Bool}{m:Nat}{e:Int}(hr:Ieee.single.read b = .number s m e)(h:MOk m e):f2f .f32 b .f64=some (Ieee.double.nearest s m e):=by
 obtain⟨M,E,hd⟩:=Aj (s:=s) h
 have hn:fK .f32 b=false:=pL (k:=.f32) hr
 unfold f2f
 rw[if_neg (by decide),hn,if_neg (by decide)]
 have hr':FloatKind.f32.decode b = .number s m e:=hr
 rw[hr']
 simp only
 have e1:FloatKind.f64.encode (.number s m e)=Ieee.double.nearest s m e:=rfl
 rw[e1]
 have e2:FloatKind.f64.decode (Ieee.double.nearest s m e) = .number s M E:=hd.rd
 rw[e2]
 rfl
theorem Fd{v:Nat}{s:Bool}{M:Nat}{E:Int}(h:Ieee.double.read v = .number s M E):trI .zero v=some (Ieee.double.nearest s (Ieee.Toward.cut .zero s (M <<< E.toNat) (-E).toNat) 0):=by
 unfold trI
 rw[pL (k:=.f64) h,if_neg (by decide)]
 have h':FloatKind.f64.decode v = .number s M E:=h
 rw[h']
 rfl
theorem wE{s:Bool}{m:Nat}{e x:Int}(h:NV s m e x):sg s x.natAbs=x:=by
 have key:∀(a:Nat) (y:Int),sg s a=y→sg s y.natAbs=y:=fun a y h=>by rw[← h,tY]
 have hp:∀ k:Nat,(0:Int)<2^k:=fun k=>Int.pow_pos (by decide)
 rcases h with⟨_,h⟩|⟨_,h⟩
 ·have:sg s (m*2^e.toNat)=x:=by rw[Jv,← h,Int.natCast_pow];rfl
  exact key _ _ this
 ·have h2 : 0 ≤ sg s 1 * x := by
    have h3:sg s m=sg s 1*(m:Int):=by cases s<;>simp[sg]
    have h4:(0:Int)≤sg s 1*(x*2^(-e).toNat):=by rw[← h,h3];cases s<;>simp[sg]
    rw[← Int.mul_assoc] at h4
    by_cases hn:sg s 1*x<0
    ·have:=Int.mul_neg_of_neg_of_pos hn (hp (-e).toNat)
     omega
    ·omega
  cases s
  ·simp[sg] at h2 ⊢;omega
  ·simp[sg] at h2 ⊢;omega
theorem Cs{s:Bool}{m:Nat}{e:Int}{v M:Nat}{E x:Int}(h:MOk m e)(hd:Dbl s m e v M E)(hx:NV s m e x):trI .zero v=some v:=by
 rw[Fd hd.rd]
 congr 1
 rcases hd.sh with⟨h0,h1,h2⟩|⟨t,hm,h1,h2⟩
 ·subst h0 h1 h2
  rw[show (0:Nat) <<< (-1074:Int).toNat=0 by rw[shl];simp,tU,wQ,hd.nr,wQ]
 ·rcases h with⟨h0,_⟩|hk
  ·exact absurd h0 hm
  obtain⟨k1,k2,k3⟩:=Mj hk
  have hlog:m.log2≤23:=log2_lt hk.1 hk.2.1
  subst h1 h2
  rw[hd.nr]
  rcases hx with⟨he,hx⟩|⟨he,hx⟩
  ·have hq : Ieee.Toward.cut .zero s ((m * 2 ^ t) <<< (e - (t : Int)).toNat) (-(e - (t : Int))).toNat = m * 2 ^ e.toNat := by
     rw[shl,Nat.mul_assoc,← Nat.pow_add,kG hm s (by omega)]
     congr 2
     omega
   rw[hq]
   exact Cv hm k3 s e.toNat (by omega) k1 k2
  ·have hX : m = x.natAbs * 2 ^ (-e).toNat := by
     have:=congrArg Int.natAbs hx
     rw[tY,Int.natAbs_mul,Int.natAbs_pow] at this
     exact this
   have hX0:x.natAbs≠0:=by
    intro h
    rw[h,Nat.zero_mul] at hX
    exact hm hX
   have hXl:x.natAbs≤m:=by rw[hX];exact Nat.le_mul_of_pos_right _ (Nat.two_pow_pos _)
   have hXlog:x.natAbs.log2≤23:=log2_lt hX0 (by omega)
   have hq:Ieee.Toward.cut .zero s ((m*2^t) <<< (e-(t:Int)).toNat) (-(e-(t:Int))).toNat=x.natAbs:=by
    rw[show (e-(t:Int)).toNat=0 by omega,shl,Nat.pow_zero,Nat.mul_one,hX,Nat.mul_assoc,← Nat.pow_add,kG hX0 s (by omega)]
    rw[show (-e).toNat+t-(-(e-(t:Int))).toNat=0 by omega]
    simp
   rw[hq]
   have:=Cv hX0 (by omega) s (-e).toNat (e:=0) (p:=e) (by omega) (by omega) (by omega)
   rw[← hX] at this
   exact this.symm
theorem Ah{q:Nat}(hq:q<2^53)(s:Bool):∃ n j,Ieee.double.read (Ieee.double.nearest s q 0) = .number s n j∧NV s n j (sg s q):=by
 by_cases h0:q=0
 ·subst h0
  refine⟨0,-1074,by rw[wQ];exact Jt s,.inr ⟨by decide,?_⟩⟩
  rw[show sg s 0=0 by cases s<;>rfl,Int.zero_mul]
 ·have hl:=log2_lt h0 hq
  refine⟨_,_,Lg h0 hq s (by omega) (by omega),(NV.shift _).2 (.inl ⟨by decide,?_⟩)⟩
  simp
theorem Ry{s:Bool}{m:Nat}{e:Int}{v M:Nat}{E:Int}(h:MOk m e)(hd:Dbl s m e v M E)(hx:∀ x,¬ NV s m e x):∃ w,trI .zero v=some w∧fcmp .eql .f64 v w=false:=by
 have hE:E<0:=by
  rcases hd.sh with⟨h0,h1,h2⟩|⟨t,hm,h1,h2⟩
  ·omega
  ·by_cases he:0≤e
   ·exact absurd (.inl ⟨he,rfl⟩) (hx _)
   ·omega
 have hq:Ieee.Toward.cut .zero s (M <<< E.toNat) (-E).toNat<2^53:=by
  rw[show E.toNat=0 by omega,shl,Nat.pow_zero,Nat.mul_one]
  unfold Ieee.Toward.cut
  simp only[Bool.toNat_false,Nat.add_zero]
  exact Nat.lt_of_le_of_lt (Nat.div_le_self _ _) hd.lt
 obtain⟨n,j,hr,hn⟩:=Ah hq s
 refine⟨_,Fd hd.rd,?_⟩
 unfold fcmp
 have ho:FloatKind.f64.format.order v (Ieee.double.nearest s (Ieee.Toward.cut .zero s (M <<< E.toNat) (-E).toNat) 0)=Ieee.Datum.order (.number s M E) (.number s n j):=by
  show Ieee.Datum.order (Ieee.double.read v) (Ieee.double.read _)=_
  rw[hd.rd,hr]
 simp only[ho]
 rw[beq_eq_false_iff_ne]
 intro he
 exact hx _ ((hd.nv _).1 (Sa hn he))
end Go.Rex
namespace Go.Rex
open Go Go.Rex
set_option maxRecDepth 100000
theorem ord64{a b:Nat}{s t:Bool}{m n:Nat}{i j:Int}(h:Ieee.double.read a = .number s m i)(g:Ieee.double.read b = .number t n j):FloatKind.f64.format.order a b=Ieee.Datum.order (.number s m i) (.number t n j):=by
 show Ieee.Datum.order (Ieee.double.read a) (Ieee.double.read b)=_
 rw[h,g]
theorem ord32{a b:Nat}{s t:Bool}{m n:Nat}{i j:Int}(h:Ieee.single.read a = .number s m i)(g:Ieee.single.read b = .number t n j):FloatKind.f32.format.order a b=Ieee.Datum.order (.number s m i) (.number t n j):=by
 show Ieee.Datum.order (Ieee.single.read a) (Ieee.single.read b)=_
 rw[h,g]
theorem vU{v:Nat}{s:Bool}{M:Nat}{E:Int}(h:Ieee.double.read v = .number s M E):fcmp .eql .f64 v v=true∧fcmp .neq .f64 v v=false:=by
 have:FloatKind.f64.format.order v v=some .eq:=by
  rw[ord64 h h,nK (Int.le_refl _) (Int.le_refl _)]
  congr 1
  exact Int.compare_eq_eq.2 rfl
 unfold fcmp
 simp only[this]
 exact⟨rfl,rfl⟩
theorem Rw{s:Bool}{r M:Nat}{E:Int}(hr:r<Ieee.double.signWeight)(h:Ieee.double.read (Ieee.double.word s r) = .number s M E):Ieee.double.read r = .number false M E:=by
 have h1:=wd s r hr
 have h2:(r/Ieee.double.signWeight%2==1)=false∧r%Ieee.double.signWeight=r:=by
  rw[Nat.div_eq_of_lt hr,Nat.mod_eq_of_lt hr]
  exact⟨rfl,rfl⟩
 unfold Ieee.Format.read at h ⊢
 simp only[h1.1,h1.2] at h
 simp only[h2.1,h2.2]
 split at h
 ·rename_i q
  rw[if_pos q]
  cases h
  rfl
 ·rename_i q
  rw[if_neg q]
  split at h
  ·rename_i q2
   rw[if_pos q2]
   cases h
   rfl
  ·split at h<;>cases h
theorem Ps:Ieee.double.read 9218868437227405311 = .number false (2^53-1) 971:=by decide +kernel
theorem Sw{r M:Nat}{E:Int}(h:Ieee.double.read r = .number false M E)(hM:M<2^53)(hE:E≤104):fcmp .gtr .f64 r 9218868437227405311=false:=by
 have:FloatKind.f64.format.order r 9218868437227405311≠some .gt:=by
  rw[ord64 h Ps,nK (b:=E) (Int.le_refl _) (by omega)]
  intro hc
  rw[Option.some.injEq,Int.compare_eq_gt] at hc
  have h0:(E-E).toNat=0:=by omega
  rw[h0] at hc
  simp only[sg,Bool.false_eq_true,if_false,Int.pow_zero,Int.mul_one] at hc
  have h2:(1:Int)≤2^(971-E).toNat:=by have:=Int.pow_pos (m:=(971-E).toNat) (show (0:Int)<2 by decide);omega
  have h3:=Int.mul_le_mul_of_nonneg_left h2 (show (0:Int)≤((2^53-1:Nat):Int) by decide)
  rw[Int.mul_one] at h3
  have h4:((2^53-1:Nat):Int)=9007199254740991:=by decide
  rw[h4] at h3 hc
  omega
 unfold fcmp
 simp only
 rw[beq_eq_false_iff_ne]
 exact this
theorem Tc(s:Bool)(r:Nat)(hr:r<2^63):(tH .andNot .u64 ((Ieee.double.word s r:Nat):Int) 9223372036854775808).toNat=r:=by
 have hw:Ieee.double.word s r<2^64∧Ieee.double.word s r%2^63=r:=by
  unfold Ieee.Format.word
  have e:Ieee.double.signWeight=2^63:=by decide +kernel
  rw[e]
  cases s
  ·simp only[Bool.false_eq_true,if_false]
   omega
  ·simp only[if_true]
   omega
 generalize Ieee.double.word s r=v at hw ⊢
 unfold tH
 have hb:IntKind.u64.bits=64:=rfl
 have hwrap:∀ n:Int,IntKind.u64.wrap n=n%2^64:=fun n=>rfl
 simp only[hwrap]
 show (((BitVec.ofInt 64 (v:Int) &&& ~~~ BitVec.ofInt 64 9223372036854775808).toNat:Int)%2^64).toNat=r
 have h1:(BitVec.ofInt 64 (v:Int) &&& ~~~ BitVec.ofInt 64 9223372036854775808).toNat=v%2^63:=by
  have h2:(~~~ BitVec.ofInt 64 9223372036854775808).toNat=2^63-1:=by decide
  have h3:(BitVec.ofInt 64 (v:Int)).toNat=v:=by
   rw[BitVec.toNat_ofInt]
   omega
  rw[BitVec.toNat_and,h2,h3,Nat.and_two_pow_sub_one_eq_mod]
 rw[h1,hw.2]
 omega
theorem Nj{s:Bool}{m:Nat}{e:Int}{v M:Nat}{E:Int}(hd:Dbl s m e v M E):lB v 0=some false:=by
 obtain⟨r,hr,hri⟩:=Nq s m e
 rw[← hd.nr] at hr
 have hs:r<Ieee.double.signWeight:=by
  have:=dbl.2.2.2
  have h0:Ieee.double.infRung<Ieee.double.signWeight:=by decide +kernel
  omega
 have hs63:r<2^63:=by
  have e:Ieee.double.signWeight=2^63:=by decide +kernel
  rw[e] at hs
  exact hs
 have hn:=pL (k:=.f64) hd.rd
 have hrd:=hd.rd
 unfold lB uT fbits
 rw[hn]
 simp only[decide_true,if_true,Bool.false_eq_true,if_false,Option.bind_some]
 rw[hr,Tc s r hs63]
 rw[hr] at hrd
 rw[Sw (Rw hs hrd) hd.lt hd.hi]
theorem Be{b:Nat}{s:Bool}{m:Nat}{e x:Int}(hr:Ieee.single.read b = .number s m e)(h:MOk m e)(hx:NV s m e x):bY b=some true:=by
 obtain⟨M,E,hd⟩:=Aj (s:=s) h
 unfold bY jV
 rw[uM hr h]
 simp only[Option.bind_some]
 rw[Cs h hd hx]
 simp only[Option.bind_some]
 rw[(vU hd.rd).1,Nj hd]
 simp
theorem Nu{b:Nat}{s:Bool}{m:Nat}{e:Int}(hr:Ieee.single.read b = .number s m e)(h:MOk m e)(hx:∀ x,¬ NV s m e x):bY b=some false:=by
 obtain⟨M,E,hd⟩:=Aj (s:=s) h
 obtain⟨w,h1,h2⟩:=Ry h hd hx
 unfold bY jV
 rw[uM hr h]
 simp only[Option.bind_some]
 rw[h1]
 simp only[Option.bind_some]
 rw[h2]
 simp
theorem Qv{b:Nat}{s:Bool}{t:Nat}(hr:Ieee.single.read b = .nan s t):bY b=some false∧f2f .f32 b .f64=some (qn .f64):=by
 have hn:fK .f32 b=true:=yJ (k:=.f32) hr
 have hf:f2f .f32 b .f64=some (qn .f64):=by
  unfold f2f
  rw[if_neg (by decide),hn,if_pos rfl]
 refine⟨?_,hf⟩
 unfold bY jV
 rw[hf]
 simp only[Option.bind_some]
 have e:trI .zero (qn .f64)=some (qn .f64):=by decide +kernel
 rw[e]
 simp only[Option.bind_some]
 have e2:fcmp .eql .f64 (qn .f64) (qn .f64)=false:=by decide +kernel
 rw[e2]
 simp
theorem Sh{b:Nat}{s:Bool}(hr:Ieee.single.read b = .infinity s):bY b=some false∧f2f .f32 b .f64=some (FloatKind.f64.encode (.infinity s)):=by
 have hn:fK .f32 b=false:=by
  cases hq:fK .f32 b with
  | false=>rfl
  | true =>
   obtain⟨s',t,e'⟩:=jM hq
   have e':Ieee.single.read b = .nan s' t:=e'
   rw[hr] at e'
   cases e'
 have hf:f2f .f32 b .f64=some (FloatKind.f64.encode (.infinity s)):=by
  unfold f2f
  rw[if_neg (by decide),hn,if_neg (by decide)]
  have:FloatKind.f32.decode b = .infinity s:=hr
  rw[this]
 refine⟨?_,hf⟩
 unfold bY
 rw[hf]
 simp only[Option.bind_some]
 cases s<;>decide +kernel
theorem Nt{s:Bool}{m:Nat}{e:Int}{v M:Nat}{E x:Int}(h:MOk m e)(hd:Dbl s m e v M E)(hx:NV s m e x):Ieee.Toward.cut .zero s (M <<< E.toNat) (-E).toNat=x.natAbs∧Ieee.double.nearest s x.natAbs 0=v:=by
 have key:=Cs h hd hx
 rw[Fd hd.rd] at key
 have key:=Option.some.inj key
 suffices hq:Ieee.Toward.cut .zero s (M <<< E.toNat) (-E).toNat=x.natAbs by
  rw[hq] at key
  exact⟨hq,key⟩
 clear key
 rcases hd.sh with⟨h0,h1,h2⟩|⟨t,hm,h1,h2⟩
 ·subst h0 h1 h2
  have e0:sg s 0=0:=by cases s<;>rfl
  have hx0:x=0:=by
   rcases hx with⟨_,hx⟩|⟨_,hx⟩
   ·rw[e0,Int.zero_mul] at hx;exact hx.symm
   ·rw[e0] at hx
    rcases Int.mul_eq_zero.1 hx.symm with h|h
    ·exact h
    ·exact absurd h (Int.ne_of_gt (Int.pow_pos (by decide)))
  rw[hx0,show (0:Nat) <<< (-1074:Int).toNat=0 by rw[shl];simp,tU]
  rfl
 ·subst h1 h2
  rcases hx with⟨he,hx⟩|⟨he,hx⟩
  ·rw[shl,Nat.mul_assoc,← Nat.pow_add,kG hm s (by omega)]
   have h3:=congrArg Int.natAbs hx
   rw[Int.natAbs_mul,tY,Int.natAbs_pow] at h3
   rw[← h3]
   show _=m*2^e.toNat
   congr 2
   omega
  ·have hX : m = x.natAbs * 2 ^ (-e).toNat := by
     have:=congrArg Int.natAbs hx
     rw[tY,Int.natAbs_mul,Int.natAbs_pow] at this
     exact this
   have hX0:x.natAbs≠0:=by
    intro h
    rw[h,Nat.zero_mul] at hX
    exact hm hX
   rw[show (e-(t:Int)).toNat=0 by omega,shl,Nat.pow_zero,Nat.mul_one,hX,Nat.mul_assoc,← Nat.pow_add,kG hX0 s (by omega)]
   rw[show (-e).toNat+t-(-(e-(t:Int))).toNat=0 by omega]
   simp
theorem Mo{s t:Bool}{m n:Nat}{i j y:Int}(g:NV t n j y)(h:Ieee.Datum.order (.number t n j) (.number s m i)=some .eq):NV s m i y:=by
 have hb:min (min i j) 0≤i∧min (min i j) 0≤j∧min (min i j) 0≤0:=by omega
 rw[nK hb.2.1 hb.1,g.at hb.2.1 hb.2.2,Option.some.injEq,Int.compare_eq_eq] at h
 exact NV.of hb.1 hb.2.2 h.symm
theorem Lv:Ieee.double.read 14069741636278059008 = .number true 5000000000000000 1:=by decide +kernel
theorem Lq:Ieee.double.read 4846369599423283200 = .number false 5000000000000000 1:=by decide +kernel
theorem Ct{v:Nat}{s:Bool}{M:Nat}{E:Int}(h:Ieee.double.read v = .number s M E):farith .sub .f64 v v=some 0:=by
 refine Ws ?_
 show (((Ieee.double.read v).sum (Ieee.double.read v).opposite).map Ieee.double.write)=some 0
 rw[h]
 simp only[Ieee.Datum.opposite,Ieee.Datum.sum]
 have e:min E E=E:=by omega
 rw[e]
 have h0:(E-E).toNat=0:=by omega
 rw[h0]
 simp only[sC,Int.pow_zero,Int.mul_one]
 have hz:sg s M+sg (!s) M=0:=by cases s<;>simp[sg]<;>omega
 rw[hz]
 simp only[if_true,Option.map_some]
 have hs:(s&&!s)=false:=by cases s<;>rfl
 rw[hs]
 show some (Ieee.double.nearest false 0 E)=some 0
 rw[wQ]
 rfl
theorem cmpI{x y:Int}:((some (compare x y)==some Ordering.gt||some (compare x y)==some Ordering.eq)=decide (y≤x))∧((some (compare x y)==some Ordering.lt||some (compare x y)==some Ordering.eq)=decide (x≤y))∧((some (compare x y)==some Ordering.lt)=decide (x<y))∧((some (compare x y)==some Ordering.gt)=decide (y<x))∧((some (compare x y)==some Ordering.eq)=decide (x=y)):=by
 simp only[compare,compareOfLessAndEq]
 rcases Int.lt_trichotomy x y with h|h|h
 ·rw[if_pos h]
  refine⟨?_,?_,?_,?_,?_⟩<;>simp<;>omega
 ·subst h
  rw[if_neg (Int.lt_irrefl _),if_pos rfl]
  refine⟨?_,?_,?_,?_,?_⟩<;>simp
 ·rw[if_neg (by omega),if_neg (by omega)]
  refine⟨?_,?_,?_,?_,?_⟩<;>simp<;>omega
theorem Mh{v:Nat}{s:Bool}{M:Nat}{E:Int}{q:Nat}(h:Ieee.double.read v = .number s M E)(hq:Ieee.Toward.cut .zero s (M <<< E.toNat) (-E).toNat=q)(hb:q<2^63):f2i .f64 v .i64=some (sg s q):=by
 unfold f2i
 have e:FloatKind.f64.decode v = .number s M E:=h
 rw[e]
 have e2:(Ieee.Datum.number s M E).toInt .zero=some (sg s q):=by
  unfold Ieee.Datum.toInt Ieee.Datum.integral
  simp only[hq,sC,Int.pow_zero,Int.mul_one]
 rw[e2]
 simp only
 have hm:IntKind.i64.min = -9223372036854775808∧IntKind.i64.max=9223372036854775807:=by decide
 rw[hm.1,hm.2,if_pos]
 cases s<;>simp only[sg,if_true,if_false,Bool.false_eq_true]<;>omega
theorem My{s:Bool}{m:Nat}{e:Int}{v M:Nat}{E x:Int}(h:MOk m e)(hd:Dbl s m e v M E)(hx:NV s m e x):dG v=some true:=by
 have hX:=(hd.nv x).2 hx
 have g1:fcmp .geq .f64 v 14069741636278059008=decide (-10000000000000000≤x):=by
  unfold fcmp
  simp only
  rw[ord64 hd.rd Lv,nL hX (y:=-10000000000000000) (.inl ⟨by decide,by decide⟩)]
  exact cmpI.1
 have g2:fcmp .leq .f64 v 4846369599423283200=decide (x≤10000000000000000):=by
  unfold fcmp
  simp only
  rw[ord64 hd.rd Lq,nL hX (y:=10000000000000000) (.inl ⟨by decide,by decide⟩)]
  exact cmpI.2.1
 unfold dG
 rw[(vU hd.rd).2,Ct hd.rd]
 simp only[Bool.false_eq_true,if_false,Option.bind_some]
 have g0:fcmp .neq .f64 0 0=false:=by decide +kernel
 rw[g0,g1,g2]
 simp only[Bool.false_eq_true,if_false]
 by_cases c1:-10000000000000000≤x
 ·by_cases c2:x≤10000000000000000
  ·rw[if_pos (decide_eq_true c1),if_pos (decide_eq_true c2)]
   obtain⟨hq,hn⟩:=Nt h hd hx
   rw[Mh hd.rd hq (by omega),wE hx]
   simp only[Option.bind_some]
   congr 1
   have hne:FloatKind.f64.nearest x=Ieee.double.nearest (decide (x<0)) x.natAbs 0:=rfl
   by_cases x0:x=0
   ·subst x0
    have e1:FloatKind.f64.nearest 0=Ieee.double.word false 0:=by rw[hne];exact wQ _ _
    have r1:Ieee.double.read (FloatKind.f64.nearest 0) = .number false 0 (-1074):=by rw[e1];exact Jt false
    unfold fcmp
    simp only
    rw[ord64 r1 hd.rd,nL (x:=0) (.inr ⟨by decide,by rw[show sg false 0=0 from rfl,Int.zero_mul]⟩) hX]
    rfl
   ·have hs : decide (x < 0) = s := by
      have h1:=wE hx
      cases s
      ·simp only[sg,Bool.false_eq_true,if_false] at h1
       exact decide_eq_false (by omega)
      ·simp only[sg,if_true] at h1
       exact decide_eq_true (by omega)
    rw[hne,hs,hn]
    exact (vU hd.rd).1
  ·rw[if_pos (decide_eq_true c1),if_neg (by simp;omega)]
 ·rw[if_neg (by simp;omega)]
theorem Qa{s:Bool}{m:Nat}{e:Int}{v M:Nat}{E:Int}(h:MOk m e)(hd:Dbl s m e v M E)(hx:∀ x,¬ NV s m e x):dG v=some false:=by
 have hE:E<0:=by
  rcases hd.sh with⟨h0,h1,h2⟩|⟨t,hm,h1,h2⟩
  ·omega
  ·by_cases he:0≤e
   ·exact absurd (.inl ⟨he,rfl⟩) (hx _)
   ·omega
 have hlt:=hd.lt
 have hp4:(4:Int)≤2^(1-E).toNat:=by
  rw[show (1-E).toNat=2+(-E-1).toNat by omega,kE]
  have:(1:Int)≤2^(-E-1).toNat:=by have:=Int.pow_pos (m:=(-E-1).toNat) (show (0:Int)<2 by decide);omega
  omega
 have hbig:=Int.mul_le_mul_of_nonneg_left hp4 (show (0:Int)≤5000000000000000 by decide)
 have h0:(E-E).toNat=0:=by omega
 have hsg:-(M:Int)≤sg s M∧sg s M≤M:=by cases s<;>simp[sg]<;>omega
 have g1:fcmp .geq .f64 v 14069741636278059008=true:=by
  unfold fcmp
  simp only
  rw[ord64 hd.rd Lv,nK (b:=E) (Int.le_refl _) (by omega),cmpI.1,h0]
  refine decide_eq_true ?_
  have e1:sg true 5000000000000000 = -5000000000000000:=by decide
  rw[e1,Int.pow_zero,Int.mul_one,Int.neg_mul]
  omega
 have g2:fcmp .leq .f64 v 4846369599423283200=true:=by
  unfold fcmp
  simp only
  rw[ord64 hd.rd Lq,nK (b:=E) (Int.le_refl _) (by omega),cmpI.2.1,h0]
  refine decide_eq_true ?_
  have e1:sg false 5000000000000000=5000000000000000:=by decide
  rw[e1,Int.pow_zero,Int.mul_one]
  omega
 unfold dG
 rw[(vU hd.rd).2,Ct hd.rd]
 simp only[Bool.false_eq_true,if_false,Option.bind_some]
 have g0:fcmp .neq .f64 0 0=false:=by decide +kernel
 rw[g0,g1,g2]
 simp only[Bool.false_eq_true,if_false,if_true]
 have hq:Ieee.Toward.cut .zero s (M <<< E.toNat) (-E).toNat<2^53:=by
  rw[show E.toNat=0 by omega,shl,Nat.pow_zero,Nat.mul_one]
  unfold Ieee.Toward.cut
  simp only[Bool.toNat_false,Nat.add_zero]
  exact Nat.lt_of_le_of_lt (Nat.div_le_self _ _) hlt
 generalize hqq:Ieee.Toward.cut .zero s (M <<< E.toNat) (-E).toNat=q at hq
 rw[Mh hd.rd hqq (by omega)]
 simp only[Option.bind_some]
 congr 1
 have hne:FloatKind.f64.nearest (sg s q)=Ieee.double.nearest (decide (sg s q<0)) (sg s q).natAbs 0:=rfl
 rw[tY] at hne
 obtain⟨n,j,r1,r2⟩:=Ah hq (decide (sg s q<0))
 rw[← hne] at r1
 unfold fcmp
 simp only
 rw[beq_eq_false_iff_ne,ord64 r1 hd.rd]
 intro he
 exact hx _ ((hd.nv _).1 (Mo r2 he))
end Go.Rex
namespace Go.Rex
theorem w64{x:Int}(h:-9223372036854775808≤x∧x≤9223372036854775807):IntKind.i64.wrap x=x:=IntWalk.i64_in x (by omega)
theorem iE{σ ε:Type}{step:σ→Option (σ ⊕ ε)}(f:Nat→σ){n:Nat}{e:ε}(h:∀ k,k<n→step (f k)=some (.inl (f (k+1))))(hn:step (f n)=some (.inr e)):run step (f 0)=some e:=by
 suffices H:∀ j k,n-k=j→k≤n→run step (f k)=some e from H n 0 (by omega) (Nat.zero_le _)
 intro j
 induction j with
 | zero => intro k hj hk; obtain rfl : k = n := by omega
           exact lX hn
 | succ j ih=>intro k hj hk;rw[vJ (h k (by omega))];exact ih (k+1) (by omega) (by omega)
theorem aS{α:Type}{xs:List α}{k:Nat}:bN xs (k:Int)=xs[k]?:=by
 unfold bN
 rw[if_pos (by omega),Int.toNat_natCast]
theorem vS{α:Type}{xs:List α}{i:Int}{k:Nat}(h:i=(k:Int)):bN xs i=xs[k]?:=by subst h;exact aS
theorem Bc{α:Type}{b:Nat}{xs:List α}{y:α}(h:xs.length<2^40)(hb:b≤128):mW b xs [y]=some (xs++[y]):=by
 unfold mW
 rw[if_pos]
 refine⟨by simp;omega,?_⟩
 have h1:(xs.length+[y].length)*b≤2^40*128:=Nat.mul_le_mul (by simp;omega) hb
 omega
def walk{α β ε:Type}(f:β→α→β ⊕ ε)(fin:β→ε):β→List α→ε
 | b,[]=>fin b
 | b,x::t=>match f b x with
  | .inl b'=>walk f fin b' t
  | .inr e=>e
theorem Hg{α β σ ε:Type}{step:σ→Option (σ ⊕ ε)}(st:Nat→β→σ)(f:β→α→β ⊕ ε)(fin:β→ε)(Inv:Nat→β→Prop)(l:List α)
 (hs:∀(k:Nat) (x:α) (b:β),l[k]?=some x→Inv k b→step (st k b)=some (match f b x with|.inl b'=>.inl (st (k+1) b')|.inr e=>.inr e)∧∀ b',f b x = .inl b'→Inv (k+1) b')
 (he:∀ b,Inv l.length b→step (st l.length b)=some (.inr (fin b))) {b0:β} (h0:Inv 0 b0):run step (st 0 b0)=some (walk f fin b0 l):=by
 suffices H:∀(t:List α) (k:Nat) (b:β),l.drop k=t→k≤l.length→Inv k b→run step (st k b)=some (walk f fin b t) from H l 0 b0 rfl (Nat.zero_le _) h0
 intro t
 induction t with
 | nil =>
  intro k b hk hkl hI
  have:k=l.length:=by
   have:=congrArg List.length hk
   simp at this
   omega
  subst this
  exact lX (he b hI)
 | cons x t ih =>
  intro k b hk hkl hI
  have hx:l[k]?=some x:=by
   have:=congrArg (fun l=>l[0]?) hk
   simpa using this
  have hlt:=(List.getElem?_eq_some_iff.1 hx).1
  obtain⟨h1,h2⟩:=hs k x b hx hI
  have ht:l.drop (k+1)=t:=by
   have:=congrArg List.tail hk
   simpa using this
  cases hf:f b x with
  | inl b' =>
   rw[hf] at h1
   rw[vJ h1,ih (k+1) b' ht (by omega) (h2 b' hf)]
   simp only[walk,hf]
  | inr e =>
   rw[hf] at h1
   rw[lX h1]
   simp only[walk,hf]
end Go.Rex
open Go Go.Rex
namespace Go.Rex
set_option maxRecDepth 100000
theorem wsucc{k:Nat}{n:Nat}(h:k≤n)(hn:n≤2^62):IntKind.i64.wrap ((k:Int)+1)=((k+1:Nat):Int):=by rw[w64 (by omega)];omega
def cU{ε:Type}(p:Nat→Option ε)(n:Nat):Option ε:=(List.range n).findSome? p
theorem firstOf_none{ε:Type}{p:Nat→Option ε}{n:Nat}:cU p n=none↔∀ k,k<n→p k=none:=by
 unfold cU
 rw[List.findSome?_eq_none_iff]
 constructor
 ·intro h k hk;exact h k (List.mem_range.2 hk)
 ·intro h k hk;exact h k (List.mem_range.1 hk)
theorem Ev{ε:Type}{p:Nat→Option ε}{n:Nat}:cU p (n+1)=match cU p n with|some e=>some e|none=>p n:=by
 unfold cU
 rw[List.range_succ,List.findSome?_append]
 cases h:List.findSome? p (List.range n) with
 | some e=>rfl
 | none=>simp
theorem Aw{ε δ:Type}{step:Int→Option (Int ⊕ (ε ⊕ δ))}{n:Nat}{p:Nat→Option ε}{r:δ}
 (h:∀ k:Nat,k<n→(∀ j,j<k→p j=none)→step (k:Int)=some (match p k with|none=>.inl ((k+1:Nat):Int)|some e=>.inr (.inl e))) (he:(∀ j,j<n→p j=none)→step (n:Int)=some (.inr (.inr r))):run step 0=some (match cU p n with|some e=>.inl e|none=>.inr r):=by
 suffices H:∀ m,m≤n→cU p m=none→run step 0=run step (m:Int) by
  cases hf:cU p n with
  | none =>
   simp only
   rw[H n (Nat.le_refl _) hf]
   exact lX (he (firstOf_none.1 hf))
  | some e =>
   simp only
   have:∃ m,m<n∧cU p m=none∧p m=some e:=by
    clear h he H
    induction n with
    | zero=>simp[cU] at hf
    | succ n ih =>
     rw[Ev] at hf
     cases hn:cU p n with
     | none=>rw[hn] at hf;exact⟨n,by omega,hn,hf⟩
     | some e'=>rw[hn] at hf;cases hf;obtain⟨m,h1,h2⟩:=ih hn;exact⟨m,by omega,h2⟩
   obtain⟨m,hm,h1,h2⟩:=this
   rw[H m (by omega) h1]
   have:=h m hm (firstOf_none.1 h1)
   rw[h2] at this
   exact lX this
 intro m
 induction m with
 | zero=>intro _ _;rfl
 | succ m ih =>
  intro hm hf
  have hf':=firstOf_none.1 hf
  rw[ih (by omega) (firstOf_none.2 fun k hk=>hf' k (by omega))]
  have:=h m (by omega) (fun j hj=>hf' j (by omega))
  rw[hf' m (by omega)] at this
  exact vJ this
def iter{β:Type}(g:Nat→β→β):Nat→β→β
 | 0,b=>b
 | k+1,b=>g k (iter g k b)
theorem iN{β σ ε:Type}{step:σ→Option (σ ⊕ ε)}(st:Nat→β→σ)(g:Nat→β→β)(fin:β→ε)(n:Nat)(Inv:Nat→β→Prop){b0:β}(h0:Inv 0 b0)
 (hs:∀ k b,k<n→Inv k b→step (st k b)=some (.inl (st (k+1) (g k b)))∧Inv (k+1) (g k b)) (he:∀ b,Inv n b→step (st n b)=some (.inr (fin b))) :
 run step (st 0 b0)=some (fin (iter g n b0))∧∀ k,k≤n→Inv k (iter g k b0):=by
 have hI:∀ k,k≤n→Inv k (iter g k b0):=by
  intro k
  induction k with
  | zero=>intro _;exact h0
  | succ k ih=>intro hk;exact (hs k _ (by omega) (ih (by omega))).2
 refine⟨?_,hI⟩
 exact iE (fun k=>st k (iter g k b0)) (fun k hk=>(hs k _ hk (hI k (by omega))).1) (he _ (hI n (Nat.le_refl _)))
end Go.Rex
namespace Go.Rex
open Go Go.Rex
set_option maxRecDepth 100000
theorem Zi{s:Bool}{m:Nat}{e x:Int}(h:MOk m e)(hx:NV s m e x):Ieee.Toward.cut .zero s (m <<< e.toNat) (-e).toNat=x.natAbs:=by
 rcases h with⟨h0,h1⟩|⟨hm,-,-,-⟩
 ·subst h0 h1
  have e0:sg s 0=0:=by cases s<;>rfl
  have hx0:x=0:=by
   rcases hx with⟨_,hx⟩|⟨_,hx⟩
   ·rw[e0,Int.zero_mul] at hx;exact hx.symm
   ·rw[e0] at hx
    rcases Int.mul_eq_zero.1 hx.symm with h|h
    ·exact h
    ·exact absurd h (Int.ne_of_gt (Int.pow_pos (by decide)))
  rw[hx0,show (0:Nat) <<< (-149:Int).toNat=0 by rw[shl];simp,tU]
  rfl
 ·rcases hx with⟨he,hx⟩|⟨he,hx⟩
  ·rw[shl,show (-e).toNat=0 by omega,kG hm s (by omega)]
   have h3:=congrArg Int.natAbs hx
   rw[Int.natAbs_mul,tY,Int.natAbs_pow] at h3
   rw[← h3]
   rfl
  ·have hX : m = x.natAbs * 2 ^ (-e).toNat := by
     have:=congrArg Int.natAbs hx
     rw[tY,Int.natAbs_mul,Int.natAbs_pow] at this
     exact this
   have hX0:x.natAbs≠0:=by
    intro h
    rw[h,Nat.zero_mul] at hX
    exact hm hX
   rw[show e.toNat=0 by omega,shl,Nat.pow_zero,Nat.mul_one,hX,kG hX0 s (Nat.le_refl _)]
   simp
def SV(b:Nat)(x:Int):Prop:=∃ s m e,Ieee.single.read b = .number s m e∧MOk m e∧NV s m e x
structure RS(b:Nat)(o:Option Int):Prop where
 val:∃ v,f2f .f32 b .f64=some v∧dG v=some o.isSome∧∀ x,o=some x→fcmp .gtr .f64 v 4674736138332667904=decide (32767<x)∧fcmp .lss .f64 v 13898108175187443712=decide (x < -32767)
theorem Kr{b:Nat}{s:Bool}{m:Nat}{e:Int}(h:Ieee.single.read b = .number s m e):MOk m e:=by
 rcases Cr b with⟨s',t,h1⟩|⟨s',h1⟩|⟨s',m',e',h1,h2⟩
 ·rw[h] at h1;cases h1
 ·rw[h] at h1;cases h1
 ·rw[h] at h1
  injection h1 with a1 a2 a3
  subst a2 a3
  exact h2
theorem Ud{b:Nat}{s:Bool}{n u:Nat}(h:Ieee.single.read b = .number s (n*2^u) (-(u:Int))):SV b (sg s n):=by
 refine⟨s,_,_,h,Kr h,?_⟩
 by_cases hu:u=0
 ·subst hu
  left
  refine⟨by omega,?_⟩
  simp
 ·right
  refine⟨by omega,?_⟩
  rw[Jv,Int.natCast_pow,show (-(-(u:Int))).toNat=u by omega]
  rfl
theorem Xq{s:Bool}{n:Nat}(h:ffit .f32 n):SV (fz .f32 s n) (sg s n):=Ud (Tp (k:=.f32) h)
theorem To{x:Int}(h:x.natAbs<2^24):SV (FloatKind.f32.nearest x) x:=by
 have h1:=Xq (s:=decide (x<0)) (n:=x.natAbs) h
 have e:sg (decide (x<0)) x.natAbs=x:=by
  unfold sg
  by_cases q:x<0
  ·simp only[q,decide_true,if_true];omega
  ·simp only[q,decide_false,Bool.false_eq_true,if_false];omega
 rw[e] at h1
 exact h1
theorem Ua{b:Nat}{x y:Int}(h:SV b x)(g:SV b y):x=y:=by
 obtain⟨s,m,e,h1,h2,h3⟩:=h
 obtain⟨s',m',e',g1,g2,g3⟩:=g
 rw[h1] at g1
 injection g1 with a1 a2 a3
 subst a1 a2 a3
 rcases h3 with⟨p,q⟩|⟨p,q⟩<;>rcases g3 with⟨p',q'⟩|⟨p',q'⟩
 ·omega
 ·omega
 ·omega
 ·have hp:(0:Int)<2^(-e).toNat:=Int.pow_pos (by decide)
  exact Int.eq_of_mul_eq_mul_right (Int.ne_of_gt hp) (q.symm.trans q')
theorem qZ(b:Nat):fZ b=bY b:=by
 unfold fZ bY
 rfl
theorem Tq{b:Nat}{x:Int}(h:SV b x)(hb:-4611686018427387904≤x∧x≤4611686018427387904):f2i .f32 b .i64=some x:=by
 obtain⟨s,m,e,hr,h,hx⟩:=h
 unfold f2i
 have e1:FloatKind.f32.decode b = .number s m e:=hr
 rw[e1]
 have e2:(Ieee.Datum.number s m e).toInt .zero=some x:=by
  unfold Ieee.Datum.toInt Ieee.Datum.integral
  simp only[Zi h hx,sC,Int.pow_zero,Int.mul_one,wE hx]
 rw[e2]
 simp only
 have hm:IntKind.i64.min = -9223372036854775808∧IntKind.i64.max=9223372036854775807:=by decide
 rw[hm.1,hm.2,if_pos (by omega)]
theorem read_b:Ieee.single.read 1266679808 = .number false 8388608 1∧Ieee.single.read 3414163456 = .number true 8388608 1∧Op.negFloat .f32 1266679808=3414163456∧Ieee.double.read 4715268809856909312 = .number false 4503599627370496 (-28)∧Ieee.double.read 13938640846711685120 = .number true 4503599627370496 (-28):=by decide +kernel
theorem nv_b:NV false 8388608 1 16777216∧NV true 8388608 1 (-16777216)∧NV false 4503599627370496 (-28) 16777216∧NV true 4503599627370496 (-28) (-16777216) :=
 ⟨.inl ⟨by decide,by decide⟩,.inl ⟨by decide,by decide⟩,.inr ⟨by decide,by decide⟩,.inr ⟨by decide,by decide⟩⟩
theorem Hi{b:Nat}{x:Int}(h:SV b x):aT b 1266679808=some (decide (-16777216≤x∧x≤16777216)):=by
 obtain⟨s,m,e,h1,h2,h3⟩:=h
 unfold aT
 rw[read_b.2.2.1]
 have g1:fcmp .leq .f32 3414163456 b=decide (-16777216≤x):=by
  unfold fcmp
  simp only
  rw[ord32 read_b.2.1 h1,nL nv_b.2.1 h3]
  exact cmpI.2.1
 have g2:fcmp .leq .f32 b 1266679808=decide (x≤16777216):=by
  unfold fcmp
  simp only
  rw[ord32 h1 read_b.1,nL h3 nv_b.1]
  exact cmpI.2.1
 rw[g1,g2]
 by_cases c:-16777216≤x
 ·rw[if_pos (decide_eq_true c)]
  congr 1
  rw[decide_eq_decide]
  omega
 ·rw[if_neg (by simpa using c)]
  congr 1
  symm
  rw[decide_eq_false_iff_not]
  omega
theorem Dl(b c:Nat):∃ r,aT b c=some r:=by
 unfold aT
 split<;>exact⟨_,rfl⟩
structure RW(b:Nat)(o:Option Int):Prop where
 ws:fZ b=some o.isSome
 val:∃ v,f2f .f32 b .f64=some v∧dG v=some o.isSome∧∀ x,o=some x→fcmp .gtr .f64 v 4715268809856909312=decide (16777216<x)∧fcmp .lss .f64 v 13938640846711685120=decide (x < -16777216)
theorem Jx(b:Nat):RW b none∨∃ x,SV b x∧RW b (some x):=by
 rcases Cr b with⟨s,t,h⟩|⟨s,h⟩|⟨s,m,e,h,hm⟩
 ·obtain⟨h1,h2⟩:=Qv h
  exact .inl ⟨(qZ b).trans h1,⟨_,h2,by decide +kernel,fun x hx=>by cases hx⟩⟩
 ·obtain⟨h1,h2⟩:=Sh h
  exact .inl ⟨(qZ b).trans h1,⟨_,h2,by cases s<;>decide +kernel,fun x hx=>by cases hx⟩⟩
 ·obtain⟨M,E,hd⟩:=Aj (s:=s) hm
  by_cases hx:∃ x,NV s m e x
  ·obtain⟨x,hx⟩:=hx
   refine .inr ⟨x,⟨s,m,e,h,hm,hx⟩,(qZ b).trans (Be h hm hx),⟨_,uM h hm,My hm hd hx,fun y hy=>?_⟩⟩
   cases hy
   have hX:=(hd.nv x).2 hx
   constructor
   ·unfold fcmp
    simp only
    rw[ord64 hd.rd read_b.2.2.2.1,nL hX nv_b.2.2.1]
    exact cmpI.2.2.2.1
   ·unfold fcmp
    simp only
    rw[ord64 hd.rd read_b.2.2.2.2,nL hX nv_b.2.2.2]
    exact cmpI.2.2.1
  ·have hx:∀ x,¬ NV s m e x:=fun x h=>hx ⟨x,h⟩
   exact .inl ⟨(qZ b).trans (Nu h hm hx),⟨_,uM h hm,Qa hm hd hx,fun x hx=>by cases hx⟩⟩
open Classical in
noncomputable def wv(b:Nat):Option Int:=if h:∃ x,SV b x then some (Classical.choose h) else none
theorem Xn{b:Nat}{x:Int}(h:SV b x):wv b=some x:=by
 have hx:∃ x,SV b x:=⟨x,h⟩
 unfold wv
 rw[dif_pos hx,Ua (Classical.choose_spec hx) h]
theorem Ji{b:Nat}{x:Int}(h:wv b=some x):SV b x:=by
 unfold wv at h
 split at h
 ·rename_i hx
  obtain rfl:=Option.some.inj h
  exact Classical.choose_spec hx
 ·cases h
theorem Md{b:Nat}:RW b (wv b):=by
 rcases Jx b with h|⟨x,h1,h2⟩
 ·have : wv b = none := by
    cases hw:wv b with
    | none=>rfl
    | some x =>
     have sv:=Ji hw
     obtain⟨s,m,e,g1,g2,g3⟩:=sv
     have:=(qZ b).trans (Be g1 g2 g3)
     rw[h.ws] at this
     exact absurd (Option.some.inj this) (by decide)
  rw[this];exact h
 ·rw[Xn h1];exact h2
def sm24(x:Int):Bool:=decide (-16777216≤x∧x≤16777216)
noncomputable def cE(p:Nat×Nat):Int:=match wv p.1,wv p.2 with
 | some x,some y=>if sm24 x=true∧sm24 y=true then 0 else 2
 | _,_=>27
theorem fe9(a:Bool)(x:Int)(b:Bool)(y:Int)(hx:x≠0):aL a x b y=some (if a=true then x else if b=true then y else 0):=by
 unfold aL aB
 cases a
 ·cases b
  ·rfl
  ·by_cases hy:y=0<;>simp[hy]
 ·simp[hx]
theorem Jm(a b:Nat):jH a b=some (cE (a,b)):=by
 have ra:=Md (b:=a)
 have rb:=Md (b:=b)
 obtain⟨sa,hsa⟩:=Dl a 1266679808
 obtain⟨sb,hsb⟩:=Dl b 1266679808
 unfold jH cE aC
 rw[ra.ws,rb.ws,hsa,hsb]
 simp only[Option.bind_some]
 cases ha:wv a with
 | none =>
  simp only[Option.isSome_none,Bool.false_eq_true,if_false]
  cases sa<;>simp only[Bool.false_eq_true,if_false,if_true]<;>rw[fe9 _ _ _ _ (by decide)]<;>rfl
 | some x =>
  have h1:=Hi (Ji ha)
  rw[hsa] at h1
  have h1:=Option.some.inj h1
  cases hb:wv b with
  | none =>
   simp only[Option.isSome_none,Option.isSome_some,Bool.false_eq_true,if_false,if_true,Bool.not_false]
   cases sa<;>simp only[Bool.false_eq_true,if_false,if_true]<;>rw[fe9 _ _ _ _ (by decide)]<;>rfl
  | some y =>
   have h2:=Hi (Ji hb)
   rw[hsb] at h2
   have h2:=Option.some.inj h2
   simp only[Option.isSome_some,if_true,Bool.not_true]
   rw[h1,h2]
   unfold sm24
   by_cases c1:-16777216≤x∧x≤16777216<;>by_cases c2:-16777216≤y∧y≤16777216
   ·rw[decide_eq_true c1,decide_eq_true c2,if_pos rfl,fe9 _ _ _ _ (by decide)];rfl
   ·rw[decide_eq_true c1,decide_eq_false c2,if_pos rfl,fe9 _ _ _ _ (by decide)];rfl
   ·rw[decide_eq_false c1,decide_eq_true c2,if_neg (by decide),fe9 _ _ _ _ (by decide)];rfl
   ·rw[decide_eq_false c1,decide_eq_false c2,if_neg (by decide),fe9 _ _ _ _ (by decide)];rfl
noncomputable def rG(l:List (Nat×Nat))(k:Nat):Option Int:=match l[k]? with
 | some p=>if cE p=0 then none else some (cE p)
 | none=>none
noncomputable def lE(l:List (Nat×Nat)):Int:=if l.length=0 then 10 else if 1024<l.length then 8 else (cU (rG l) l.length).getD 0
theorem Sd(l:List (Nat×Nat))(hl:l.length≤1024):run (bE (l.length:Int) l) 0=some (match cU (rG l) l.length with|some e=>.inl e|none=>.inr ()):=by
 have H:∀ k:Nat,k<l.length→bE (l.length:Int) l (k:Int)=some (match rG l k with|none=>.inl ((k+1:Nat):Int)|some e=>.inr (.inl e)):=by
  intro k hk
  have hg:l[k]?=some l[k]:=List.getElem?_eq_getElem hk
  unfold bE eK rG
  rw[if_pos (by rw[decide_eq_true_eq];omega),aS,hg]
  simp only[Option.bind_some]
  rw[Jm]
  simp only[Option.bind_some]
  by_cases h:cE (l[k].1,l[k].2)=0
  ·have h':cE l[k]=0:=h
   rw[if_neg (by simpa using h),if_pos h',wsucc (n:=1024) (by omega) (by decide)]
  ·have h':cE l[k]≠0:=h
   rw[if_pos (by simpa using h),if_neg h']
 have h:=Aw (step:=bE (l.length:Int) l) (p:=rG l) (n:=l.length) (r:=()) (fun k hk hb=>by
  have h1:=H k hk
  cases hs:rG l k<;>rw[hs] at h1<;>exact h1) (fun _=>by
  unfold bE
  rw[if_neg (by rw[decide_eq_true_eq];omega)])
 rw[h]
 cases cU (rG l) l.length<;>rfl
theorem zL{l:List (Nat×Nat)}{n:Nat}{e:Int}(h:cU (rG l) n=some e):e≠0:=by
 unfold cU at h
 obtain⟨k,_,hk⟩:=List.exists_of_findSome?_eq_some h
 unfold rG at hk
 split at hk
 ·split at hk
  ·cases hk
  ·rename_i hz
   have:=Option.some.inj hk
   rw[← this];exact hz
 ·cases hk
theorem vX(l:List (Nat×Nat)):aN l=some (lE l):=by
 unfold aN aC jT fE aB lE
 simp only[Option.bind_some]
 by_cases h0:l.length=0
 ·rw[if_pos h0]
  have e:decide ((l.length:Int)=0)=true:=by rw[decide_eq_true_eq];omega
  rw[e];rfl
 ·rw[if_neg h0]
  have e:decide ((l.length:Int)=0)=false:=by rw[decide_eq_false_iff_not];omega
  rw[e]
  by_cases h1:1024<l.length
  ·rw[if_pos h1]
   have e:decide ((l.length:Int)>1024)=true:=by rw[decide_eq_true_eq];omega
   rw[e];rfl
  ·rw[if_neg h1]
   have e:decide ((l.length:Int)>1024)=false:=by rw[decide_eq_false_iff_not];omega
   rw[e]
   simp only[Bool.false_eq_true,if_false,Option.bind_some,ne_eq,not_true_eq_false,decide_false]
   unfold gU
   rw[Sd l (by omega)]
   cases hf:cU (rG l) l.length with
   | none=>rfl
   | some e =>
    have:=zL hf
    simp[this]
theorem zZ(l:List (Nat×Nat)):eC l=some (lE l):=by
 unfold eC lE
 by_cases h0:l.length=0
 ·rw[if_pos h0,if_pos (by rw[decide_eq_true_eq];omega)]
 rw[if_neg h0,if_neg (by rw[decide_eq_true_eq];omega)]
 by_cases h1:1024<l.length
 ·rw[if_pos h1,if_pos (by rw[decide_eq_true_eq];omega)]
 rw[if_neg h1,if_neg (by rw[decide_eq_true_eq];omega)]
 have H:∀ k:Nat,k<l.length→eA l (k:Int)=some (match rG l k with|none=>.inl ((k+1:Nat):Int)|some e=>.inr (.inl e)):=by
  intro k hk
  have hg:l[k]?=some l[k]:=List.getElem?_eq_getElem hk
  have ra:=Md (b:=l[k].1)
  have rb:=Md (b:=l[k].2)
  obtain⟨va,a1,a2,a3⟩:=ra.val
  obtain⟨vb,b1,b2,b3⟩:=rb.val
  unfold eA rG
  rw[if_pos (by rw[decide_eq_true_eq];omega),aS,hg]
  simp only[Option.bind_some]
  rw[a1]
  simp only[Option.bind_some]
  rw[b1]
  simp only[Option.bind_some]
  rw[a2]
  simp only[Option.bind_some]
  unfold cE
  rw[wsucc (n:=1024) (by omega) (by decide)]
  cases ha:wv l[k].1 with
  | none=>simp
  | some x =>
   rw[ha] at a3
   simp only[Option.isSome_some,if_true]
   rw[b2]
   simp only[Option.bind_some]
   cases hb:wv l[k].2 with
   | none=>simp
   | some y =>
    rw[hb] at b3
    obtain⟨c1,c2⟩:=a3 x rfl
    obtain⟨d1,d2⟩:=b3 y rfl
    simp only[Option.isSome_some,if_true]
    rw[c1,c2,d1,d2]
    have hE:¬((-16777216≤x∧x≤16777216)∧(-16777216≤y∧y≤16777216))→(if sm24 x=true∧sm24 y=true then (0:Int) else 2)=2:=fun h=>if_neg (by unfold sm24;simp only[decide_eq_true_eq];exact h)
    have hE0:((-16777216≤x∧x≤16777216)∧(-16777216≤y∧y≤16777216))→(if sm24 x=true∧sm24 y=true then (0:Int) else 2)=0:=fun h=>if_pos (by unfold sm24;simp only[decide_eq_true_eq];exact h)
    by_cases p1:16777216<x
    ·rw[if_pos (decide_eq_true p1),hE (by omega)];rfl
    rw[if_neg (by simpa using p1)]
    by_cases p2:x < -16777216
    ·rw[if_pos (decide_eq_true p2),hE (by omega)];rfl
    rw[if_neg (by simpa using p2)]
    by_cases p3:16777216<y
    ·rw[if_pos (decide_eq_true p3),hE (by omega)];rfl
    rw[if_neg (by simpa using p3)]
    by_cases p4:y < -16777216
    ·rw[if_pos (decide_eq_true p4),hE (by omega)];rfl
    rw[if_neg (by simpa using p4),hE0 (by omega)];rfl
 have h:=Aw (step:=eA l) (p:=rG l) (n:=l.length) (r:=()) (fun k hk hb=>by
  have h1:=H k hk
  cases hs:rG l k<;>rw[hs] at h1<;>exact h1) (fun _=>by
  unfold eA
  rw[if_neg (by rw[decide_eq_true_eq];omega)])
 rw[h]
 cases cU (rG l) l.length<;>rfl
noncomputable def num(p:Nat×Nat):Int×Int:=((wv p.1).getD 0,(wv p.2).getD 0)
noncomputable def nums(l:List (Nat×Nat)):List (Int×Int):=l.map num
def small(z:Int×Int):Prop:=(-16777216≤z.1∧z.1≤16777216)∧(-16777216≤z.2∧z.2≤16777216)
instance (z:Int×Int):Decidable (small z):=by unfold small;exact inferInstance
def PV(p:Nat×Nat)(z:Int×Int):Prop:=SV p.1 z.1∧SV p.2 z.2
structure GoodL(l:List (Nat×Nat)):Prop where
 len:0<l.length∧l.length≤1024
 val:∀ p∈l,PV p (num p)∧small (num p)
theorem Sy{p:Nat×Nat}(h:cE p=0):PV p (num p)∧small (num p):=by
 unfold cE at h
 unfold num PV small
 cases ha:wv p.1 with
 | none=>rw[ha] at h;exact absurd h (by simp)
 | some x =>
  cases hb:wv p.2 with
  | none=>rw[ha,hb] at h;exact absurd h (by simp)
  | some y =>
   rw[ha,hb] at h
   simp only at h
   split at h
   ·rename_i hc
    unfold sm24 at hc
    simp only[decide_eq_true_eq] at hc
    exact⟨⟨Ji ha,Ji hb⟩,hc⟩
   ·exact absurd h (by decide)
theorem Lp{l:List (Nat×Nat)}(h:lE l=0):GoodL l:=by
 unfold lE at h
 by_cases h0:l.length=0
 ·rw[if_pos h0] at h;exact absurd h (by decide)
 rw[if_neg h0] at h
 by_cases h1:1024<l.length
 ·rw[if_pos h1] at h;exact absurd h (by decide)
 rw[if_neg h1] at h
 refine⟨⟨by omega,by omega⟩,fun p hp=>?_⟩
 cases hf:cU (rG l) l.length with
 | some e=>rw[hf] at h;exact absurd h (zL hf)
 | none =>
  obtain⟨k,hk⟩:=List.mem_iff_getElem?.1 hp
  have hkl:=(List.getElem?_eq_some_iff.1 hk).1
  have:=firstOf_none.1 hf k hkl
  unfold rG at this
  rw[hk] at this
  simp only at this
  split at this
  ·rename_i hz;exact Sy hz
  ·cases this
theorem uC(l:List (Nat×Nat)):(nums l).length=l.length:=by unfold nums;simp
theorem Te{l:List (Nat×Nat)}{k:Nat}(hk:k<l.length):(nums l)[k]?=some (num l[k]):=by
 unfold nums
 rw[List.getElem?_map,List.getElem?_eq_getElem hk]
 rfl
theorem Df{b:Nat}{x:Int}(h:SV b x)(hb:-16777216≤x∧x≤16777216):f2i .f32 b .i64=some x:=Tq h (by omega)
theorem De{l:List (Nat×Nat)}(G:GoodL l):aZ l=some (nums l):=by
 have hle:=G.len
 have key:=iN (step:=bW l) (st:=fun k (b:List (Int×Int))=>(b,(k:Int))) (g:=fun k b=>b++[num (l.getD k (0,0))]) (fin:=fun b=>b) l.length
  (fun k b=>b=(nums l).take k) (b0:=[]) (by simp) (fun k b hk hb=>by
   subst hb
   have hg:l[k]?=some l[k]:=List.getElem?_eq_getElem hk
   have hd:l.getD k (0,0)=l[k]:=by rw[List.getD_eq_getElem?_getD,hg];rfl
   have hv:=G.val l[k] (List.getElem_mem hk)
   rw[hd]
   refine⟨?_,by rw[List.take_add_one,Te hk];rfl⟩
   unfold bW gD
   simp only
   rw[if_pos (by rw[decide_eq_true_eq];omega),aS,hg]
   simp only[Option.bind_some]
   rw[Df hv.1.1 hv.2.1,Df hv.1.2 hv.2.2]
   simp only[Option.bind_some,mW]
   rw[if_pos (by simp;omega),wsucc (n:=1024) (by omega) (by decide)]
   rfl) (fun b hb=>by
   unfold bW
   simp only
   rw[if_neg (by rw[decide_eq_true_eq];omega)])
 have hI:=key.2 l.length (Nat.le_refl _)
 have hr:=key.1
 rw[hI,List.take_of_length_le (by rw[uC];omega)] at hr
 unfold aZ
 simp only[Int.natCast_zero] at hr
 rw[hr]
 rfl
theorem Qt{l:List (Nat×Nat)}(G:GoodL l):dU l=some (nums l):=by
 have h:=De G
 unfold dU
 unfold aZ at h
 have e:iP l=bW l:=by
  funext ⟨v3,v4⟩
  unfold iP bW gD
  simp only
  by_cases c:decide (v4<(l.length:Int))=true
  ·rw[if_pos c,if_pos c]
   cases bN l v4 with
   | none=>rfl
   | some p =>
    simp only[Option.bind_some]
    cases f2i .f32 p.1 .i64 with
    | none=>rfl
    | some x =>
     simp only[Option.bind_some]
     cases f2i .f32 p.2 .i64<;>rfl
  ·rw[if_neg c,if_neg c]
 rw[e]
 exact h
noncomputable def qB(z:Int×Int):Nat×Nat:=(FloatKind.f32.nearest z.1,FloatKind.f32.nearest z.2)
theorem Dd{x:Int}(h:-16777216≤x∧x≤16777216):SV (FloatKind.f32.nearest x) x:=by
 by_cases h1:x=16777216
 ·subst h1
  have e:FloatKind.f32.nearest 16777216=1266679808:=by decide +kernel
  rw[e]
  exact⟨_,_,_,read_b.1,Kr read_b.1,nv_b.1⟩
 by_cases h2:x = -16777216
 ·subst h2
  have e:FloatKind.f32.nearest (-16777216)=3414163456:=by decide +kernel
  rw[e]
  exact⟨_,_,_,read_b.2.1,Kr read_b.2.1,nv_b.2.1⟩
 have h24:(16777216:Nat)=2^24:=by decide
 exact To (by rw[← h24];omega)
theorem Ts{z:Int×Int}(h:small z):PV (qB z) z:=⟨Dd h.1,Dd h.2⟩
theorem Bv(x:Int):eL x 16777216=some (decide (-16777216≤x∧x≤16777216)):=by
 unfold eL
 rw[w64 (x:=0-16777216) (by omega)]
 by_cases c:-16777216≤x
 ·rw[if_pos (by rw[decide_eq_true_eq];omega)]
  congr 1
  rw[decide_eq_decide]
  omega
 ·rw[if_neg (by rw[decide_eq_true_eq];omega)]
  congr 1
  symm
  rw[decide_eq_false_iff_not]
  omega
theorem Nc(z:Int×Int):(eZ z.1 z.2 16777216).bind (fun (v6,v7)=>(aB v6 v7).bind fun v8=>some v8)=some (if small z then 0 else 8):=by
 unfold eZ aC aB small
 rw[Bv,Bv]
 simp only[Option.bind_some]
 by_cases c1:-16777216≤z.1∧z.1≤16777216<;>by_cases c2:-16777216≤z.2∧z.2≤16777216<;>simp[c1,c2]
def kX(w:List (Int×Int))(k:Nat):Option Int:=match w[k]? with
 | some z=>if small z then none else some 8
 | none=>none
noncomputable def rec(w:List (Int×Int)):List (Nat×Nat)×Int:=if ∀ z∈w,small z then (w.map qB,0) else ([],8)
theorem big_none{w:List (Int×Int)}:cU (kX w) w.length=none↔∀ z∈w,small z:=by
 rw[firstOf_none]
 constructor
 ·intro h z hz
  obtain⟨k,hk⟩:=List.mem_iff_getElem?.1 hz
  have:=h k (List.getElem?_eq_some_iff.1 hk).1
  unfold kX at this
  rw[hk] at this
  simp only at this
  split at this
  ·assumption
  ·cases this
 ·intro h k hk
  unfold kX
  rw[List.getElem?_eq_getElem hk]
  simp only
  rw[if_pos (h _ (List.getElem_mem hk))]
theorem Pa{w:List (Int×Int)}{n:Nat}{e:Int}(h:cU (kX w) n=some e):e=8:=by
 unfold cU at h
 obtain⟨k,_,hk⟩:=List.exists_of_findSome?_eq_some h
 unfold kX at hk
 split at hk
 ·split at hk
  ·cases hk
  ·exact (Option.some.inj hk).symm
 ·cases hk
theorem Qj(w:List (Int×Int))(hw:w.length≤4096):run (dJ w) (([]:List (Nat×Nat)),0)=some (w.map qB):=by
 have key:=iN (step:=dJ w) (st:=fun k (b:List (Nat×Nat))=>(b,(k:Int))) (g:=fun k b=>b++[qB (w.getD k (0,0))]) (fin:=fun b=>b) w.length
  (fun k b=>b=(w.map qB).take k) (b0:=[]) (by simp) (fun k b hk hb=>by
   subst hb
   have hg:w[k]?=some w[k]:=List.getElem?_eq_getElem hk
   have hd:w.getD k (0,0)=w[k]:=by rw[List.getD_eq_getElem?_getD,hg];rfl
   rw[hd]
   refine⟨?_,by rw[List.take_add_one,List.getElem?_map,hg];rfl⟩
   unfold dJ
   simp only
   rw[if_pos (by rw[decide_eq_true_eq];omega),aS,hg]
   simp only[Option.bind_some,mW]
   rw[if_pos (by simp;omega),wsucc (n:=4096) (by omega) (by decide)]
   rfl) (fun b hb=>by
   unfold dJ
   simp only
   rw[if_neg (by rw[decide_eq_true_eq];omega)])
 have hI:=key.2 w.length (Nat.le_refl _)
 have hr:=key.1
 rw[hI,List.take_of_length_le (by simp)] at hr
 simp only[Int.natCast_zero] at hr
 exact hr
theorem Si(w:List (Int×Int))(hw:w.length≤4096):bX w=some (rec w):=by
 have H:∀ k:Nat,k<w.length→bS (w.length:Int) w (k:Int)=some (match kX w k with|none=>.inl ((k+1:Nat):Int)|some e=>.inr (.inl e)):=by
  intro k hk
  have hg:w[k]?=some w[k]:=List.getElem?_eq_getElem hk
  unfold bS eV kX
  rw[if_pos (by rw[decide_eq_true_eq];omega),aS,hg]
  simp only[Option.bind_some]
  have:=Nc w[k]
  rw[this]
  simp only[Option.bind_some]
  by_cases h:small w[k]
  ·rw[if_pos h,if_pos h,if_neg (by decide),wsucc (n:=4096) (by omega) (by decide)]
  ·rw[if_neg h,if_neg h,if_pos (by decide)]
 have h:=Aw (step:=bS (w.length:Int) w) (p:=kX w) (n:=w.length) (r:=()) (fun k hk hb=>by
  have h1:=H k hk
  cases hs:kX w k<;>rw[hs] at h1<;>exact h1) (fun _=>by
  unfold bS
  rw[if_neg (by rw[decide_eq_true_eq];omega)])
 unfold bX jR gP rec
 simp only[Option.bind_some]
 rw[h]
 cases hf:cU (kX w) w.length with
 | none =>
  rw[if_pos (big_none.1 hf)]
  simp only[Option.bind_some]
  rw[if_neg (by decide),Qj w hw]
  rfl
 | some e =>
  obtain rfl:=Pa hf
  rw[if_neg (fun h=>by rw[big_none.2 h] at hf;cases hf)]
  rfl
theorem size24{x:Int}(h:-4611686018427387904≤x∧x≤4611686018427387904):∃ y,lK x=some y∧(y>16777216↔¬(-16777216≤x∧x≤16777216)):=by
 refine⟨_,rfl,?_⟩
 rw[w64 (x:=0-x) (by omega)]
 split<;>omega
def mid(z:Int×Int):Prop:=(-4611686018427387904≤z.1∧z.1≤4611686018427387904)∧(-4611686018427387904≤z.2∧z.2≤4611686018427387904)
theorem Tz(w:List (Int×Int))(hw:w.length≤4096)(hm:∀ z∈w,mid z):fA w=some (rec w):=by
 let F:Nat→List (Nat×Nat):=fun k=>(w.map qB).take k
 have H:∀ k:Nat,k<w.length→bQ w (F k,(k:Int))=some (match kX w k with|none=>.inl (F (k+1),((k+1:Nat):Int))|some e=>.inr (.inl ())):=by
  intro k hk
  have hg:w[k]?=some w[k]:=List.getElem?_eq_getElem hk
  have m:=hm w[k] (List.getElem_mem hk)
  obtain⟨a,a1,a2⟩:=size24 m.1
  obtain⟨b,b1,b2⟩:=size24 m.2
  have hF:F (k+1)=F k++[qB w[k]]:=by
   show (w.map qB).take (k+1)=_
   rw[List.take_add_one,List.getElem?_map,hg];rfl
  unfold bQ kX
  simp only
  rw[if_pos (by rw[decide_eq_true_eq];omega),aS,hg]
  simp only[Option.bind_some]
  rw[a1]
  simp only[Option.bind_some]
  rw[b1]
  simp only[Option.bind_some]
  by_cases c1:a>16777216
  ·rw[if_pos (decide_eq_true c1),if_neg (fun h=>(a2.1 c1) h.1)]
  rw[if_neg (by simpa using c1)]
  by_cases c2:b>16777216
  ·rw[if_pos (decide_eq_true c2),if_neg (fun h=>(b2.1 c2) h.2)]
  rw[if_neg (by simpa using c2)]
  have hs:small w[k]:=⟨Classical.not_not.1 (fun h=>c1 (a2.2 h)),Classical.not_not.1 (fun h=>c2 (b2.2 h))⟩
  rw[if_pos hs,hF]
  unfold mW
  rw[if_pos (by
   have:(F k).length≤k:=by show ((w.map qB).take k).length≤k;simp;omega
   simp;omega),wsucc (n:=4096) (by omega) (by decide)]
  rfl
 unfold fA lP rec
 cases hf:cU (kX w) w.length with
 | none =>
  rw[if_pos (big_none.1 hf)]
  have key:=iN (step:=bQ w) (st:=fun k (b:Unit)=>(F k,(k:Int))) (g:=fun k b=>b) (fin:=fun b=>(.inr (w.map qB):Unit ⊕ List (Nat×Nat))) w.length (fun k b=>True) (b0:=()) trivial
   (fun k b hk _=>⟨by rw[H k hk,firstOf_none.1 hf k hk],trivial⟩) (fun b _=>by
    unfold bQ
    simp only
    rw[if_neg (by rw[decide_eq_true_eq];omega)]
    show some (Sum.inr (Sum.inr ((w.map qB).take w.length)))=_
    rw[List.take_of_length_le (by simp)])
  have k1:run (bQ w) (([]:List (Nat×Nat)),0)=some (.inr (w.map qB)):=by
   have:=key.1
   simpa [F] using this
  rw[k1]
  rfl
 | some e =>
  rw[if_neg (fun h=>by rw[big_none.2 h] at hf;cases hf)]
  have h1:∃ k,k<w.length∧kX w k≠none:=by
   unfold cU at hf
   obtain⟨k,h1,hk⟩:=List.exists_of_findSome?_eq_some hf
   exact⟨k,List.mem_range.1 h1,by rw[hk];simp⟩
  obtain⟨k,k1,k2⟩:=h1
  have hex:∃ m,m<w.length∧kX w m≠none∧∀ j,j<m→kX w j=none:=by
   induction k using Nat.strongRecOn with
   | ind k ih =>
    by_cases h:∃ j,j<k∧kX w j≠none
    ·obtain⟨j,j1,j2⟩:=h
     exact ih j j1 (by omega) j2
    ·exact⟨k,k1,k2,fun j hj=>Classical.not_not.1 (fun q=>h ⟨j,hj,q⟩)⟩
  obtain⟨m,m1,m2,m3⟩:=hex
  have key:=iN (step:=bQ w) (st:=fun k (b:Unit)=>(F k,(k:Int))) (g:=fun k b=>b) (fin:=fun b=>(.inl ():Unit ⊕ List (Nat×Nat))) m (fun k b=>True) (b0:=()) trivial
   (fun k b hk _=>⟨by rw[H k (by omega),m3 k hk],trivial⟩) (fun b _=>by
    have:=H m m1
    cases hb:kX w m with
    | none=>exact absurd hb m2
    | some e=>rw[hb] at this;exact this)
  have k1:run (bQ w) (([]:List (Nat×Nat)),0)=some (.inl ()):=by
   have:=key.1
   simpa [F] using this
  rw[k1]
  rfl
theorem Mq(l:List (Nat×Nat))(hl:l.length≤1026):aX l=some l:=by
 have key:=iN (step:=hZ l) (st:=fun k (b:List (Nat×Nat))=>(b,(k:Int))) (g:=fun k b=>b++[l.getD k (0,0)]) (fin:=fun b=>b) l.length
  (fun k b=>b=l.take k) (b0:=[]) (by simp) (fun k b hk hb=>by
   subst hb
   have hg:l[k]?=some l[k]:=List.getElem?_eq_getElem hk
   have hd:l.getD k (0,0)=l[k]:=by rw[List.getD_eq_getElem?_getD,hg];rfl
   rw[hd]
   refine⟨?_,by rw[List.take_add_one,hg];rfl⟩
   unfold hZ
   simp only
   rw[if_pos (by rw[decide_eq_true_eq];omega),aS,hg]
   simp only[Option.bind_some,mW]
   rw[if_pos (by simp;omega),wsucc (n:=1026) (by omega) (by decide)]
   rfl) (fun b hb=>by
   unfold hZ
   simp only
   rw[if_neg (by rw[decide_eq_true_eq];omega)])
 have hI:=key.2 l.length (Nat.le_refl _)
 have hr:=key.1
 rw[hI,List.take_of_length_le (Nat.le_refl _)] at hr
 unfold aX
 simp only[Int.natCast_zero] at hr
 rw[hr]
 rfl
theorem Nm{l:List (Nat×Nat)}(h:hU l=some true):l.length≤40∨(1024<l.length∧l.length≤1026):=by
 unfold hU at h
 split at h
 ·rename_i q
  have:=of_decide_eq_true q
  omega
 ·split at h
  ·rename_i q
   have h1:=of_decide_eq_true q
   have:=of_decide_eq_true (Option.some.inj h)
   omega
  ·cases h
theorem Sl(l:List (Nat×Nat)):∃ b,hU l=some b:=by
 unfold hU
 split
 ·exact⟨_,rfl⟩
 ·split<;>exact⟨_,rfl⟩
theorem Pp{b:Nat}{x:Int}(h:SV b x):∃ v,f2f .f32 b .f64=some v∧fbits .f64 v=some ((v:Nat):Int):=by
 obtain⟨s,m,e,h1,h2,h3⟩:=h
 obtain⟨M,E,hd⟩:=Aj (s:=s) h2
 refine⟨_,uM h1 h2,?_⟩
 have hn:=pL (k:=.f64) hd.rd
 unfold fbits
 rw[if_neg (by rw[hn];decide)]
theorem kD(l:List (Nat×Nat))(hl:l.length≤4096)(h:∀ p∈l,∃ z,PV p z):aR l l=some true:=by
 unfold aR
 rw[if_neg (by simp)]
 have:run (dR l l) 0=some (.inr ()):=by
  refine iE (fun k=>(k:Int)) (n:=l.length) (fun k hk=>?_) ?_
  ·obtain⟨z,z1,z2⟩:=h l[k] (List.getElem_mem hk)
   obtain⟨a,a1,a2⟩:=Pp z1
   obtain⟨b,b1,b2⟩:=Pp z2
   unfold dR lL
   rw[if_pos (by rw[decide_eq_true_eq];omega),aS,List.getElem?_eq_getElem hk]
   simp only[Option.bind_some,a1,b1,a2,b2,decide_true,if_true]
   rw[wsucc (n:=4096) (by omega) (by decide)]
  ·unfold dR
   rw[if_neg (by rw[decide_eq_true_eq];omega)]
 rw[this]
 rfl
theorem Ro(w:List (Int×Int))(hw:w.length≤4096):aR (rec w).1 (rec w).1=some true:=by
 unfold rec
 split
 ·rename_i h
  refine kD _ (by simp;omega) (fun p hp=>?_)
  obtain⟨z,hz,rfl⟩:=List.mem_map.1 hp
  exact⟨z,Ts (h z hz)⟩
 ·exact kD _ (by simp) (fun p hp=>by simp at hp)
def zadd(a b:Int×Int):Int×Int:=(a.1+b.1,a.2+b.2)
def zsub(a b:Int×Int):Int×Int:=(a.1-b.1,a.2-b.2)
def zsum(f:Nat→Int×Int):Nat→Int×Int
 | 0=>(0,0)
 | n+1=>zadd (zsum f n) (f n)
def zle(B:Int)(z:Int×Int):Prop:=(-B≤z.1∧z.1≤B)∧(-B≤z.2∧z.2≤B)
theorem Pv{f:Nat→Int×Int}{B:Int}:∀ {n:Nat},(∀ k,k<n→zle B (f k))→zle (n*B) (zsum f n)
 | 0,_=>by simp[zsum,zle]
 | n+1,h=>by
  have ih:=Pv (f:=f) (n:=n) (fun k hk=>h k (by omega))
  have h1:=h n (by omega)
  unfold zle at *
  simp only[zsum,zadd]
  have e:((n+1:Nat):Int)*B=n*B+B:=by rw[Int.natCast_add,Int.add_mul];simp
  rw[e]
  omega
def at0(w:List (Int×Int))(k:Nat):Int×Int:=w.getD k (0,0)
theorem uE{w:List (Int×Int)}{k:Nat}(hk:k<w.length):w[k]?=some (at0 w k):=by
 unfold at0
 rw[List.getD_eq_getElem?_getD,List.getElem?_eq_getElem hk]
 rfl
theorem nB{w:List (Int×Int)}(h:∀ z∈w,small z)(k:Nat):small (at0 w k):=by
 unfold at0
 by_cases hk:k<w.length
 ·rw[List.getD_eq_getElem?_getD,List.getElem?_eq_getElem hk]
  exact h _ (List.getElem_mem hk)
 ·rw[List.getD_eq_getElem?_getD,List.getElem?_eq_none (by omega)]
  unfold small
  simp
section
variable {a b:List (Int×Int)}
end
theorem Ac{l:List (Nat×Nat)}(G:GoodL l):∀ z∈nums l,small z:=by
 intro z hz
 unfold nums at hz
 obtain⟨p,hp,rfl⟩:=List.mem_map.1 hz
 exact (G.val p hp).2
end Go.Rex
namespace Go.Rex
open Go Go.Rex
set_option maxRecDepth 100000
section
variable {r c:List (Int×Int)}
end
end Go.Rex
namespace Go.Rex
open Go Go.Rex
set_option maxRecDepth 100000
end Go.Rex
namespace Go.Rex
def fW{α ε:Type}(P:α→Bool)(ex:Nat→α→ε)(en:ε):Nat→List α→ε
 | _,[]=>en
 | k,x::t=>if P x=true then ex k x else fW P ex en (k+1) t
theorem qU{α σ ε:Type}{step:σ→Option (σ ⊕ ε)}(st:Nat→σ)(P:α→Bool)(ex:Nat→α→ε)(en:ε) :
 ∀(xs ys:List α),(∀(k:Nat) x,(ys++xs)[k]?=some x→step (st k)=some (if P x=true then .inr (ex k x) else .inl (st (k+1))))→step (st (ys++xs).length)=some (.inr en)→run step (st ys.length)=some (fW P ex en ys.length xs)
 | [],ys,_,he=>by rw[List.append_nil] at he;exact lX he
 | x::t,ys,hs,he=>by
  have h1:=hs ys.length x (by simp)
  by_cases hp:P x=true
  ·rw[if_pos hp] at h1
   rw[lX h1,fW,if_pos hp]
  ·rw[if_neg hp] at h1
   rw[vJ h1,fW,if_neg hp]
   have:=qU st P ex en t (ys++[x]) (fun k y hk=>hs k y (by simpa using hk)) (by simpa using he)
   simpa using this
theorem Dn{α σ ε:Type}{step:σ→Option (σ ⊕ ε)}(st:Nat→σ)(P:α→Bool)(ex:Nat→α→ε)(en:ε)(xs:List α)(hs:∀(k:Nat) x,xs[k]?=some x→step (st k)=some (if P x=true then .inr (ex k x) else .inl (st (k+1))))(he:step (st xs.length)=some (.inr en)){s:σ}(h0:s=st 0):run step s=some (fW P ex en 0 xs):=by
 subst h0
 exact qU st P ex en xs [] hs he
def fbit(L s:Nat)(ts:List Nat):Nat:=ts.foldl (fun a t=>(a+s/2^(L-t)%2)%2) 0
def nx(L:Nat)(ts:List Nat)(s:Nat):Nat:=s/2+fbit L s ts*2^(L-1)
structure Reg(L:Nat)(ts:List Nat):Prop where
 two:2≤L
 most:L≤8
 le:∀ t,t∈ts→1≤t∧t≤L
 last:∃ t',ts=t'++[L]∧∀ t,t∈t'→t<L
 len:ts.length≤12
theorem zJ(L s:Nat):∀(ts:List Nat) (a:Nat),a<2→ts.foldl (fun a t=>(a+s/2^(L-t)%2)%2) a<2
 | [],a,h=>h
 | t::ts,a,h=>zJ L s ts _ (Nat.mod_lt _ (by omega))
theorem oC(L s:Nat)(ts:List Nat):fbit L s ts<2:=zJ L s ts 0 (by omega)
theorem vD{L:Nat}(h:1≤L):2^L=2*2^(L-1):=by
 obtain⟨k,rfl⟩:∃ k,L=k+1:=⟨L-1,by omega⟩
 rw[Nat.add_sub_cancel,Nat.pow_succ]
 omega
theorem Uh{L:Nat}{ts:List Nat}{s:Nat}(hL:1≤L)(hs:s<2^L):nx L ts s<2^L:=by
 have h1:=oC L s ts
 have e:=vD hL
 unfold nx
 have h2:s/2<2^(L-1):=by omega
 have h3:fbit L s ts*2^(L-1)≤1*2^(L-1):=Nat.mul_le_mul_right _ (by omega)
 omega
theorem xP(L s s':Nat)(h:s/2=s'/2):∀(ts:List Nat) (a:Nat),(∀ t,t∈ts→t<L)→ts.foldl (fun a t=>(a+s/2^(L-t)%2)%2) a=ts.foldl (fun a t=>(a+s'/2^(L-t)%2)%2) a
 | [],a,_=>rfl
 | t::ts,a,ht=>by
  have h1:=ht t (by simp)
  obtain⟨j,hj⟩:∃ j,L-t=j+1:=⟨L-t-1,by omega⟩
  simp only[List.foldl_cons]
  have e:s/2^(L-t)=s'/2^(L-t):=by
   rw[hj,Nat.pow_succ',← Nat.div_div_eq_div_mul,← Nat.div_div_eq_div_mul,h]
  rw[e]
  exact xP L s s' h ts _ (fun t ht'=>ht t (by simp[ht']))
theorem Du{L s:Nat}{ts t':List Nat}(h:ts=t'++[L]):fbit L s ts=(fbit L s t'+s%2)%2:=by
 subst h
 unfold fbit
 rw[List.foldl_append]
 simp
theorem Qd{L:Nat}{ts:List Nat}(hr:Reg L ts){s s':Nat}(hs:s<2^L)(hs':s'<2^L)(h:nx L ts s=nx L ts s'):s=s':=by
 obtain⟨t',e,hl⟩:=hr.last
 have h2:=hr.two
 have e2:=vD (L:=L) (by omega)
 unfold nx at h
 have b1:=oC L s ts
 have b2:=oC L s' ts
 have hp:=Nat.two_pow_pos (L-1)
 have hc:fbit L s ts=fbit L s' ts:=by
  rcases (show fbit L s ts=0∨fbit L s ts=1 by omega) with q|q<;>rcases (show fbit L s' ts=0∨fbit L s' ts=1 by omega) with q'|q'<;>rw[q,q'] at h ⊢<;>omega
 have hd:s/2=s'/2:=by rw[hc] at h;omega
 rw[Du e,Du e] at hc
 have:fbit L s t'=fbit L s' t':=xP L s s' hd t' 0 hl
 have l1:=oC L s t'
 rw[this] at hc
 have l2:=oC L s' t'
 omega
theorem Sx(L:Nat):∀ ts:List Nat,nx L ts 0=0:=by
 have:∀(ts:List Nat),fbit L 0 ts=0:=by
  intro ts
  unfold fbit
  induction ts with
  | nil=>rfl
  | cons t ts ih=>simpa using ih
 intro ts
 unfold nx
 rw[this ts]
 simp
theorem Xh{L:Nat}{ts:List Nat}(hr:Reg L ts){s:Nat}(h0:0<s)(hs:s<2^L):0<nx L ts s:=by
 rcases Nat.eq_zero_or_pos (nx L ts s) with h|h
 ·have:=Qd hr hs (Nat.two_pow_pos L) (by rw[h,Sx])
  omega
 ·exact h
def stt(L:Nat)(ts:List Nat)(s:Nat):Nat→Nat
 | 0=>s
 | t+1=>nx L ts (stt L ts s t)
theorem stt_succ'(L:Nat)(ts:List Nat)(s:Nat):∀ t,stt L ts s (t+1)=stt L ts (nx L ts s) t
 | 0=>rfl
 | t+1=>by
  show nx L ts (stt L ts s (t+1))=nx L ts (stt L ts (nx L ts s) t)
  rw[stt_succ' L ts s t]
section
variable {L:Nat} {ts:List Nat} {s:Nat}
theorem oK(hr:Reg L ts)(h0:0<s)(hs:s<2^L):∀ t,0<stt L ts s t∧stt L ts s t<2^L
 | 0=>⟨h0,hs⟩
 | t+1=>by
  obtain⟨a,b⟩:=oK hr h0 hs t
  exact⟨Xh hr a b,Uh (by have:=hr.two;omega) b⟩
def bt(L:Nat)(ts:List Nat)(s t:Nat):Nat:=stt L ts s t%2
theorem Qk(hr:Reg L ts){x:Nat}(hx:x<2^L){i:Nat}(hi:i+1<L):nx L ts x/2^i%2=x/2^(i+1)%2:=by
 unfold nx
 obtain⟨j,hj⟩:∃ j,L-1=i+(j+1):=⟨L-1-i-1,by omega⟩
 have e:fbit L x ts*2^(L-1)=2^i*(2*(fbit L x ts*2^j)):=by
  rw[hj,Nat.pow_add,Nat.pow_succ]
  simp only[Nat.mul_comm,Nat.mul_left_comm,Nat.mul_assoc]
 rw[e,Nat.add_mul_div_left _ _ (Nat.two_pow_pos i),Nat.add_mul_mod_self_left,Nat.div_div_eq_div_mul,Nat.pow_succ']
theorem Ut(hr:Reg L ts){x:Nat}(hx:x<2^L):nx L ts x/2^(L-1)%2=fbit L x ts:=by
 have h2:=hr.two
 have e2:=vD (L:=L) (by omega)
 unfold nx
 have h1:x/2<2^(L-1):=by omega
 rw[Nat.add_mul_div_right _ _ (Nat.two_pow_pos _),Nat.div_eq_of_lt h1,Nat.zero_add,Nat.mod_eq_of_lt (oC _ _ _)]
theorem window(hr:Reg L ts)(h0:0<s)(hs:s<2^L):∀(i t:Nat),i<L→stt L ts s t/2^i%2=bt L ts s (t+i)
 | 0,t,_=>by simp[bt]
 | i+1,t,hi=>by
  have h1:=window hr h0 hs i (t+1) (by omega)
  have h2:=Qk hr (oK hr h0 hs t).2 (i:=i) hi
  rw[show t+(i+1)=t+1+i by omega,← h1,← h2]
  rfl
theorem Vo(hr:Reg L ts)(h0:0<s)(hs:s<2^L)(t:Nat):bt L ts s (t+L)=ts.foldl (fun a p=>(a+bt L ts s (t+L-p))%2) 0:=by
 have h2:=hr.two
 have h1:=window hr h0 hs (L-1) (t+1) (by omega)
 rw[show t+1+(L-1)=t+L by omega] at h1
 rw[← h1]
 have h3:=Ut hr (oK hr h0 hs t).2
 have h4:stt L ts s (t+1)=nx L ts (stt L ts s t):=rfl
 rw[h4,h3]
 unfold fbit
 have key:∀(l:List Nat) (a:Nat),(∀ p,p∈l→1≤p∧p≤L)→l.foldl (fun a p=>(a+stt L ts s t/2^(L-p)%2)%2) a=l.foldl (fun a p=>(a+bt L ts s (t+L-p))%2) a:=by
  intro l
  induction l with
  | nil=>intro a _;rfl
  | cons p l ih =>
   intro a hl
   have hp:=hl p (by simp)
   simp only[List.foldl_cons]
   rw[window hr h0 hs (L-p) t (by omega),show t+(L-p)=t+L-p by omega]
   exact ih _ (fun q hq=>hl q (by simp[hq]))
 exact key ts 0 hr.le
theorem returns(hr:Reg L ts)(h0:0<s)(hs:s<2^L):∃ n,1≤n∧n≤2^L-1∧stt L ts s n=s:=by
 have hdup:∃ i j,i<j∧j≤2^L-1∧stt L ts s i=stt L ts s j:=by
  apply Classical.byContradiction
  intro hno
  have hnd:((List.range (2^L)).map (stt L ts s)).Nodup:=by
   rw[List.nodup_iff_pairwise_ne,List.pairwise_map]
   refine List.Pairwise.imp_of_mem ?_ List.pairwise_lt_range
   intro a b ha hb hlt he
   exact hno ⟨a,b,hlt,by have:=List.mem_range.1 hb;omega,he⟩
  have hsub:((List.range (2^L)).map (stt L ts s))⊆(List.range (2^L-1)).map (· + 1):=by
   intro x hx
   obtain⟨t,_,rfl⟩:=List.mem_map.1 hx
   obtain⟨a,b⟩:=oK hr h0 hs t
   exact List.mem_map.2 ⟨stt L ts s t-1,List.mem_range.2 (by omega),by omega⟩
  have:=hnd.length_le_of_subset hsub
  simp at this
  have:=Nat.two_pow_pos L
  omega
 obtain⟨i,j,hij,hj,he⟩:=hdup
 have back:∀(i k:Nat),stt L ts s i=stt L ts s (i+k)→s=stt L ts s k:=by
  intro i
  induction i with
  | zero=>intro k h;simpa [stt] using h
  | succ i ih =>
   intro k h
   rw[show i+1+k=(i+k)+1 by omega] at h
   exact ih k (Qd hr (oK hr h0 hs i).2 (oK hr h0 hs (i+k)).2 h)
 refine⟨j-i,by omega,by omega,?_⟩
 exact (back i (j-i) (by rw[he];congr 1;omega)).symm
theorem least{P:Nat→Prop}(h:∃ n,P n):∃ n,P n∧∀ m,m<n→¬ P m:=by
 obtain⟨n,hn⟩:=h
 induction n using Nat.strongRecOn with
 | _ n ih =>
  by_cases hx:∃ m,m<n∧P m
  ·obtain⟨m,hm,hp⟩:=hx
   exact ih m hm hp
  ·exact⟨n,hn,fun m hm hp=>hx ⟨m,hm,hp⟩⟩
def Cz(L:Nat)(ts:List Nat)(s n:Nat):Prop:=(1≤n∧stt L ts s n=s)∧∀ m,m<n→¬(1≤m∧stt L ts s m=s)
theorem Jk(hr:Reg L ts)(h0:0<s)(hs:s<2^L):∃ n,Cz L ts s n∧n≤2^L-1:=by
 obtain⟨n,h1,h2,h3⟩:=returns hr h0 hs
 obtain⟨m,hm,hl⟩:=least (P:=fun n=>1≤n∧stt L ts s n=s) ⟨n,h1,h3⟩
 refine⟨m,⟨hm,hl⟩,?_⟩
 rcases Nat.lt_or_ge n m with h|h
 ·exact absurd ⟨h1,h3⟩ (hl n h)
 ·omega
end
theorem w64n{x:Nat}(h:x<9223372036854775808):IntKind.i64.wrap (x:Int)=x:=w64 (by omega)
theorem Gt{v:Nat}(h:v<2^62):tH .and .i64 (v:Int) 1=((v%2:Nat):Int):=by
 show IntKind.i64.wrap (((BitVec.ofInt 64 (v:Int) &&& BitVec.ofInt 64 1).toNat:Nat):Int)=_
 have:(BitVec.ofInt 64 (v:Int) &&& BitVec.ofInt 64 1).toNat=v%2:=by
  rw[BitVec.ofInt_natCast,BitVec.toNat_and,BitVec.toNat_ofNat,Nat.mod_eq_of_lt (by omega)]
  show v &&& 1=_
  exact Nat.and_one_is_mod v
 rw[this,w64n (by omega)]
theorem Mr{a b:Nat}(ha:a<2)(hb:b<2):tH .xor .i64 (a:Int) (b:Int)=(((a+b)%2:Nat):Int):=by
 rcases (show a=0∨a=1 by omega) with rfl|rfl<;>rcases (show b=0∨b=1 by omega) with rfl|rfl<;>decide
theorem Nv{a i c:Nat}(ha:a<2^i)(hc:c<2)(hi:i≤60):tH .or .i64 (a:Int) ((c*2^i:Nat):Int)=((a+c*2^i:Nat):Int):=by
 have hp:2^i≤2^60:=Nat.pow_le_pow_right (by omega) hi
 have hcm:c*2^i≤1*2^i:=Nat.mul_le_mul_right _ (by omega)
 show IntKind.i64.wrap (((BitVec.ofInt 64 (a:Int) ||| BitVec.ofInt 64 ((c*2^i:Nat):Int)).toNat:Nat):Int)=_
 have:(BitVec.ofInt 64 (a:Int) ||| BitVec.ofInt 64 ((c*2^i:Nat):Int)).toNat=a+c*2^i:=by
  rw[BitVec.ofInt_natCast,BitVec.ofInt_natCast,BitVec.toNat_or,BitVec.toNat_ofNat,BitVec.toNat_ofNat,Nat.mod_eq_of_lt (by omega),Nat.mod_eq_of_lt (by omega),Nat.or_comm,Nat.mul_comm c,← Nat.two_pow_add_eq_or_of_lt ha c,Nat.add_comm]
 rw[this,w64n (by omega)]
theorem Pk{v k:Nat}{n:Int}(hk:k≤60)(hn:n=(k:Int)):shI .shr .i64 (v:Int) n=some ((v/2^k:Nat):Int):=by
 subst hn
 unfold shI
 rw[if_neg (by omega)]
 simp only
 have:min (k:Int).toNat IntKind.i64.bits=k:=by
  have:IntKind.i64.bits=64:=rfl
  omega
 rw[this,Int.fdiv_eq_ediv_of_nonneg _ (Int.pow_nonneg (by omega))]
 congr 1
theorem Qc{v k:Nat}{n:Int}(hk:k≤60)(hv:v<2)(hn:n=(k:Int)):shI .shl .i64 (v:Int) n=some ((v*2^k:Nat):Int):=by
 subst hn
 unfold shI
 rw[if_neg (by omega)]
 simp only
 have:min (k:Int).toNat IntKind.i64.bits=k:=by
  have:IntKind.i64.bits=64:=rfl
  omega
 have hp:2^k≤2^60:=Nat.pow_le_pow_right (by omega) hk
 have hcm:v*2^k≤1*2^k:=Nat.mul_le_mul_right _ (by omega)
 have e:(v:Int)*2^k=((v*2^k:Nat):Int):=by simp
 rw[this,e,w64n (by omega)]
end Go.Rex
namespace Go.Rex
abbrev ints(l:List Nat):List Int:=l.map (fun (t:Nat)=>(t:Int))
section
variable {L:Nat} {ts:List Nat} {s:Nat}
theorem wX{α:Type}{l:List α}{k:Nat}{x:α}(h:l[k]?=some x):l.take (k+1)=l.take k++[x]:=by
 rw[List.take_add_one,h];rfl
theorem Mb(hr:Reg L ts)(hs:s<2^L):cX L (ints ts) s=some ((nx L ts s:Nat):Int):=by
 have h2:=hr.two
 have h8:=hr.most
 have hb:s<2^62:=Nat.lt_of_lt_of_le hs (Nat.pow_le_pow_right (by omega) (by omega))
 unfold cX
 have hrun:=iE (step:=bT L (ints ts) s) (e:=((fbit L s ts:Nat):Int)) (fun k=>((((ts.take k).foldl (fun a t=>(a+s/2^(L-t)%2)%2) 0:Nat):Int),(k:Int))) (n:=ts.length) (fun k hk=>?_) ?_
 ·rw[show ((0:Int),(0:Int))=((((ts.take 0).foldl (fun a t=>(a+s/2^(L-t)%2)%2) 0:Nat):Int),((0:Nat):Int)) from rfl,hrun,Option.bind_some,Pk (k:=1) (n:=1) (by omega) rfl,Option.bind_some]
  have hw:IntKind.i64.wrap ((L:Int)-1)=((L-1:Nat):Int):=by rw[w64 (by omega)];omega
  rw[Qc (k:=L-1) (by omega) (oC L s ts) hw,Option.bind_some]
  have hp:=vD (L:=L) (by omega)
  have:=Nv (a:=s/2^1) (i:=L-1) (c:=fbit L s ts) (by omega) (oC L s ts) (by omega)
  rw[this]
  rfl
 ·obtain⟨t,ht⟩:∃ t,ts[k]?=some t:=⟨_,List.getElem?_eq_getElem hk⟩
  have htm:=hr.le t (List.mem_of_getElem? ht)
  dsimp only[bT]
  rw[if_pos (by simpa using hk),aS,List.getElem?_map,ht,Option.map_some,Option.bind_some]
  have hw:IntKind.i64.wrap ((L:Int)-(t:Int))=((L-t:Nat):Int):=by rw[w64 (by omega)];omega
  rw[Pk (k:=L-t) (by omega) hw,Option.bind_some,wX ht,List.foldl_append]
  rw[Gt (Nat.lt_of_le_of_lt (Nat.div_le_self _ _) hb),Mr (zJ L s (ts.take k) 0 (by omega)) (Nat.mod_lt _ (by omega))]
  rw[w64 (x:=(k:Int)+1) (by have:=hr.len;omega)]
  rfl
 ·dsimp only[bT]
  rw[if_neg (by simp),List.take_length]
  rfl
theorem Cu(hr:Reg L ts)(h0:0<s)(hs:s<2^L){σ ε:Type}{step:Int→σ→Option (σ ⊕ ε)}(y:Nat→σ){n:Nat}{z:ε}(h:∀ k, k<n→step ((stt L ts s k:Nat):Int) (y k)=some (.inl (y (k+1))))(hn:step ((stt L ts s n:Nat):Int) (y n)=some (.inr z)) :
 aG s L (ints ts) (hand step) (.inl (y 0))=some (.inr z):=by
 unfold aG
 have hrun:=iE (step:=aM (hand step) L (ints ts)) (e:=.inr z) (fun k=>((((stt L ts s k:Nat):Int)),(Sum.inl (y k):σ ⊕ ε))) (n:=n) (fun k hk=>?_) ?_
 ·rw[show (((s:Nat):Int),(Sum.inl (y 0):σ ⊕ ε))=((((stt L ts s 0:Nat):Int)),(Sum.inl (y 0):σ ⊕ ε)) from rfl,hrun]
  rfl
 ·dsimp only[aM]
  simp only[hand,h k hk,Option.map_some,Option.bind_some,if_true]
  rw[Mb hr (oK hr h0 hs k).2]
  rfl
 ·dsimp only[aM]
  simp only[hand,hn,Option.map_some,Option.bind_some,Bool.false_eq_true,if_false]
def btl(L:Nat)(ts:List Nat)(s n:Nat):List Int:=(List.range n).map fun t=>((bt L ts s t:Nat):Int)
theorem Ag(L:Nat)(ts:List Nat)(s n:Nat):btl L ts s (n+1)=btl L ts s n++[((bt L ts s n:Nat):Int)]:=by
 unfold btl
 rw[List.range_succ,List.map_append]
 rfl
theorem nA(L:Nat)(ts:List Nat)(s n:Nat):(btl L ts s n).length=n:=by simp[btl]
theorem Dv(a:Int)(b:List Int)(c:Int):dP a b c=some (c,a,b):=rfl
theorem No(hr:Reg L ts)(h0:0<s)(hs:s<2^L){n:Nat}(hp:Cz L ts s n)(hn:n≤2^L-1):dK L (ints ts) s=some (n:Int):=by
 obtain⟨⟨h1,h2⟩,h3⟩:=hp
 have h8:=hr.most
 have hL:2^L≤2^8:=Nat.pow_le_pow_right (by omega) h8
 unfold dK
 rw[Mb hr hs,Option.bind_some,Dv,Option.bind_some]
 dsimp only
 have hx:=oK hr h0 hs 1
 obtain⟨m,rfl⟩:∃ m,n=m+1:=⟨n-1,by omega⟩
 have:=Cu hr (s:=nx L ts s) hx.1 hx.2 (step:=cG s) (fun k=>((k+1:Nat):Int)) (n:=m) (z:=((m+1:Nat):Int)) (fun k hk=>?_) ?_
 ·rw[show (1:Int)=(((0+1:Nat):Nat):Int) from rfl]
  rw[this]
  rfl
 ·dsimp only[cG]
  rw[← stt_succ']
  have:=h3 (k+1) (by omega)
  rw[if_neg (by simp only[decide_eq_true_eq];intro e;exact this ⟨by omega,by omega⟩),w64 (by omega)]
  congr 2
 ·dsimp only[cG]
  rw[← stt_succ',h2,if_pos (by simp)]
end
end Go.Rex
namespace Go.Rex
theorem xA(x a b:Int):eF x a b=some (decide (a≤x∧x≤b)):=by
 unfold eF
 by_cases h:a≤x<;>simp[h]
theorem tR(x a b:Int):fU x a b=some (!decide (a≤x∧x≤b),2):=by
 unfold fU aC
 by_cases h:x<a
 ·rw[if_pos (by simpa using h)]
  have:¬(a≤x∧x≤b):=by omega
  simp[this]
 ·rw[if_neg (by simpa using h)]
  by_cases h2:x≤b
  ·have h3:a≤x∧x≤b:=by omega
   have h4:¬ x>b:=by omega
   simp[h3,h4]
  ·have h3:¬(a≤x∧x≤b):=by omega
   have h4:x>b:=by omega
   simp only[h3,h4,decide_true,decide_false,Bool.not_false,Option.bind_some]
theorem oU(b:Bool)(e:Int):aC b e=some (b,e):=rfl
theorem iL(b:Bool)(e:Int):aB b e=some (if b=true then e else 0):=by
 unfold aB;cases b<;>rfl
theorem Sp(l:List Int)(h:l.length≤2000):jE l=some l:=by
 unfold jE mW
 rw[if_pos ⟨by simp;omega,by simp;omega⟩]
 rfl
theorem Rd(a:Int)(l:List Int)(h:l.length≤2000):jZ a l=some (a,l):=by
 unfold jZ
 rw[Sp l h]
 rfl
def gk(L:Int)(l:List Int)(k:Nat):Int :=
 if 1≤l.getD k 0∧l.getD k 0≤L then (if 0<k∧l.getD k 0≤l.getD (k-1) 0 then 9 else 0) else 2
def wW(L:Int)(l:List Int):Int:=fW (fun k=>decide (gk L l k≠0)) (fun _ k=>gk L l k) 0 0 (List.range l.length)
def chk(L:Int)(l:List Int):Int :=
 if ¬(2≤L∧L≤8) then 2 else if l.length=0 then 10 else if wW L l≠0 then wW L l else if l.getD (l.length-1) 0≠L then 6 else 0
theorem oA{l:List Int}{k:Nat}(h:k<l.length):l[k]?=some (l.getD k 0):=by
 rw[List.getD_eq_getElem?_getD,List.getElem?_eq_getElem h];rfl
theorem zN{L:Int}{l:List Int}(h:wW L l=0):∀ k,k<l.length→gk L l k=0:=by
 have key:∀(xs:List Nat) (j:Nat),fW (fun k=>decide (gk L l k≠0)) (fun _ k=>gk L l k) 0 j xs=0→∀ k,k∈xs→gk L l k=0:=by
  intro xs
  induction xs with
  | nil=>intro j _ k hk;cases hk
  | cons x t ih =>
   intro j hj k hk
   unfold fW at hj
   by_cases hx:gk L l x=0
   ·rw[if_neg (by simpa using hx)] at hj
    rcases List.mem_cons.1 hk with rfl|hk
    ·exact hx
    ·exact ih _ hj k hk
   ·rw[if_pos (by simpa using hx)] at hj
    exact absurd hj hx
 intro k hk
 exact key _ 0 h k (List.mem_range.2 hk)
theorem Eo{L:Int}{l:List Int}{k:Nat}(h:gk L l k=0):1≤l.getD k 0∧l.getD k 0≤L∧(0<k→l.getD (k-1) 0<l.getD k 0):=by
 unfold gk at h
 split at h
 ·rename_i h1
  split at h
  ·cases h
  ·rename_i h2
   exact⟨h1.1,h1.2,fun hk=>by omega⟩
 ·cases h
theorem Lk{ε:Type}{step:Int→Option (Int ⊕ ε)}{L:Int}{l:List Int}(inj:Int→ε)(en:ε)(hl:l.length≤2000)(hs:∀ k:Nat, k<l.length→step (k:Int)=some (if gk L l k≠0 then .inr (inj (gk L l k)) else .inl ((k+1:Nat):Int)))(he:step (l.length:Int)=some (.inr en)) :
 ∃ z,run step 0=some z∧((wW L l=0∧z=en)∨(wW L l≠0∧z=inj (wW L l))):=by
 have hrun:=Dn (step:=step) (fun k:Nat=>(k:Int)) (fun k=>decide (gk L l k≠0)) (fun _ k=>inj (gk L l k)) en (List.range l.length) (fun k x hx=>by
  obtain⟨h1,h2⟩:=List.getElem?_eq_some_iff.1 hx
  rw[List.getElem_range] at h2
  subst h2
  rw[hs k (by simpa using h1)]
  by_cases q:gk L l k=0<;>simp[q]) (by simpa using he) (s:=0) rfl
 refine⟨_,hrun,?_⟩
 have key : ∀ (xs : List Nat) (j : Nat), (fW (fun k => decide (gk L l k ≠ 0)) (fun _ k => gk L l k) 0 j xs = 0 ∧ fW (fun k => decide (gk L l k ≠ 0)) (fun _ k => inj (gk L l k)) en j xs = en) ∨
     (fW (fun k=>decide (gk L l k≠0)) (fun _ k=>gk L l k) 0 j xs≠0∧fW (fun k=>decide (gk L l k≠0)) (fun _ k=>inj (gk L l k)) en j xs=inj (fW (fun k=>decide (gk L l k≠0)) (fun _ k=>gk L l k) 0 j xs)):=by
  intro xs
  induction xs with
  | nil=>intro j;exact .inl ⟨rfl,rfl⟩
  | cons x t ih =>
   intro j
   unfold fW
   by_cases hx:gk L l x=0
   ·rw[if_neg (by simpa using hx),if_neg (by simpa using hx)]
    exact ih (j+1)
   ·rw[if_pos (by simpa using hx),if_pos (by simpa using hx)]
    exact .inr ⟨hx,rfl⟩
 exact key _ 0
theorem Ye{L:Int}{l:List Int}{k:Nat}(q:¬(1≤l.getD k 0∧l.getD k 0≤L)):gk L l k=2:=by unfold gk;rw[if_neg q]
theorem Xv{L:Int}{l:List Int}{k:Nat}(q:1≤l.getD k 0∧l.getD k 0≤L)(q2:0<k)(q3:l.getD k 0≤l.getD (k-1) 0):gk L l k=9:=by unfold gk;rw[if_pos q,if_pos ⟨q2,q3⟩]
theorem Th{L:Int}{l:List Int}{k:Nat}(q:1≤l.getD k 0∧l.getD k 0≤L)(q3:0<k→¬ l.getD k 0≤l.getD (k-1) 0):gk L l k=0:=by unfold gk;rw[if_pos q,if_neg (fun h=>q3 h.1 h.2)]
theorem Lo(L:Int)(l:List Int)(hl:l.length≤12):eU L l=some (chk L l):=by
 unfold eU chk
 rw[xA,Option.bind_some]
 by_cases h1:2≤L∧L≤8
 ·rw[if_pos (c:=decide (2≤L∧L≤8)=true) (by simpa using h1),if_neg (c:=¬(2≤L∧L≤8)) (fun h=>h h1)]
  by_cases h2:l.length=0
  ·rw[if_pos (c:=decide ((l.length:Int)=0)=true) (by simpa using h2),if_pos (c:=l.length=0) h2]
  ·rw[if_neg (c:=decide ((l.length:Int)=0)=true) (by simpa using h2),if_neg (c:=l.length=0) h2]
   obtain⟨z,hz,hc⟩:=Lk (step:=cA L l) (L:=L) (l:=l) .inl (.inr ()) (by omega) (fun k hk=>by
    dsimp only[cA]
    rw[if_pos (c:=decide ((k:Int)<(l.length:Int))=true) (by simpa using hk),aS,oA hk,Option.bind_some,xA,Option.bind_some]
    by_cases q:1≤l.getD k 0∧l.getD k 0≤L
    ·rw[if_pos (c:=decide (1≤l.getD k 0∧l.getD k 0≤L)=true) (by simpa using q)]
     by_cases q2:0<k
     ·rw[if_pos (c:=decide ((k:Int)>0)=true) (by simpa using q2),vS (k:=k-1) (by rw[w64 (by omega)];omega),oA (by omega),Option.bind_some]
      by_cases q3:l.getD k 0≤l.getD (k-1) 0
      ·rw[if_pos (c:=decide (l.getD k 0≤l.getD (k-1) 0)=true) (by simpa using q3),Xv q q2 q3];rfl
      ·rw[if_neg (c:=decide (l.getD k 0≤l.getD (k-1) 0)=true) (by simpa using q3),Th q (fun _=>q3),w64 (by omega)];rfl
     ·rw[if_neg (c:=decide ((k:Int)>0)=true) (by simpa using q2),Th q (fun h=>absurd h q2),w64 (by omega)];rfl
    ·rw[if_neg (c:=decide (1≤l.getD k 0∧l.getD k 0≤L)=true) (by simpa using q),Ye q];rfl) (by
    dsimp only[cA]
    rw[if_neg (by simp)])
   rw[hz,Option.bind_some]
   rcases hc with⟨h3,rfl⟩|⟨h3,rfl⟩
   ·rw[if_neg (c:=wW L l≠0) (fun h=>h h3)]
    dsimp only
    rw[vS (k:=l.length-1) (by rw[w64 (by omega)];omega),oA (by omega),Option.bind_some]
    by_cases q:l.getD (l.length-1) 0=L<;>simp only[q,ne_eq,not_true_eq_false,not_false_eq_true,decide_true,decide_false,if_true,if_false,Bool.false_eq_true]
   ·rw[if_pos (c:=wW L l≠0) h3]
 ·rw[if_neg (c:=decide (2≤L∧L≤8)=true) (by simpa using h1),if_pos (c:=¬(2≤L∧L≤8)) h1]
theorem Gs(l:List Int)(x:Int)(hl:l.length≤2000):cW l x=some (l.any fun y=>decide (x=y)):=by
 unfold cW fT
 have hrun:=Dn (step:=bU l x) (fun k:Nat=>(k:Int)) (fun y=>decide (x=y)) (fun k _=>.inl (k:Int)) (.inr ()) l (fun k y hy=>by
  have h1:=(List.getElem?_eq_some_iff.1 hy).1
  dsimp only[bU]
  rw[if_pos (by simpa using h1),aS,hy,Option.bind_some]
  by_cases q:x=y
  ·rw[if_pos (by simpa using q),if_pos (by simpa using q)]
  ·rw[if_neg (by simpa using q),if_neg (by simpa using q),w64 (by omega)];rfl) (by
  dsimp only[bU]
  rw[if_neg (by simp)]) (s:=0) rfl
 rw[hrun,Option.bind_some]
 have key:∀(xs:List Int) (j:Nat),∃ v:Int,(match (fW (fun y=>decide (x=y)) (fun k _=>(.inl (k:Int):Int ⊕ Unit)) (.inr ()) j xs) with|.inl v11=>some v11|.inr _=>some (-1))=some v∧decide (v≥0)=xs.any fun y=>decide (x=y):=by
  intro xs
  induction xs with
  | nil=>intro j;exact⟨-1,rfl,rfl⟩
  | cons y t ih =>
   intro j
   unfold fW
   by_cases q:x=y
   ·rw[if_pos (by simpa using q)];exact⟨j,rfl,by simp[q]⟩
   ·rw[if_neg (by simpa using q)]
    obtain⟨v,h1,h2⟩:=ih (j+1)
    exact⟨v,h1,by rw[h2];simp[q]⟩
 obtain⟨v,h1,h2⟩:=key l 0
 rw[← h2]
 generalize fW (fun y=>decide (x=y)) (fun k _=>(Sum.inl (k:Int):Int ⊕ Unit)) (Sum.inr ()) 0 l=z at *
 rcases z with z|z
 ·obtain rfl:=Option.some.inj h1;rfl
 ·obtain rfl:=Option.some.inj h1;rfl
theorem Gv{L:Int}{l:List Int}(h:wW L l=0){j:Nat}(hj:j<l.length):∀ i,i<j→l.getD i 0<l.getD j 0:=by
 induction j with
 | zero=>intro i hi;omega
 | succ j ih =>
  intro i hi
  have h1:=(Eo (zN h (j+1) hj)).2.2 (by omega)
  rw[Nat.add_sub_cancel] at h1
  rcases Nat.lt_or_ge i j with q|q
  ·have:=ih (by omega) i q;omega
  ·obtain rfl:i=j:=by omega
   exact h1
theorem Qu{L:Int}{l:List Int}(h:wW L l=0)(hn:l.length≠0):(l.any fun y=>decide (L=y))=decide (l.getD (l.length-1) 0=L):=by
 rw[Bool.eq_iff_iff,List.any_eq_true,decide_eq_true_eq]
 constructor
 ·rintro⟨y,hy,he⟩
  have he':L=y:=by simpa using he
  obtain⟨j,hj⟩:=List.mem_iff_getElem?.1 hy
  have hjl:=(List.getElem?_eq_some_iff.1 hj).1
  have hd:l.getD j 0=L:=by rw[List.getD_eq_getElem?_getD,hj];exact he'.symm
  rcases Nat.lt_or_ge j (l.length-1) with q|q
  ·have h1:=Gv h (j:=l.length-1) (by omega) j q
   have h2:=(Eo (zN h (l.length-1) (by omega))).2.1
   omega
  ·have:l.length-1=j:=by omega
   rw[this];exact hd
 ·intro he
  exact⟨l.getD (l.length-1) 0,List.mem_of_getElem? (oA (by omega)),by simpa using he.symm⟩
theorem Td(L:Int)(l:List Int)(hl:l.length≤12):eS L l=some (chk L l):=by
 unfold eS jS jN
 simp only[tR,oU,Option.bind_some,Gs l L (show l.length≤2000 by omega)]
 unfold fJ chk
 rw[iL,Option.bind_some]
 by_cases h1:2≤L∧L≤8
 ·rw[if_neg (c:=¬(2≤L∧L≤8)) (by simpa using h1)]
  rw[show decide (2≤L∧L≤8)=true by simpa using h1]
  simp only[Bool.not_true,Bool.false_eq_true,if_false,ne_eq,not_true_eq_false,decide_false,iL,Option.bind_some]
  by_cases h2:l.length=0
  ·rw[if_pos h2]
   have:(l.length:Int)=0:=by omega
   simp[this]
  ·have h2':¬(l.length:Int)=0:=by omega
   rw[if_neg h2]
   simp only[h2',decide_false,Bool.false_eq_true,if_false,not_true_eq_false]
   unfold gS
   obtain⟨z,hz,hc⟩:=Lk (step:=cM l.length l 1 L) (L:=L) (l:=l) .inl (.inr ()) (by omega) (fun k hk=>by
    dsimp only[cM]
    rw[if_pos (by simpa using hk)]
    have hasc:dA k l 1 L=some (gk L l k):=by
     unfold dA aL
     rw[aS,oA hk,Option.bind_some,tR,Option.bind_some]
     dsimp only
     by_cases q:1≤l.getD k 0∧l.getD k 0≤L
     ·rw[show decide (1≤l.getD k 0∧l.getD k 0≤L)=true by simpa using q]
      by_cases q2:0<k
      ·rw[if_pos (by simpa using q2),vS (k:=k-1) (by rw[w64 (by omega)];omega),oA (by omega),Option.bind_some,oU,Option.bind_some]
       dsimp only
       simp only[iL,Option.bind_some,Bool.not_true,Bool.false_eq_true,if_false,ne_eq,not_true_eq_false,decide_false]
       by_cases q3:l.getD k 0≤l.getD (k-1) 0
       ·rw[Xv q q2 q3];simp only[q3,decide_true,if_true];rfl
       ·rw[Th q (fun _=>q3)];simp only[q3,decide_false,Bool.false_eq_true,if_false];rfl
      ·rw[if_neg (by simpa using q2),Th q (fun h=>absurd h q2),oU,Option.bind_some]
       dsimp only
       simp only[iL,Option.bind_some,Bool.not_true,Bool.false_eq_true,if_false,ne_eq,not_true_eq_false,decide_false]
     ·rw[Ye q,show decide (1≤l.getD k 0∧l.getD k 0≤L)=false by simpa using q]
      by_cases q2:0<k
      ·rw[if_pos (by simpa using q2),vS (k:=k-1) (by rw[w64 (by omega)];omega),oA (by omega),Option.bind_some,oU,Option.bind_some]
       dsimp only
       simp only[iL,Option.bind_some,Bool.not_false,if_true];rfl
      ·rw[if_neg (by simpa using q2),oU,Option.bind_some]
       dsimp only
       simp only[iL,Option.bind_some,Bool.not_false,if_true];rfl
    rw[hasc,Option.bind_some]
    by_cases q:gk L l k=0
    ·rw[if_neg (by simpa using q),if_neg (by simpa using q),w64 (by omega)];rfl
    ·rw[if_pos (by simpa using q),if_pos q]) (by
    dsimp only[cM]
    rw[if_neg (by simp)])
   rw[hz,Option.bind_some]
   rcases hc with⟨h3,rfl⟩|⟨h3,rfl⟩
   ·rw[Qu h3 h2,if_neg (c:=¬ wW L l=0) (fun h=>h h3)]
    dsimp only[Option.bind_some]
    by_cases q:l.getD (l.length-1) 0=L<;>simp only[q,decide_true,decide_false,Bool.not_true,Bool.not_false,if_true,if_false,Bool.false_eq_true,ne_eq,not_true_eq_false,not_false_eq_true,Option.bind_some,iL]<;>rfl
   ·rw[if_pos (c:=¬ wW L l=0) h3]
    dsimp only[Option.bind_some]
    simp only[h3,not_false_eq_true,decide_true,if_true,Option.bind_some]
 ·rw[if_pos (c:=¬(2≤L∧L≤8)) h1,show decide (2≤L∧L≤8)=false by simpa using h1]
  simp
theorem Xg{L:Int}{l:List Int}(hl:l.length≤12)(h:chk L l=0):∃(n:Nat) (ts:List Nat),L=n∧l=ints ts∧Reg n ts:=by
 unfold chk at h
 split at h
 ·cases h
 rename_i h1
 split at h
 ·cases h
 rename_i h2
 split at h
 ·rename_i h3;exact absurd h h3
 rename_i h3
 split at h
 ·cases h
 rename_i h4
 have h1':2≤L∧L≤8:=Classical.not_not.1 h1
 have h3':wW L l=0:=Classical.not_not.1 h3
 have h4':l.getD (l.length-1) 0=L:=Classical.not_not.1 h4
 have hpos:∀ x,x∈l→1≤x∧x≤L:=fun x hx=>by
  obtain⟨j,hj⟩:=List.mem_iff_getElem?.1 hx
  have hjl:=(List.getElem?_eq_some_iff.1 hj).1
  have:=Eo (zN h3' j hjl)
  have hd:l.getD j 0=x:=by rw[List.getD_eq_getElem?_getD,hj];rfl
  rw[hd] at this
  exact⟨this.1,this.2.1⟩
 have he:l=ints (l.map Int.toNat):=by
  unfold ints
  rw[List.map_map]
  conv=>lhs;rw[← List.map_id l]
  apply List.map_congr_left
  intro x hx
  have:=hpos x hx
  simp;omega
 refine⟨L.toNat,l.map Int.toNat,by omega,he,⟨by omega,by omega,fun t ht=>?_,?_,by simpa using hl⟩⟩
 ·obtain⟨x,hx,rfl⟩:=List.mem_map.1 ht
  have:=hpos x hx
  omega
 ·refine⟨(l.take (l.length-1)).map Int.toNat,?_,fun t ht=>?_⟩
  ·have : l = l.take (l.length - 1) ++ [L] := by
     conv=>lhs;rw[← List.take_append_drop (l.length-1) l]
     congr 1
     have hx:l[l.length-1]?=some L:=by rw[oA (by omega),h4']
     obtain⟨k,hk⟩:∃ k,l.length=k+1:=⟨l.length-1,by omega⟩
     rw[List.drop_eq_getElem_cons (by omega)]
     rw[show l.length-1+1=l.length by omega,List.drop_length]
     congr 1
     have:=(List.getElem?_eq_some_iff.1 hx).2
     exact this
   conv=>lhs;rw[this]
   simp
  ·obtain⟨x,hx,rfl⟩:=List.mem_map.1 ht
   obtain⟨i,hi⟩:=List.mem_iff_getElem?.1 hx
   rw[List.getElem?_take] at hi
   split at hi
   ·rename_i hlt
    have hd:l.getD i 0=x:=by rw[List.getD_eq_getElem?_getD,hi];rfl
    have:=Gv h3' (j:=l.length-1) (by omega) i (by omega)
    have:=hpos x (List.mem_of_getElem? hi)
    omega
   ·cases hi
theorem wZ(L:Int)(l:List Int)(hl:l.length≤12):cL L l=some (chk L l):=by
 unfold cL
 rw[Td L l hl];rfl
theorem yZ{L:Nat}(hL:L≤8)(l:List Int):gT L l=some ((2^L-1:Nat):Int):=by
 have hp:2^L≤2^8:=Nat.pow_le_pow_right (by omega) hL
 have hp0:=Nat.two_pow_pos L
 unfold gT
 have hrun:=iE (step:=iD L) (e:=((2^L:Nat):Int)) (fun k=>(((2^k:Nat):Int),(k:Int))) (n:=L) (fun k hk=>?_) ?_
 ·rw[show ((1:Int),(0:Int))=(((2^0:Nat):Int),((0:Nat):Int)) from rfl,hrun,Option.bind_some,w64 (by omega)]
  congr 1;omega
 ·dsimp only[iD]
  have hk2:2^k≤2^8:=Nat.pow_le_pow_right (by omega) (by omega)
  have hk3:=Nat.two_pow_pos k
  rw[if_pos (by simpa using hk),w64 (x:=2*((2^k:Nat):Int)) (by omega),w64 (x:=(k:Int)+1) (by omega),Nat.pow_succ]
  congr 3;omega
 ·dsimp only[iD]
  rw[if_neg (by simp)]
theorem vG{L:Nat}(hL:L≤8)(l:List Int):aE L l=some ((2^L-1:Nat):Int):=by
 have hp:2^L≤2^8:=Nat.pow_le_pow_right (by omega) hL
 have hp0:=Nat.two_pow_pos L
 unfold aE
 rw[show (1:Int)=((1:Nat):Int) from rfl,Qc (k:=L) (by omega) (by omega) rfl,Option.bind_some]
 rw[w64 (by omega)]
 congr 1;omega
section
variable {L:Nat} {ts:List Nat} {s:Nat}
theorem Sq(hr:Reg L ts)(h0:0<s)(hs:s<2^L){n:Nat}(hn:n≤2000):eH L (ints ts) s n=some (btl L ts s n):=by
 unfold eH
 rw[Dv,Option.bind_some]
 dsimp only
 rw[show ([]:List Int)=btl L ts s 0 from rfl]
 have hit:=Cu hr h0 hs (step:=cY n) (fun k=>btl L ts s k) (n:=n) (z:=btl L ts s n) (fun k hk=>?_) ?_
 ·rw[hit];rfl
 ·dsimp only[cY]
  rw[nA,if_neg (by simp only[decide_eq_true_eq];omega)]
  have h8:=hr.most
  have hb:stt L ts s k<2^62:=Nat.lt_of_lt_of_le (oK hr h0 hs k).2 (Nat.pow_le_pow_right (by omega) (by omega))
  rw[Gt hb,Bc (by rw[nA];omega) (by omega),Ag]
  rfl
 ·dsimp only[cY]
  rw[nA,if_pos (by simp)]
end
end Go.Rex
namespace Go.Rex
theorem pow8{L:Nat}(h:L≤8):2^L≤256:=Nat.pow_le_pow_right (n:=2) (by omega) h
def sgl(L:Nat)(ts:List Nat)(s n:Nat):List Int:=(List.range n).map fun t=>1-2*((bt L ts s t:Nat):Int)
theorem zG(L:Nat)(ts:List Nat)(s n:Nat):(sgl L ts s n).length=n:=by simp[sgl]
theorem Lt{step:List Int×Int→Option ((List Int×Int) ⊕ List Int)}{l:List Int}{g:Int→Int}(hs:∀(k:Nat) (a:List Int) x,k<l.length→a.length=l.length→a[k]?=some x→l[k]?=some x→step (a,(k:Int))=some (.inl (a.set k (g x),((k+1:Nat):Int))))(he:∀ a:List Int,a.length=l.length→step (a,(l.length:Int))=some (.inr a)):run step (l,0)=some (l.map g):=by
 have hrun:=iE (step:=step) (e:=l.map g) (fun k=>((l.take k).map g++l.drop k,(k:Int))) (n:=l.length) (fun k hk=>?_) ?_
 ·simpa using hrun
 ·obtain⟨x,hx⟩:∃ x,l[k]?=some x:=⟨_,List.getElem?_eq_getElem hk⟩
  have hd:l.drop k=x::l.drop (k+1):=by
   rw[List.drop_eq_getElem_cons hk]
   rw[List.getElem?_eq_getElem hk] at hx
   rw[Option.some.inj hx]
  have hl:((l.take k).map g).length=k:=by simp;omega
  have hg:((l.take k).map g++l.drop k)[k]?=some x:=by
   rw[List.getElem?_append_right (by omega),hl,Nat.sub_self,hd];rfl
  rw[hs k _ x hk (by simp;omega) hg hx]
  congr 3
  rw[hd,wX hx,List.map_append,List.append_assoc]
  rw[List.set_append_right _ _ (by omega),hl,Nat.sub_self]
  rfl
 ·rw[List.take_length,List.drop_length,List.append_nil]
  have:=he (l.map g) (by simp)
  exact this
section
variable {L:Nat} {ts:List Nat} {s:Nat}
theorem Se(L:Nat)(ts:List Nat)(s n:Nat):(btl L ts s n).map (fun b=>1-2*b)=sgl L ts s n:=by
 unfold btl sgl
 rw[List.map_map]
 rfl
theorem Uj(L:Nat)(ts:List Nat)(s t:Nat):bt L ts s t≤1:=by unfold bt;omega
theorem Mc{x:Int}{n:Nat}{k:Nat}(h:(btl L ts s n)[k]?=some x):0≤x∧x≤1:=by
 obtain⟨t,_,rfl⟩:=List.mem_map.1 (List.mem_of_getElem? h)
 have:=Uj L ts s t
 omega
theorem Nl(hr:Reg L ts)(h0:0<s)(hs:s<2^L):dX L (ints ts) s=some (sgl L ts s (2^L-1)):=by
 have hp:=pow8 hr.most
 unfold dX
 rw[vG hr.most,Option.bind_some,Sq hr h0 hs (by omega),Option.bind_some,Lt (g:=fun b=>1-2*b)]
 ·rw[Se];rfl
 ·intro k a x hk ha hx hx2
  have hb:=Mc hx2
  dsimp only[cS]
  rw[nA] at hk
  rw[if_pos (by rw[nA];simpa using hk),aS,hx,Option.bind_some,w64 (x:=2*x) (by omega),w64 (x:=1-2*x) (by omega),w64 (x:=(k:Int)+1) (by omega),Int.toNat_natCast]
  rfl
 ·intro a ha
  dsimp only[cS]
  rw[if_neg (by simp)]
end
end Go.Rex
namespace Go.Rex
section
variable {L:Nat} {ts:List Nat} {s:Nat}
theorem tmod2(x:Nat):(x:Int).tmod 2=((x%2:Nat):Int):=by
 rw[Int.tmod_eq_emod_of_nonneg (by omega)];omega
theorem tdiv2(x:Nat):(x:Int).tdiv 2=((x/2:Nat):Int):=by
 rw[Int.tdiv_eq_ediv_of_nonneg (by omega)];omega
theorem Lj(f:Nat→Nat):∀(l:List Nat) (a:Nat),l.foldl (fun a p=>a+f p) a%2=l.foldl (fun a p=>(a+f p)%2) (a%2)
 | [],a=>rfl
 | p::l,a=>by
  simp only[List.foldl_cons]
  rw[Lj f l]
  congr 1
  omega
theorem Qz(f:Nat→Nat)(hf:∀ p,f p≤1):∀(l:List Nat) (a:Nat),l.foldl (fun a p=>a+f p) a≤a+l.length
 | [],a=>by simp
 | p::l,a=>by
  simp only[List.foldl_cons,List.length_cons]
  have:=Qz f hf l (a+f p)
  have:=hf p
  omega
theorem Ae(hr:Reg L ts)(h0:0<s)(hs:s<2^L){n:Nat}(hn:n≤2000):kZ L (ints ts) s n=some (btl L ts s n):=by
 have hL2:=hr.two
 have h8:=hr.most
 have hlen:=hr.len
 have hL:2^L≤2^8:=Nat.pow_le_pow_right (by omega) h8
 unfold kZ
 have hrun:=iE (step:=iC L (ints ts) n) (e:=btl L ts s n) (fun t=>(((s/2^(min t L):Nat):Int),btl L ts s t,(t:Int))) (n:=n) (fun t ht=>?_) ?_
 ·rw[show (((s:Nat):Int),([]:List Int),(0:Int))=(((s/2^(min 0 L):Nat):Int),btl L ts s 0,((0:Nat):Int)) by simp[btl],hrun]
  rfl
 ·dsimp only[iC]
  rw[if_pos (by simpa using ht)]
  by_cases hlt:t<L
  ·rw[if_pos (by simpa using hlt),tmod2,tdiv2]
   have hw:=window hr h0 hs t 0 hlt
   rw[Nat.zero_add] at hw
   rw[show min t L=t by omega,show s/2^t%2=bt L ts s t from hw,Bc (by rw[nA];omega) (by omega),Option.bind_some,← Ag,w64 (x:=((s/2^t/2:Nat):Int)) (by have:=Nat.div_le_self s (2^t);have:=Nat.div_le_self (s/2^t) 2;omega),w64 (x:=(t:Int)+1) (by omega)]
   rw[Nat.div_div_eq_div_mul,← Nat.pow_succ,show min (t+1) L=t+1 by omega]
   rfl
  ·rw[if_neg (by simpa using hlt)]
   obtain⟨u,rfl⟩:∃ u,t=u+L:=⟨t-L,by omega⟩
   have hin:=iE (step:=iA (ints ts) (btl L ts s (u+L)) ((u+L:Nat):Int)) (e:=((ts.foldl (fun a p=>a+bt L ts s (u+L-p)) 0:Nat):Int)) (fun k=>((((ts.take k).foldl (fun a p=>a+bt L ts s (u+L-p)) 0:Nat):Int),(k:Int))) (n:=ts.length) (fun k hk=>?_) ?_
   ·rw[show ((0:Int),(0:Int))=((((ts.take 0).foldl (fun a p=>a+bt L ts s (u+L-p)) 0:Nat):Int),((0:Nat):Int)) from rfl,hin,Option.bind_some,tmod2,Lj,← Vo hr h0 hs u,Bc (by rw[nA];omega) (by omega),Option.bind_some,← Ag,w64 (x:=((u+L:Nat):Int)+1) (by omega),show min (u+L) L=L by omega,show min (u+L+1) L=L by omega]
    rfl
   ·obtain⟨p,hp⟩:∃ p,ts[k]?=some p:=⟨_,List.getElem?_eq_getElem hk⟩
    have hpm:=hr.le p (List.mem_of_getElem? hp)
    dsimp only[iA]
    rw[if_pos (by simpa using hk),aS,List.getElem?_map,hp,Option.map_some,Option.bind_some,w64 (x:=((u+L:Nat):Int)-(p:Int)) (by omega),vS (k:=u+L-p) (by omega)]
    have hg:(btl L ts s (u+L))[u+L-p]?=some ((bt L ts s (u+L-p):Nat):Int):=by
     unfold btl
     rw[List.getElem?_map,List.getElem?_range (by omega)]
     rfl
    rw[hg,Option.bind_some,wX hp,List.foldl_append]
    have hle:=Qz (fun p=>bt L ts s (u+L-p)) (fun p=>by unfold bt;omega) (ts.take k) 0
    rw[List.length_take] at hle
    have hb1:bt L ts s (u+L-p)≤1:=by unfold bt;omega
    rw[w64 (x:=(((ts.take k).foldl (fun a p=>a+bt L ts s (u+L-p)) 0:Nat):Int)+((bt L ts s (u+L-p):Nat):Int)) (by omega),w64 (x:=(k:Int)+1) (by omega)]
    congr 3
   ·dsimp only[iA]
    rw[if_neg (by simp),List.take_length]
 ·dsimp only[iC]
  rw[if_neg (by simp)]
theorem Bm(hr:Reg L ts)(h0:0<s)(hs:s<2^L):lG L (ints ts) s=some ((nx L ts s:Nat):Int):=by
 have hL2:=hr.two
 have h8:=hr.most
 have hL:2^L≤2^8:=Nat.pow_le_pow_right (by omega) h8
 have hx:=Uh (L:=L) (ts:=ts) (s:=s) (by omega) hs
 unfold lG
 have hw:IntKind.i64.wrap ((L:Int)+1)=((L+1:Nat):Int):=by rw[w64 (by omega)];omega
 rw[hw,Ae hr h0 hs (by omega),Option.bind_some]
 have hrun:=iE (step:=gZ (btl L ts s (L+1))) (e:=((nx L ts s:Nat):Int)) (fun j=>(((nx L ts s/2^(L-j):Nat):Int),(((L-j:Nat)):Int))) (n:=L) (fun j hj=>?_) ?_
 ·rw[show ((0:Int),(L:Int))=(((nx L ts s/2^(L-0):Nat):Int),(((L-0:Nat)):Int)) by rw[Nat.sub_zero,Nat.div_eq_of_lt hx];rfl,hrun]
  rfl
 ·dsimp only[gZ]
  obtain⟨k,hk⟩:∃ k,L-j=k+1:=⟨L-j-1,by omega⟩
  rw[show L-(j+1)=k by omega,hk,if_pos (by simp;omega),aS]
  have hg:(btl L ts s (L+1))[k+1]?=some ((bt L ts s (k+1):Nat):Int):=by
   unfold btl
   rw[List.getElem?_map,List.getElem?_range (by omega)]
   rfl
  rw[hg,Option.bind_some]
  have hwin:=window hr h0 hs k 1 (by omega)
  have hstt:stt L ts s 1=nx L ts s:=rfl
  rw[hstt,Nat.add_comm 1 k] at hwin
  have hd:nx L ts s/2^k=2*(nx L ts s/2^(k+1))+bt L ts s (k+1):=by
   rw[← hwin,Nat.pow_succ,← Nat.div_div_eq_div_mul]
   omega
  have hb:=Nat.div_le_self (nx L ts s) (2^k)
  rw[w64 (x:=2*((nx L ts s/2^(k+1):Nat):Int)) (by omega),w64 (x:=2*((nx L ts s/2^(k+1):Nat):Int)+((bt L ts s (k+1):Nat):Int)) (by omega),w64 (x:=((k+1:Nat):Int)-1) (by omega),hd]
  congr 3
  omega
 ·dsimp only[gZ]
  rw[if_neg (by simp),Nat.sub_self,Nat.pow_zero,Nat.div_one]
theorem Ga(hr:Reg L ts)(h0:0<s)(hs:s<2^L){n:Nat}(hp:Cz L ts s n)(hn:n≤2^L-1):kM L (ints ts) s=some (n:Int):=by
 obtain⟨⟨h1,h2⟩,h3⟩:=hp
 have h8:=hr.most
 have hL:2^L≤2^8:=Nat.pow_le_pow_right (by omega) h8
 unfold kM
 rw[Bm hr h0 hs,Option.bind_some]
 obtain⟨m,rfl⟩:∃ m,n=m+1:=⟨n-1,by omega⟩
 have hrun:=iE (step:=fM L (ints ts) s) (e:=((m+1:Nat):Int)) (fun k=>(((k+1:Nat):Int),((stt L ts s (k+1):Nat):Int))) (n:=m) (fun k hk=>?_) ?_
 ·rw[show ((1:Int),((nx L ts s:Nat):Int))=(((0+1:Nat):Int),((stt L ts s (0+1):Nat):Int)) from rfl,hrun]
  rfl
 ·dsimp only[fM]
  have:=h3 (k+1) (by omega)
  obtain⟨a,b⟩:=oK hr h0 hs (k+1)
  rw[if_pos (by simp only[decide_eq_true_eq];intro e;exact this ⟨by omega,by omega⟩),Bm hr a b,Option.bind_some,w64 (by omega)]
  congr 3
 ·dsimp only[fM]
  rw[h2,if_neg (by simp)]
end
end Go.Rex
namespace Go.Rex
section
variable {L:Nat} {ts:List Nat} {s:Nat}
theorem Nd(hr:Reg L ts)(h0:0<s)(hs:s<2^L):iX L (ints ts) s=some (sgl L ts s (2^L-1)):=by
 have hp:=pow8 hr.most
 unfold iX
 rw[yZ hr.most,Option.bind_some,Ae hr h0 hs (by omega),Option.bind_some,Lt (g:=fun b=>1-2*b)]
 ·rw[Se];rfl
 ·intro k a x hk ha hx hx2
  have hb:=Mc hx2
  dsimp only[iQ]
  rw[ha]
  rw[nA] at hk
  rw[if_pos (by rw[nA];simpa using hk),aS,hx,Option.bind_some,w64 (x:=2*x) (by omega),w64 (x:=1-2*x) (by omega),w64 (x:=(k:Int)+1) (by omega),Int.toNat_natCast]
  rfl
 ·intro a ha
  dsimp only[iQ]
  rw[ha,if_neg (by simp)]
end
end Go.Rex
namespace Go.Rex
theorem xT{L:Nat}{l:List Int}(s:Int)(hl:l.length≤12)(h:chk L l=0)(hL:L≤8):eD L l s=some (if 1≤s∧s≤((2^L-1:Nat):Int) then 0 else 2):=by
 unfold eD
 rw[Lo _ _ hl,h,Option.bind_some,if_neg (by simp),yZ hL,Option.bind_some,xA,Option.bind_some]
 by_cases q:1≤s∧s≤((2^L-1:Nat):Int)
 ·rw[if_pos (by simpa using q),if_pos q]
 ·rw[if_neg (by simpa using q),if_neg q]
theorem xS{L:Nat}(l:List Int)(s:Int)(hL:L≤8):aQ s L l=some (if 1≤s∧s≤((2^L-1:Nat):Int) then 0 else 2):=by
 unfold aQ
 rw[vG hL,Option.bind_some,tR,Option.bind_some]
 dsimp only
 rw[iL,Option.bind_some]
 by_cases q:1≤s∧s≤((2^L-1:Nat):Int)
 ·rw[if_pos q,show decide (1≤s∧s≤((2^L-1:Nat):Int))=true by simpa using q];rfl
 ·rw[if_neg q,show decide (1≤s∧s≤((2^L-1:Nat):Int))=false by simpa using q];rfl
end Go.Rex
namespace Go.Rex
open Go Go.Rex
set_option maxRecDepth 100000
def fo(w:List (Int×Int))(N:Nat):Nat→List (Int×Int)
 | 0=>List.replicate N (0,0)
 | t+1=>(fo w N t).set (t%N) (zadd (at0 (fo w N t) (t%N)) (at0 w t))
theorem Eq(w:List (Int×Int))(N:Nat):∀ t,(fo w N t).length=N
 | 0=>by simp[fo]
 | t+1=>by simp[fo,Eq w N t]
theorem Le(w:List (Int×Int))(i:Nat)(z:Int×Int)(k:Nat):at0 (w.set i z) k=if i=k∧k<w.length then z else at0 w k:=by
 unfold at0
 rw[List.getD_eq_getElem?_getD,List.getElem?_set,List.getD_eq_getElem?_getD]
 by_cases q:i=k
 ·subst q
  by_cases h:i<w.length
  ·rw[if_pos rfl,if_pos h,if_pos ⟨rfl,h⟩];rfl
  ·rw[if_pos rfl,if_neg h,if_neg (fun x=>h x.2),List.getElem?_eq_none (by omega)]
 ·rw[if_neg q,if_neg (fun x=>q x.1)]
theorem Uk{w:List (Int×Int)}(hw:∀ z∈w,small z)(N:Nat):∀ t k:Nat,zle (t*16777216) (at0 (fo w N t) k)
 | 0,k=>by
  unfold fo at0
  rw[List.getD_eq_getElem?_getD,List.getElem?_replicate]
  split<;>simp[zle]
 | t+1,k=>by
  have ih:=Uk hw N t
  simp only[fo]
  rw[Le]
  have e:((t+1:Nat):Int)*16777216=t*16777216+16777216:=by omega
  rw[e]
  split
  ·have h1:=ih (t%N)
   have h2:=nB hw t
   unfold zle zadd at *
   unfold small at h2
   simp only
   omega
  ·have h1:=ih k
   unfold zle at *
   omega
def fold(w:List (Int×Int))(N:Nat):List (Int×Int):=fo w N w.length
theorem Pm{w:List (Int×Int)}(hw:∀ z∈w,small z)(lw:w.length≤1024){N:Nat}(hN:1≤N∧N≤1024):kQ w (N:Int)=some (fold w N)∧fV w (N:Int)=some (fold w N):=by
 have step:∀ t:Nat,t<w.length→fS w (N:Int) (fo w N t,(t:Int))=some (.inl (fo w N (t+1),((t+1:Nat):Int)))∧eN w (N:Int) (fo w N t,(t:Int))=some (.inl (fo w N (t+1),((t+1:Nat):Int))):=by
  intro t ht
  have hlt:t%N<(fo w N t).length:=by rw[Eq];exact Nat.mod_lt _ (by omega)
  have e1:(t:Int).tmod (N:Int)=((t%N:Nat):Int):=by rw[Int.tmod_eq_emod_of_nonneg (by omega)];exact (Int.natCast_emod t N).symm
  have b1:=Uk hw N t (t%N)
  have b2:=nB hw t
  have hb:(t:Int)*16777216≤1024*16777216:=Int.mul_le_mul_of_nonneg_right (by omega) (by decide)
  unfold zle at b1
  unfold small at b2
  have g1:=uE hlt
  have g2:=uE ht
  constructor
  ·unfold fS cH
   simp only
   rw[if_pos (by rw[decide_eq_true_eq];omega),aS,g2]
   simp only[Option.bind_some]
   rw[if_neg (by omega),e1,aS,g1]
   simp only[Option.bind_some]
   rw[w64 (by omega),w64 (by omega),wsucc (n:=1024) (by omega) (by decide)]
   rfl
  ·unfold eN
   simp only
   rw[if_pos (by rw[decide_eq_true_eq];omega),if_neg (by omega),e1,aS,g1]
   simp only[Option.bind_some]
   rw[aS,g2]
   simp only[Option.bind_some]
   rw[w64 (x:=(at0 (fo w N t) (t%N)).1+(at0 w t).1) (by omega)]
   have hn:(((t%N:Nat):Int)).toNat=t%N:=by omega
   rw[hn,aS,List.getElem?_set_self (by simpa using hlt)]
   simp only[Option.bind_some]
   rw[w64 (by omega),wsucc (n:=1024) (by omega) (by decide),List.set_set]
   rfl
 have hmk:mkI 16 (N:Int) ((0,0):Int×Int)=some (fo w N 0):=by
  unfold mkI
  rw[if_pos (by omega)]
  rfl
 constructor
 ·have key := iN (step := fS w (N : Int)) (st := fun t (_ : Unit) => (fo w N t, (t : Int))) (g := fun _ x => x) (fin := fun _ => fold w N) w.length (fun _ _ => True) (b0 := ()) trivial
    (fun t _ ht _=>⟨(step t ht).1,trivial⟩) (fun _ _=>by
     unfold fS
     simp only
     rw[if_neg (by rw[decide_eq_true_eq];omega)]
     rfl)
  have k1:=key.1
  simp only[Int.natCast_zero] at k1
  unfold kQ
  rw[hmk]
  simp only[Option.bind_some]
  rw[k1]
  rfl
 ·have key := iN (step := eN w (N : Int)) (st := fun t (_ : Unit) => (fo w N t, (t : Int))) (g := fun _ x => x) (fin := fun _ => fold w N) w.length (fun _ _ => True) (b0 := ()) trivial
    (fun t _ ht _=>⟨(step t ht).2,trivial⟩) (fun _ _=>by
     unfold eN
     simp only
     rw[if_neg (by rw[decide_eq_true_eq];omega)]
     rfl)
  have k1:=key.1
  simp only[Int.natCast_zero] at k1
  unfold fV
  rw[hmk]
  simp only[Option.bind_some]
  rw[k1]
  rfl
theorem Cq(x:Option (List (Nat×Nat)×Int)):(x.bind fun (a,b)=>some (a,b))=x:=by cases x<;>rfl
def zstr(z:Int×Int)(s:Int):Int×Int:=(z.1*s,z.2*s)
def kK(s:Int):Prop:=s=1∨s = -1
def atS(S:List Int)(k:Nat):Int:=S.getD k 0
theorem zD{S:List Int}{k:Nat}(hk:k<S.length):S[k]?=some (atS S k):=by
 unfold atS
 rw[List.getD_eq_getElem?_getD,List.getElem?_eq_getElem hk]
 rfl
section
variable {W:List (Int×Int)} {S:List Int}
theorem Fy{z:Int×Int}{s B:Int}(hz:zle B z)(hs:kK s):zle B (zstr z s):=by
 unfold zle zstr at *
 rcases hs with rfl|rfl<;>simp only[Int.mul_one,Int.mul_neg]<;>omega
theorem sA{z:Int×Int}(h:small z):zle 16777216 z:=h
theorem mods{n k N:Nat}(hn:n<N)(hk:k<N)(hN:N≤1024):jB (IntKind.i64.wrap ((n:Int)-k)) (N:Int)=some (((n+N-k)%N:Nat):Int)∧gF (IntKind.i64.wrap ((n:Int)-k)) (N:Int)=some (((n+N-k)%N:Nat):Int):=by
 rw[w64 (x:=(n:Int)-k) (by omega)]
 by_cases q:k≤n
 ·have e:(n+N-k)%N=n-k:=by rw[show n+N-k=(n-k)+N by omega,Nat.add_mod_right,Nat.mod_eq_of_lt (by omega)]
  have t1:((n:Int)-k).tmod N=(n:Int)-k:=by rw[Int.tmod_eq_emod_of_nonneg (by omega),Int.emod_eq_of_lt (by omega) (by omega)]
  rw[e]
  constructor
  ·unfold jB
   rw[if_neg (by omega),t1,w64 (by omega),Int.tmod_eq_emod_of_nonneg (by omega),Int.add_emod_right,Int.emod_eq_of_lt (by omega) (by omega)]
   congr 1
   omega
  ·unfold gF
   rw[if_neg (by omega),t1,if_neg (by rw[decide_eq_true_eq];omega)]
   congr 1
   omega
 ·have e:(n+N-k)%N=n+N-k:=Nat.mod_eq_of_lt (by omega)
  have t1:((n:Int)-k).tmod N=(n:Int)-k:=by
   have:((n:Int)-k) = -((k:Int)-n):=by omega
   rw[this,Int.neg_tmod,Int.tmod_eq_emod_of_nonneg (by omega),Int.emod_eq_of_lt (by omega) (by omega)]
  rw[e]
  constructor
  ·unfold jB
   rw[if_neg (by omega),t1,w64 (by omega),Int.tmod_eq_emod_of_nonneg (by omega),Int.emod_eq_of_lt (by omega) (by omega)]
   congr 1
   omega
  ·unfold gF
   rw[if_neg (by omega),t1,if_pos (by rw[decide_eq_true_eq];omega),w64 (by omega)]
   congr 1
   omega
theorem Rl{z:Int×Int}{s:Int}(hz:small z)(hs:kK s):IntKind.i64.wrap (z.1*s)=(zstr z s).1∧IntKind.i64.wrap (z.2*s)=(zstr z s).2:=by
 have h:=Fy (sA hz) hs
 unfold zle at h
 exact⟨w64 (by show _≤(zstr z s).1∧(zstr z s).1≤_;omega),w64 (by show _≤(zstr z s).2∧(zstr z s).2≤_;omega)⟩
end
end Go.Rex
namespace Go.Rex
open Go Go.Rex
set_option maxRecDepth 100000
def crT(W:List (Int×Int))(S:List Int)(k t:Nat):Int×Int:=zstr (at0 W t) (atS S ((t+S.length-k)%S.length))
def crS(W:List (Int×Int))(S:List Int)(k j:Nat):Int×Int:=zsum (crT W S k) j
def trL(W:List (Int×Int))(S:List Int)(n k:Nat):List (Int×Int):=(List.range S.length).map fun i=>crS W S i (if i<k then n+1 else n)
def cor(W:List (Int×Int))(S:List Int):List (Int×Int):=(List.range S.length).map fun k=>zsub (crS W S k S.length) (zsum (at0 W) S.length)
def coT(W:List (Int×Int))(S:List Int)(n t:Nat):Int×Int:=zstr (at0 W t) (atS S ((t+S.length-n)%S.length)-1)
def coL(W:List (Int×Int))(S:List Int)(n j:Nat):List (Int×Int):=(List.range S.length).map fun i=>if i<n then zsum (coT W S i) S.length else if i=n then zsum (coT W S n) j else (0,0)
section
variable {W:List (Int×Int)} {S:List Int}
theorem Ez(n:Nat):∀ j:Nat,zsum (coT W S n) j=zsub (crS W S n j) (zsum (at0 W) j)
 | 0=>by simp[zsum,crS,zsub]
 | j+1=>by
  have ih:=Ez n j
  have e:coT W S n j=zsub (crT W S n j) (at0 W j):=by
   unfold coT crT zstr zsub
   simp only[Int.mul_sub,Int.mul_one]
  unfold crS at *
  simp only[zsum]
  rw[ih,e]
  unfold zadd zsub
  simp only[Prod.mk.injEq]
  omega
theorem Jy(hW:∀ z∈W,small z)(hS:∀ k,k<S.length→kK (atS S k))(h0:0<S.length)(n:Nat){j:Nat}(hj:j≤1024):zle 17179869184 (crS W S n j):=by
 have h:=Pv (f:=crT W S n) (B:=16777216) (n:=j) (fun k _=>Fy (sA (nB hW k)) (hS _ (Nat.mod_lt _ h0)))
 have h2:(j:Int)*16777216≤1024*16777216:=Int.mul_le_mul_of_nonneg_right (by omega) (by decide)
 unfold crS
 unfold zle at *
 omega
theorem Qx(hW:∀ z∈W,small z){j:Nat}(hj:j≤1024):zle 17179869184 (zsum (at0 W) j):=by
 have h:=Pv (f:=at0 W) (B:=16777216) (n:=j) (fun k _=>sA (nB hW k))
 have h2:(j:Int)*16777216≤1024*16777216:=Int.mul_le_mul_of_nonneg_right (by omega) (by decide)
 unfold zle at *
 omega
theorem Wq(hW:∀ z∈W,small z)(hS:∀ k,k<S.length→kK (atS S k))(h0:0<S.length)(n:Nat){j:Nat}(hj:j≤1024):zle 34359738368 (zsum (coT W S n) j):=by
 rw[Ez]
 have h1:=Jy hW hS h0 n hj
 have h2:=Qx hW hj
 unfold zsub
 unfold zle at *
 omega
theorem pJ(n j:Nat):(trL W S n j).length=S.length:=by unfold trL;simp
theorem Bd(n j:Nat){i:Nat}(hi:i<S.length):(trL W S n j)[i]?=some (crS W S i (if i<j then n+1 else n)):=by
 unfold trL
 rw[List.getElem?_map,List.getElem?_range hi]
 rfl
theorem Sz(n:Nat){k:Nat}(hk:k<S.length):(trL W S n k).set k (crS W S k (n+1))=trL W S n (k+1):=by
 apply List.ext_getElem?
 intro i
 rw[List.getElem?_set,pJ]
 by_cases hi:i<S.length
 ·rw[Bd n (k+1) hi]
  by_cases q:k=i
  ·subst q
   rw[if_pos rfl,if_pos hi,if_pos (by omega)]
  ·rw[if_neg q,Bd n k hi]
   by_cases c:i<k
   ·rw[if_pos c,if_pos (by omega)]
   ·rw[if_neg c,if_neg (by omega)]
 ·have hn2:∀ j,(trL W S n j)[i]?=none:=fun j=>List.getElem?_eq_none (by rw[pJ];omega)
  rw[hn2,hn2,if_neg (by omega)]
theorem Rj(n:Nat):trL W S n S.length=trL W S (n+1) 0:=by
 unfold trL
 apply List.map_congr_left
 intro i hi
 rw[List.mem_range] at hi
 rw[if_pos hi,if_neg (by omega)]
theorem Rk:trL W S 0 0=List.replicate S.length (0,0):=by
 apply List.ext_getElem?
 intro i
 by_cases hi:i<S.length
 ·rw[Bd 0 0 hi,List.getElem?_replicate,if_pos hi,if_neg (by omega)]
  rfl
 ·rw[List.getElem?_eq_none (by rw[pJ];omega),List.getElem?_eq_none (by simp;omega)]
theorem Uf(hW:∀ z∈W,small z)(hS:∀ k,k<S.length→kK (atS S k))(lW:W.length=S.length)(lS:0<S.length∧S.length≤1024){n:Nat}(hn:n<S.length):run (dT W S true (n:Int)) (trL W S n 0,0)=some (trL W S (n+1) 0):=by
 have step:∀ k:Nat,k<S.length→dT W S true (n:Int) (trL W S n k,(k:Int))=some (.inl (trL W S n (k+1),((k+1:Nat):Int))):=by
  intro k hk
  have hi:(n+S.length-k)%S.length<S.length:=Nat.mod_lt _ lS.1
  have sg:=hS _ hi
  have sW:=nB hW n
  have b1:=Jy hW hS lS.1 k (j:=n) (by omega)
  have b2:=Fy (sA sW) sg
  obtain⟨s1,s2⟩:=Rl sW sg
  have gW:W[n]?=some (at0 W n):=uE (by omega)
  have gL:(trL W S n k)[k]?=some (crS W S k n):=by rw[Bd n k hk,if_neg (by omega)]
  obtain⟨m1,m2⟩:=mods hn hk lS.2
  have nx:=Sz (W:=W) n hk
  have e:crS W S k (n+1)=zadd (crS W S k n) (zstr (at0 W n) (atS S ((n+S.length-k)%S.length))):=rfl
  have w1:IntKind.i64.wrap ((crS W S k n).1+(zstr (at0 W n) (atS S ((n+S.length-k)%S.length))).1)=(crS W S k (n+1)).1:=by
   rw[e];unfold zle at b1 b2;exact w64 (by omega)
  have w2:IntKind.i64.wrap ((crS W S k n).2+(zstr (at0 W n) (atS S ((n+S.length-k)%S.length))).2)=(crS W S k (n+1)).2:=by
   rw[e];unfold zle at b1 b2;exact w64 (by omega)
  unfold dT
  try simp only
  rw[if_pos (by rw[decide_eq_true_eq];omega),if_pos trivial,aS,gL,Option.bind_some]
  try simp only
  rw[aS,gW,Option.bind_some]
  try simp only
  rw[m2,Option.bind_some,aS,zD hi,Option.bind_some,show ((k:Int)).toNat=k by omega,s1,w1,aS,List.getElem?_set_self (by rw[pJ];exact hk),Option.bind_some]
  try simp only
  rw[Option.bind_some,aS,zD hi,Option.bind_some,s2,w2,wsucc (n:=1024) (by omega) (by decide),List.set_set]
  rw[← nx]
  try rfl
 have key := iN (step := dT W S true (n : Int)) (st := fun j (_ : Unit) => (trL W S n j, (j : Int))) (g := fun _ x => x) (fin := fun _ => trL W S (n + 1) 0) S.length (fun _ _ => True) (b0 := ()) trivial
     (fun j _ hj _=>⟨step j hj,trivial⟩) (fun _ _=>by
      unfold dT
      simp only
      rw[if_neg (by rw[decide_eq_true_eq];omega),Rj])
 exact key.1
theorem Rx(hW:∀ z∈W,small z)(hS:∀ k,k<S.length→kK (atS S k))(lW:W.length=S.length)(lS:0<S.length∧S.length≤1024):gM W S true=some (trL W S S.length 0):=by
 have key := iN (step := fN W S true) (st := fun n (_ : Unit) => (trL W S n 0, (n : Int))) (g := fun _ x => x) (fin := fun _ => trL W S S.length 0) S.length (fun _ _ => True) (b0 := ()) trivial
     (fun n _ hn _=>⟨by
      unfold fN
      simp only
      rw[if_pos (by rw[decide_eq_true_eq];omega),Uf hW hS lW lS hn,Option.bind_some,wsucc (n:=1024) (by omega) (by decide)],trivial⟩) (fun _ _=>by
      unfold fN
      simp only
      rw[if_neg (by rw[decide_eq_true_eq];omega)])
 have k1:=key.1
 simp only[Int.natCast_zero] at k1
 unfold gM mkI
 rw[if_pos (by omega),Option.bind_some,show ((S.length:Int)).toNat=S.length by omega,← Rk (W:=W),k1,Option.bind_some]
theorem zC(n j:Nat):(coL W S n j).length=S.length:=by unfold coL;simp
theorem Fv(n j:Nat){i:Nat}(hi:i<S.length):(coL W S n j)[i]?=some (if i<n then zsum (coT W S i) S.length else if i=n then zsum (coT W S n) j else (0,0)):=by
 unfold coL
 rw[List.getElem?_map,List.getElem?_range hi]
 rfl
theorem Tg{n:Nat}(j:Nat)(hn:n<S.length):(coL W S n j).set n (zsum (coT W S n) (j+1))=coL W S n (j+1):=by
 apply List.ext_getElem?
 intro i
 rw[List.getElem?_set,zC]
 by_cases hi:i<S.length
 ·rw[Fv n (j+1) hi]
  by_cases q:n=i
  ·subst q
   rw[if_pos rfl,if_pos hi,if_neg (by omega),if_pos rfl]
  ·rw[if_neg q,Fv n j hi]
   by_cases c:i<n
   ·rw[if_pos c,if_pos c]
   ·rw[if_neg c,if_neg c,if_neg (fun h=>q h.symm),if_neg (fun h=>q h.symm)]
 ·have hn2:∀ j,(coL W S n j)[i]?=none:=fun j=>List.getElem?_eq_none (by rw[zC];omega)
  rw[hn2,hn2,if_neg (by omega)]
theorem Po(n:Nat):coL W S n S.length=coL W S (n+1) 0:=by
 unfold coL
 apply List.map_congr_left
 intro i _
 by_cases c:i<n
 ·rw[if_pos c,if_pos (by omega)]
 ·rw[if_neg c]
  by_cases q:i=n
  ·rw[if_pos q,if_pos (by omega),q]
  ·rw[if_neg q,if_neg (by omega)]
   by_cases q2:i=n+1
   ·rw[if_pos q2];rfl
   ·rw[if_neg q2]
theorem Px:coL W S 0 0=List.replicate S.length (0,0):=by
 apply List.ext_getElem?
 intro i
 by_cases hi:i<S.length
 ·rw[Fv 0 0 hi,List.getElem?_replicate,if_pos hi,if_neg (by omega)]
  by_cases q:i=0
  ·rw[if_pos q];rfl
  ·rw[if_neg q]
 ·rw[List.getElem?_eq_none (by rw[zC];omega),List.getElem?_eq_none (by simp;omega)]
theorem Ty:coL W S S.length 0=cor W S:=by
 unfold coL cor
 apply List.map_congr_left
 intro i hi
 rw[List.mem_range] at hi
 rw[if_pos hi,Ez]
theorem str2{z:Int×Int}{s:Int}(hz:small z)(hs:kK s):zle 33554432 (zstr z (s-1))∧IntKind.i64.wrap (s-1)=s-1:=by
 unfold small at hz
 unfold zle zstr
 rcases hs with rfl|rfl
 ·rw[show (1:Int)-1=0 from rfl]
  exact⟨by simp only[Int.mul_zero];omega,by decide⟩
 ·rw[show (-1:Int)-1 = -2 from rfl]
  exact⟨by simp only;omega,by decide⟩
theorem Tw(hW:∀ z∈W, small z)(hS:∀ k, k<S.length→kK (atS S k))(lW:W.length=S.length)(lS:0<S.length∧S.length≤1024){n:Nat}(hn:n<S.length) :
 run (bD W S (n:Int)) (coL W S n 0,0)=some (coL W S (n+1) 0):=by
 have step:∀ k:Nat,k<S.length→bD W S (n:Int) (coL W S n k,(k:Int))=some (.inl (coL W S n (k+1),((k+1:Nat):Int))):=by
  intro k hk
  have hi:(k+S.length-n)%S.length<S.length:=Nat.mod_lt _ lS.1
  have sg:=hS _ hi
  have sW:=nB hW k
  have b1:=Wq hW hS lS.1 n (j:=k) (by omega)
  obtain⟨b2,t1⟩:=str2 sW sg
  have gW:W[k]?=some (at0 W k):=uE (by omega)
  have gL:(coL W S n k)[n]?=some (zsum (coT W S n) k):=by rw[Fv n k hn,if_neg (by omega),if_pos rfl]
  obtain⟨m1,m2⟩:=mods hk hn lS.2
  have nx:=Tg (W:=W) k hn
  have e:zsum (coT W S n) (k+1)=zadd (zsum (coT W S n) k) (zstr (at0 W k) (atS S ((k+S.length-n)%S.length)-1)):=rfl
  have c2:dL (n:Int) (k:Int) S=some (atS S ((k+S.length-n)%S.length)-1):=by
   unfold dL bF
   rw[m1,Option.bind_some,aS,zD hi,Option.bind_some,Option.bind_some,t1]
  generalize atS S ((k+S.length-n)%S.length)-1=s at *
  have s1:IntKind.i64.wrap ((at0 W k).1*s)=(zstr (at0 W k) s).1:=by unfold zle at b2;exact w64 (by show _≤(zstr (at0 W k) s).1∧(zstr (at0 W k) s).1≤_;omega)
  have s2:IntKind.i64.wrap ((at0 W k).2*s)=(zstr (at0 W k) s).2:=by unfold zle at b2;exact w64 (by show _≤(zstr (at0 W k) s).2∧(zstr (at0 W k) s).2≤_;omega)
  have w1:IntKind.i64.wrap ((zsum (coT W S n) k).1+(zstr (at0 W k) s).1)=(zsum (coT W S n) (k+1)).1:=by
   rw[e];unfold zle at b1 b2;exact w64 (by omega)
  have w2:IntKind.i64.wrap ((zsum (coT W S n) k).2+(zstr (at0 W k) s).2)=(zsum (coT W S n) (k+1)).2:=by
   rw[e];unfold zle at b1 b2;exact w64 (by omega)
  unfold bD dH cH
  try simp only
  rw[if_pos (by rw[decide_eq_true_eq];omega),aS,gW,Option.bind_some]
  try simp only
  rw[aS,gL,Option.bind_some,c2,Option.bind_some,Option.bind_some,Option.bind_some]
  try simp only
  rw[s1,s2,w1,w2,wsucc (n:=1024) (by omega) (by decide),show ((n:Int)).toNat=n by omega]
  rw[← nx]
  try rfl
 have key := iN (step := bD W S (n : Int)) (st := fun j (_ : Unit) => (coL W S n j, (j : Int))) (g := fun _ x => x) (fin := fun _ => coL W S (n + 1) 0) S.length (fun _ _ => True) (b0 := ()) trivial
     (fun j _ hj _=>⟨step j hj,trivial⟩) (fun _ _=>by
      unfold bD
      simp only
      rw[if_neg (by rw[decide_eq_true_eq];omega),Po])
 exact key.1
theorem Ql(hW:∀ z∈W,small z)(hS:∀ k,k<S.length→kK (atS S k))(lW:W.length=S.length)(lS:0<S.length∧S.length≤1024):dY W S=some (cor W S):=by
 have lz:(coL W S 0 0).length=S.length:=zC 0 0
 have key := iN (step := cK W S (coL W S 0 0)) (st := fun n (_ : Unit) => (coL W S n 0, (n : Int))) (g := fun _ x => x) (fin := fun _ => cor W S) S.length (fun _ _ => True) (b0 := ()) trivial
     (fun n _ hn _=>⟨by
      unfold cK
      simp only
      rw[if_pos (by rw[decide_eq_true_eq];omega),Tw hW hS lW lS hn,Option.bind_some,wsucc (n:=1024) (by omega) (by decide)],trivial⟩) (fun _ _=>by
      unfold cK
      simp only
      rw[if_neg (by rw[decide_eq_true_eq];omega),Ty])
 have k1:=key.1
 simp only[Int.natCast_zero] at k1
 unfold dY mkI
 rw[if_pos (by omega),Option.bind_some,show ((W.length:Int)).toNat=S.length by omega,← Px (W:=W),k1,Option.bind_some]
end
end Go.Rex
namespace Go.Rex
open Go Go.Rex
set_option maxRecDepth 100000
def even2(M:Int)(z:Int×Int):Prop:=z.1.tmod M=0∧z.2.tmod M=0
instance (M:Int) (z:Int×Int):Decidable (even2 M z):=by unfold even2;exact inferInstance
def qt(M:Int)(z:Int×Int):Int×Int:=(z.1.tdiv M,z.2.tdiv M)
def dvf{ε:Type}(M:Int)(e:ε)(b:List (Int×Int))(z:Int×Int):List (Int×Int) ⊕ ε:=if even2 M z then .inl (b++[qt M z]) else .inr e
theorem Fo{ε:Type}{M:Int}(e:ε)(b:List (Int×Int)){z:Int×Int}(h:even2 M z):dvf M e b z = .inl (b++[qt M z]):=if_pos h
theorem Bt{ε:Type}{M:Int}(e:ε)(b:List (Int×Int)){z:Int×Int}(h:¬ even2 M z):dvf M e b z = .inr e:=if_neg h
theorem Fx{ε:Type}(M:Int)(e:ε)(fin:List (Int×Int)→ε):∀(l b:List (Int×Int)),walk (dvf M e) fin b l=if ∀ z∈l,even2 M z then fin (b++l.map (qt M)) else e
 | [],b=>by simp[walk]
 | z::l,b=>by
  simp only[walk]
  by_cases h:even2 M z
  ·rw[Fo _ _ h]
   simp only
   rw[Fx M e fin l]
   by_cases h2:∀ z∈l,even2 M z
   ·rw[if_pos h2,if_pos (by intro y hy;rcases List.mem_cons.1 hy with rfl|hy;exact h;exact h2 y hy)]
    simp
   ·rw[if_neg h2,if_neg (fun h3=>h2 fun y hy=>h3 y (List.mem_cons_of_mem _ hy))]
  ·rw[Bt _ _ h,if_neg (fun h3=>h (h3 z List.mem_cons_self))]
theorem uR{x:Int}{M:Nat}{B:Int}(hx:-B≤x∧x≤B)(hM:1≤M):-B≤x.tdiv M∧x.tdiv M≤B:=by
 have h:=Int.natAbs_tdiv_le_natAbs x (M:Int)
 omega
theorem Nz{w:List (Int×Int)}{M:Nat}(hM:1≤M)(lw:w.length≤1024)(hw:∀ z∈w,zle 34359738368 z):hP w (M:Int)=some (if ∀ z∈w,even2 M z then (w.map (qt M),true) else ([],false)):=by
 have key:=Hg (step:=eX w (M:Int)) (fun k b=>(b,(k:Int))) (dvf (M:Int) (.inl ():Unit ⊕ List (Int×Int))) (fun b=>.inr b) (fun k b=>b.length=k) w
  (fun k z b hz hb=>by
   have hk:=(List.getElem?_eq_some_iff.1 hz).1
   have bz:=hw z (List.mem_iff_getElem?.2 ⟨k,hz⟩)
   unfold zle at bz
   have d1:=uR bz.1 hM
   have d2:=uR bz.2 hM
   unfold eX
   simp only
   rw[if_pos (by rw[decide_eq_true_eq];omega),aS,hz,Option.bind_some]
   try simp only
   rw[if_neg (by omega)]
   by_cases h1:z.1.tmod M=0
   ·rw[if_neg (by simpa using h1)]
    by_cases h2:z.2.tmod M=0
    ·rw[if_neg (by simpa using h2),Fo _ _ ⟨h1,h2⟩]
     unfold mW
     rw[if_pos (by simp;omega),Option.bind_some,w64 (by omega),w64 (by omega),wsucc (n:=1024) (by omega) (by decide)]
     refine⟨rfl,fun b' hb'=>?_⟩
     have:=Sum.inl.inj hb'
     subst this
     simp[hb]
    ·rw[if_pos (by simpa using h2),Bt _ _ (fun h=>h2 h.2)]
     exact⟨rfl,fun b' hb'=>by cases hb'⟩
   ·rw[if_pos (by simpa using h1),Bt _ _ (fun h=>h1 h.1)]
    exact⟨rfl,fun b' hb'=>by cases hb'⟩)
  (fun b hb=>by
   unfold eX
   simp only
   rw[if_neg (by rw[decide_eq_true_eq];omega)]) (b0:=[]) rfl
 rw[Fx] at key
 simp only[Int.natCast_zero,List.nil_append] at key
 unfold hP
 rw[key,Option.bind_some]
 by_cases h:∀ z∈w,even2 M z
 ·rw[if_pos h,if_pos h]
 ·rw[if_neg h,if_neg h]
theorem Dq{x:Int}{M:Nat}(hM:1≤M∧M≤4096)(hx:-34359738368≤x∧x≤34359738368):∃ m,gF x (M:Int)=some m∧(m=0↔x.tmod M=0)∧(m=0→lF x (M:Int)=some (x.tdiv M)):=by
 have d:=uR hx hM.1
 have hlt:-(M:Int)<x.tmod M:=Int.lt_tmod_of_pos x (by omega)
 have hlt2:x.tmod M<(M:Int):=Int.tmod_lt_of_pos x (by omega)
 unfold gF lF
 rw[if_neg (by omega)]
 by_cases h:x.tmod M<0
 ·rw[if_pos (decide_eq_true h),w64 (by omega)]
  refine⟨_,rfl,⟨fun h1=>by omega,fun h1=>by omega⟩,fun h1=>by omega⟩
 ·rw[if_neg (by simpa using h)]
  refine⟨_,rfl,Iff.rfl,fun h1=>?_⟩
  rw[if_neg (by omega),if_neg (by simpa using h),w64 (by omega)]
section
variable {W:List (Int×Int)} {S:List Int}
theorem sJ:(cor W S).length=S.length:=by unfold cor;simp
theorem Jn(hW:∀ z∈W,small z)(hS:∀ k,k<S.length→kK (atS S k))(lS:0<S.length∧S.length≤1024):∀ z∈cor W S,zle 34359738368 z:=by
 intro z hz
 unfold cor at hz
 rw[List.mem_map] at hz
 obtain⟨k,_,rfl⟩:=hz
 have h1:=Jy hW hS lS.1 k (j:=S.length) lS.2
 have h2:=Qx hW (j:=S.length) lS.2
 unfold zsub
 unfold zle at *
 omega
theorem Vf{k:Nat}{z:Int×Int}(h:(cor W S)[k]?=some z):k<S.length∧z=zsub (crS W S k S.length) (zsum (at0 W) S.length):=by
 have hk:=(List.getElem?_eq_some_iff.1 h).1
 rw[sJ] at hk
 unfold cor at h
 rw[List.getElem?_map,List.getElem?_range hk] at h
 exact⟨hk,(Option.some.inj h).symm⟩
theorem Sr(hW:∀ z∈W,small z)(hS:∀ k,k<S.length→kK (atS S k))(lS:0<S.length∧S.length≤1024):run (cJ (S.length:Int) (zsum (at0 W) S.length).1 (zsum (at0 W) S.length).2) (trL W S S.length 0,0)=some (if ∀ z∈cor W S,even2 ((S.length+1:Nat):Int) z then .inr ((cor W S).map (qt ((S.length+1:Nat):Int))) else .inl ()):=by
 have hM:IntKind.i64.wrap ((S.length:Int)+1)=((S.length+1:Nat):Int):=wsucc (n:=1024) (by omega) (by decide)
 have key:=Hg (step:=cJ (S.length:Int) (zsum (at0 W) S.length).1 (zsum (at0 W) S.length).2) (fun k b=>(b++(trL W S S.length 0).drop k,(k:Int))) (dvf ((S.length+1:Nat):Int) (.inl ():Unit ⊕ List (Int×Int))) (fun b=>.inr b) (fun k b=>b.length=k) (cor W S)
  (fun k z b hz hb=>by
   obtain⟨hk,ez⟩:=Vf hz
   have bz:=Jn hW hS lS z (List.mem_iff_getElem?.2 ⟨k,hz⟩)
   have htr:=Bd (W:=W) (S:=S) S.length 0 hk
   rw[if_neg (by omega)] at htr
   generalize hc:crS W S k S.length=c at *
   have hdr:(trL W S S.length 0).drop k=c::(trL W S S.length 0).drop (k+1):=by
    rw[List.drop_eq_getElem_cons (by rw[pJ];exact hk)]
    rw[List.getElem?_eq_getElem (by rw[pJ];exact hk)] at htr
    rw[Option.some.inj htr]
   generalize (trL W S S.length 0).drop (k+1)=rest at *
   generalize zsum (at0 W) S.length=tot at *
   have e1:c.1-tot.1=z.1:=by rw[ez];rfl
   have e2:c.2-tot.2=z.2:=by rw[ez];rfl
   unfold zle at bz
   have w1:IntKind.i64.wrap (c.1-tot.1)=z.1:=by rw[e1];exact w64 (by omega)
   have w2:IntKind.i64.wrap (c.2-tot.2)=z.2:=by rw[e2];exact w64 (by omega)
   have g1:(b++c::rest)[k]?=some c:=by rw[List.getElem?_append_right (by omega),hb,Nat.sub_self];rfl
   have set1:∀ y,(b++c::rest).set k y=b++y::rest:=fun y=>by rw[List.set_append_right _ _ (by omega),hb,Nat.sub_self];rfl
   have g2:∀ y,(b++y::rest)[k]?=some y:=fun y=>by rw[List.getElem?_append_right (by omega),hb,Nat.sub_self];rfl
   obtain⟨m1,a1,a2,a3⟩:=Dq (x:=z.1) (M:=S.length+1) (by omega) bz.1
   obtain⟨m2,b1,b2,b3⟩:=Dq (x:=z.2) (M:=S.length+1) (by omega) bz.2
   rw[hdr]
   unfold cJ
   simp only
   rw[if_pos (by rw[decide_eq_true_eq];omega),aS,g1,Option.bind_some]
   try simp only
   rw[hM,w1,a1,Option.bind_some,show ((k:Int)).toNat=k by omega]
   by_cases h1:m1=0
   ·have t1:=a2.1 h1
    rw[if_neg (by simpa using h1),a3 h1,Option.bind_some,set1,aS,g2,Option.bind_some]
    try simp only
    rw[w2,b1,Option.bind_some]
    by_cases h2:m2=0
    ·have t2:=b2.1 h2
     have hrun:run iH ()=some ():=lX rfl
     rw[if_neg (by simpa using h2),b3 h2,Option.bind_some,hrun,Option.bind_some,Fo _ _ ⟨t1,t2⟩,List.set_append_right _ _ (by omega),hb,Nat.sub_self,wsucc (n:=1024) (by omega) (by decide)]
     refine⟨by simp[qt],fun b' hb'=>?_⟩
     have:=Sum.inl.inj hb'
     subst this
     simp[hb]
    ·rw[if_pos (by simpa using h2),Bt _ _ (fun h=>h2 (b2.2 h.2))]
     exact⟨rfl,fun b' hb'=>by cases hb'⟩
   ·rw[if_pos (by simpa using h1),Bt _ _ (fun h=>h1 (a2.2 h.1))]
    exact⟨rfl,fun b' hb'=>by cases hb'⟩)
  (fun b hb=>by
   rw[sJ] at *
   unfold cJ
   simp only
   rw[if_neg (by rw[decide_eq_true_eq];omega),List.drop_eq_nil_of_le (by rw[pJ];omega),List.append_nil]) (b0:=[]) rfl
 rw[Fx] at key
 simp only[Int.natCast_zero,List.nil_append,List.drop_zero] at key
 exact key
theorem Pc:∀ t:Nat,at0 (fo W 1 t) 0=zsum (at0 W) t
 | 0=>rfl
 | t+1=>by
  have ih:=Pc t
  unfold fo
  rw[Le,Nat.mod_one,if_pos ⟨rfl,by rw[Eq];omega⟩,ih]
  rfl
end
end Go.Rex
namespace Go.Rex
section
variable {L:Nat} {ts:List Nat}
theorem Bb(hr:Reg L ts):1<2^L:=by
 have h1:2^1≤2^L:=Nat.pow_le_pow_right (by omega) (by have:=hr.two;omega)
 omega
end
end Go.Rex
namespace Go.Rex
open Go Go.Rex
set_option maxRecDepth 100000
theorem Hv(L:Nat)(ts:List Nat)(s n:Nat):∀ k,k<(sgl L ts s n).length→kK (atS (sgl L ts s n) k):=by
 intro k hk
 have h:=zD hk
 rw[zG] at hk
 have e:(sgl L ts s n)[k]?=some (1-2*((bt L ts s k:Nat):Int)):=by
  unfold sgl
  rw[List.getElem?_map,List.getElem?_range hk]
  rfl
 rw[e] at h
 have h:=Option.some.inj h
 unfold kK
 have:=Uj L ts s k
 omega
section
variable {L:Nat} {ts:List Nat} {s:Nat}
end
end Go.Rex
namespace Go.Rex
open Go Go.Rex
set_option maxRecDepth 100000
section
variable {L:Nat} {ts:List Nat} {s:Nat}
theorem Xs(hr:Reg L ts){n:Nat}(hp:Cz L ts 1 n)(hn:n≤2^L-1):cZ L (ints ts)=some (if n=2^L-1 then 0 else 22):=by
 unfold cZ dW aC aB
 have:=No hr (s:=1) (by omega) (Bb hr) hp hn
 rw[show (1:Int)=((1:Nat):Int) from rfl,this,Option.bind_some,vG hr.most,Option.bind_some]
 by_cases h:n=2^L-1
 ·simp[h]
 ·have h':¬((n:Int)=((2^L-1:Nat):Int)):=by omega
  rw[decide_eq_false h',if_neg h]
  simp
theorem Yf(hr:Reg L ts){n:Nat}(hp:Cz L ts 1 n)(hn:n≤2^L-1):gX L (ints ts)=some (decide (n=2^L-1)):=by
 unfold gX
 have:=Ga hr (s:=1) (by omega) (Bb hr) hp hn
 rw[show (1:Int)=((1:Nat):Int) from rfl,this,Option.bind_some,yZ hr.most,Option.bind_some]
 by_cases h:n=2^L-1
 ·simp[h]
 ·have h':¬((n:Int)=((2^L-1:Nat):Int)):=by omega
  rw[decide_eq_false h,decide_eq_false h']
noncomputable def unV(W:List (Int×Int))(S:List Int):List (Nat×Nat)×Int:=if ∀ z∈cor W S,even2 ((S.length+1:Nat):Int) z then rec ((cor W S).map (qt ((S.length+1:Nat):Int))) else ([],20)
theorem Wy{W:List (Int×Int)}{S:List Int}(hW:∀ z∈W,small z)(hS:∀ k,k<S.length→kK (atS S k))(lS:0<S.length∧S.length≤1024):∀ z∈(cor W S).map (qt ((S.length+1:Nat):Int)),mid z:=by
 intro z hz
 rw[List.mem_map] at hz
 obtain⟨y,hy,rfl⟩:=hz
 have b:=Jn hW hS lS y hy
 unfold zle at b
 have d1:=uR (M:=S.length+1) b.1 (by omega)
 have d2:=uR (M:=S.length+1) b.2 (by omega)
 unfold mid qt
 simp only
 omega
theorem Ri(hr:Reg L ts)(h0:0<s)(hs:s<2^L){l:List (Nat×Nat)}(G:GoodL l)(hl:l.length=2^L-1):((cC L (ints ts) s).bind fun v12 =>
 (aZ l).bind fun v13 =>
 (dY v13 v12).bind fun v14 =>
 (aE L (ints ts)).bind fun v15 =>
 (hP v14 (IntKind.i64.wrap (v15+1))).bind fun (v16,v17) =>
 if v17=true then
  ((bX v16).bind fun (v18,v19) =>
  some (v18,v19))
 else
  (some (([]:List (Nat×Nat)),20)))=some (unV (nums l) (sgl L ts s (2^L-1))):=by
 have g:=G.len
 have hL:=hr.most
 have hp:=pow8 hL
 have h1:1<2^L:=Bb hr
 unfold cC
 rw[Nl hr h0 hs,Option.bind_some,Option.bind_some,De G,Option.bind_some]
 have ln:=zG L ts s (2^L-1)
 have sg:=Hv L ts s (2^L-1)
 generalize sgl L ts s (2^L-1)=S at *
 have lw:(nums l).length=S.length:=by rw[uC];omega
 have sm:=Ac G
 generalize nums l=W at *
 rw[Ql sm sg lw (by omega),Option.bind_some,vG hL,Option.bind_some,← ln,wsucc (n:=1024) (by omega) (by decide),Nz (by omega) (by rw[sJ];omega) (Jn sm sg (by omega)),Option.bind_some]
 unfold unV
 by_cases h:∀ z∈cor W S,even2 ((S.length+1:Nat):Int) z
 ·rw[if_pos h,if_pos h]
  simp only
  rw[if_pos trivial,Cq]
  exact Si _ (by rw[List.length_map,sJ];omega)
 ·rw[if_neg h,if_neg h]
  simp only
  rw[if_neg (by simp)]
theorem Ta (hr : Reg L ts) (h0 : 0 < s) (hs : s < 2 ^ L) {l : List (Nat × Nat)} (G : GoodL l) (hl : l.length = 2 ^ L - 1) : ((dU l).bind fun v11 =>
          (fV v11 1).bind fun v12 =>
          (bN v12 0).bind fun (v13,v14) =>
          (iX L (ints ts) s).bind fun v15 =>
          (gM v11 v15 true).bind fun v16 =>
          (run (cJ ((2^L-1:Nat):Int) v13 v14) (v16,0)).bind fun v36=>match v36 with
          | (.inl _) =>
           some (([]:List (Nat×Nat)),20)
          | (.inr v37) =>
           (fA v37).bind fun (v38,v39) =>
           some (v38,v39))=some (unV (nums l) (sgl L ts s (2^L-1))):=by
 have g:=G.len
 have hL:=hr.most
 have hp:=pow8 hL
 have h1:1<2^L:=Bb hr
 have nw:(nums l).length≤1024:=by rw[uC];omega
 have sm:=Ac G
 have hf:=(Pm sm nw (N:=1) (by omega)).2
 rw[show ((1:Nat):Int)=1 from rfl] at hf
 rw[Qt G,Option.bind_some,hf,Option.bind_some]
 have ln:=zG L ts s (2^L-1)
 have sg:=Hv L ts s (2^L-1)
 rw[Nd hr h0 hs]
 generalize sgl L ts s (2^L-1)=S at *
 have lw:(nums l).length=S.length:=by rw[uC];omega
 generalize nums l=W at *
 have e0:at0 (fold W 1) 0=zsum (at0 W) S.length:=by unfold fold;rw[Pc,lw]
 have g0:bN (fold W 1) 0=some (zsum (at0 W) S.length):=by
  have h2:=uE (w:=fold W 1) (k:=0) (by unfold fold;rw[Eq];omega)
  rw[e0] at h2
  rw[show (0:Int)=((0:Nat):Int) from rfl,aS,h2]
 rw[g0,Option.bind_some]
 simp only
 rw[Option.bind_some,Rx sm sg lw (by omega),Option.bind_some,← ln,Sr sm sg (by omega),Option.bind_some]
 unfold unV
 by_cases h:∀ z∈cor W S,even2 ((S.length+1:Nat):Int) z
 ·rw[if_pos h,if_pos h]
  simp only
  rw[Cq]
  exact Tz _ (by rw[List.length_map,sJ];omega) (Wy sm sg (by omega))
 ·rw[if_neg h,if_neg h]
end
theorem yH{l:List (Nat×Nat)}{L:Int}{t:List Int}(s:Int)(ht:t.length≤12)(h:lE l≠0∨chk L t≠0):cP l L t s=some ([],if lE l≠0 then lE l else chk L t):=by
 unfold cP cT bB cN
 rw[Option.bind_some,Option.bind_some,vX]
 simp only
 rw[Option.bind_some]
 by_cases h1:lE l=0
 ·have h2 : chk L t ≠ 0 := by
    rcases h with h|h
    ·exact absurd h1 h
    ·exact h
  rw[if_neg (by simpa using h1),wZ L t ht,Option.bind_some,if_pos (by simpa using h2),Option.bind_some,if_pos (by simpa using h2),if_neg (by simpa using h1)]
 ·rw[if_pos (by simpa using h1),Option.bind_some,if_pos (by simpa using h1),if_pos h1]
theorem zP{l:List (Nat×Nat)}{L:Int}{t:List Int}(s:Int)(ht:t.length≤12)(h:lE l≠0∨chk L t≠0):cQ l L t s=some ([],if lE l≠0 then lE l else chk L t):=by
 unfold cQ
 rw[zZ,Option.bind_some]
 by_cases h1:lE l=0
 ·have h2 : chk L t ≠ 0 := by
    rcases h with h|h
    ·exact absurd h1 h
    ·exact h
  have hs:eD L t s=some (chk L t):=by
   unfold eD
   rw[Lo _ _ ht,Option.bind_some,if_pos (by simpa using h2)]
  rw[if_neg (by simpa using h1),hs,Option.bind_some,if_pos (by simpa using h2),if_neg (by simpa using h1)]
 ·rw[if_pos (by simpa using h1),if_pos h1]
theorem Ux{l:List (Nat×Nat)}{L:Nat}{t:List Int}(s:Int)(ht:t.length≤12)(hl:lE l=0)(hc:chk L t=0)(hL:L≤8)(hs:¬(1≤s∧s≤((2^L-1:Nat):Int))):cP l L t s=some ([],2)∧cQ l L t s=some ([],2):=by
 constructor
 ·unfold cP cT bB cN
  rw[Option.bind_some,Option.bind_some,vX]
  simp only
  rw[Option.bind_some,if_neg (by simpa using hl),wZ _ t ht,Option.bind_some,hc,if_neg (by decide),xS t s hL,Option.bind_some,if_neg hs]
  rfl
 ·unfold cQ
  rw[zZ,Option.bind_some,if_neg (by simpa using hl),xT s ht hc hL,Option.bind_some,if_neg hs]
  rfl
theorem Ru(l:List (Nat×Nat)){L:Nat}(t:List Int)(hL:L≤8):dQ l L t=some (if l.length=2^L-1 then 0 else 13):=by
 unfold dQ aC aB
 rw[vG hL,Option.bind_some]
 by_cases h:l.length=2^L-1
 ·simp[h]
 ·have h':¬((l.length:Int)=((2^L-1:Nat):Int)):=by omega
  rw[if_neg h,decide_eq_true h']
  simp
noncomputable def unG(l:List (Nat×Nat))(L:Nat)(ts:List Nat)(s n:Nat):List (Nat×Nat)×Int:=if n=2^L-1 then if l.length=2^L-1 then unV (nums l) (sgl L ts s (2^L-1)) else ([],13) else ([],22)
theorem Xp{l:List (Nat×Nat)}{L:Nat}{ts:List Nat}{s n:Nat}(ht:(ints ts).length≤12)(hl:lE l=0)(hc:chk L (ints ts)=0)(hr:Reg L ts)(h0:0<s)(hs:s<2^L)(hp:Cz L ts 1 n)(hn:n≤2^L-1):cP l L (ints ts) s=some (unG l L ts s n)∧cQ l L (ints ts) s=some (unG l L ts s n):=by
 have hL:=hr.most
 have hin:1≤(s:Int)∧(s:Int)≤((2^L-1:Nat):Int):=by omega
 unfold unG
 constructor
 ·unfold cP cT bB cN
  rw[Option.bind_some,Option.bind_some,vX]
  simp only
  rw[Option.bind_some,if_neg (by simpa using hl),wZ _ _ ht,Option.bind_some,hc,if_neg (by decide),xS _ _ hL,Option.bind_some,if_pos hin,if_neg (by decide),Xs hr hp hn,Option.bind_some,Ru l _ hL]
  by_cases h1:n=2^L-1
  ·rw[if_pos h1,if_pos h1,if_neg (by decide),Option.bind_some]
   by_cases h2:l.length=2^L-1
   ·rw[if_pos h2,if_pos h2,if_neg (by decide),Option.bind_some,if_neg (by decide)]
    exact Ri hr h0 hs (Lp hl) h2
   ·rw[if_neg h2,if_neg h2,if_pos (by decide),Option.bind_some,if_pos (by decide)]
  ·rw[if_neg h1,if_neg h1,if_pos (by decide),Option.bind_some,if_pos (by decide)]
 ·unfold cQ
  rw[zZ,Option.bind_some,if_neg (by simpa using hl),xT _ ht hc hL,Option.bind_some,if_pos hin,if_neg (by decide),Yf hr hp hn,Option.bind_some]
  by_cases h1:n=2^L-1
  ·rw[if_pos (decide_eq_true h1),if_pos h1,yZ hL,Option.bind_some]
   by_cases h2:l.length=2^L-1
   ·rw[if_neg (by simpa using (by omega:(l.length:Int)=((2^L-1:Nat):Int))),if_pos h2]
    exact Ta hr h0 hs (Lp hl) h2
   ·rw[if_pos (by rw[decide_eq_true_eq];omega),if_neg h2]
  ·rw[if_neg (by simpa using h1),if_neg h1]
theorem Qo(l:List (Nat×Nat)){L:Nat}(hL:L≤8)(ts:List Nat)(s n:Nat):aR (unG l L ts s n).1 (unG l L ts s n).1=some true:=by
 have hp:=pow8 hL
 unfold unG unV
 split
 ·split
  ·split
   ·exact Ro _ (by rw[List.length_map,sJ,zG];omega)
   ·exact kD _ (by simp) (fun p hp=>by simp at hp)
  ·exact kD _ (by simp) (fun p hp=>by simp at hp)
 ·exact kD _ (by simp) (fun p hp=>by simp at hp)
theorem Uc(l:List (Nat×Nat))(L:Int)(t:List Int)(s:Int)(ht:t.length≤12):∃ x,cP l L t s=some x∧cQ l L t s=some x∧aR x.1 x.1=some true:=by
 by_cases h1:lE l=0
 ·by_cases h2:chk L t=0
  ·obtain⟨n,ts,rfl,rfl,hr⟩:=Xg ht h2
   have hL:=hr.most
   have hp:=pow8 hL
   obtain⟨m,hp,hm⟩:=Jk hr (s:=1) (by omega) (Bb hr)
   by_cases q:1≤s∧s≤((2^n-1:Nat):Int)
   ·obtain⟨s,rfl⟩:∃ m:Nat,s=m:=⟨s.toNat,by omega⟩
    obtain⟨e1,e2⟩:=Xp (s:=s) ht h1 h2 hr (by omega) (by omega) hp hm
    exact⟨_,e1,e2,Qo _ hL _ _ _⟩
   ·obtain⟨e1,e2⟩:=Ux s ht h1 h2 hL q
    exact⟨_,e1,e2,kD _ (by simp) (fun p hp=>by simp at hp)⟩
  ·exact⟨_,yH s ht (.inr h2),zP s ht (.inr h2),kD _ (by simp) (fun p hp=>by simp at hp)⟩
 ·exact⟨_,yH s ht (.inl h1),zP s ht (.inl h1),kD _ (by simp) (fun p hp=>by simp at hp)⟩
theorem Gc(l:List (Nat×Nat))(L:Int)(t:List Int)(s:Int):gN l L t s=some true:=by
 unfold gN
 obtain⟨b,hb⟩:=Sl l
 rw[hb,Option.bind_some]
 cases b with
 | false=>rw[if_neg (by decide)]
 | true =>
 have hl:l.length≤1026:=by have:=Nm hb;omega
 rw[if_pos rfl]
 by_cases h1:(t.length:Int)>12
 ·rw[if_pos (decide_eq_true h1)]
 rw[if_neg (by simpa using h1)]
 have ht:t.length≤12:=by omega
 obtain⟨⟨x1,x2⟩,e1,e2,e3⟩:=Uc l L t s ht
 simp only at e3
 rw[Mq l hl,Option.bind_some,Rd L t (by omega),Option.bind_some]
 simp only
 rw[e1,Option.bind_some]
 simp only[Option.bind_some]
 rw[e2]
 simp only[Option.bind_some]
 rw[e3]
 simp
end Go.Rex
namespace Go.Rex
open Go Go.ChangeShapes Go.WideShapes Go.ChangeAt Go.RowKit Go.Joins Go.Proofs
structure Arg(W:World)(v':Value)(p:TV)(bs:List Blk)(is:List Info)(av:Nat→Value):Prop where
 vr:∀(D:Nat→Prop) (m:NMap) n,(∀ j,j<bs.length→D (n+j))→(∀(j:Nat) i,is[j]?=some i→m (n+j)=i)→VR D m (av n) v'
 vl:∀(Fz:Nat→Prop) (h:List Blk) n,(∀ j,j<bs.length→Fz (n+j))→(∀(j:Nat) b,bs[j]?=some b→h[n+j]?=some b)→VL Fz h noL p (av n)
 ok:∀(D:Nat→Prop) (m:NMap) n,(∀ j,j<bs.length→D (n+j))→(∀(j:Nat) i,is[j]?=some i→m (n+j)=i)→∀(j:Nat) b,bs[j]?=some b→BlkOk D m W (n+j) b
 lt:∀(j:Nat) b i,bs[j]?=some b→is[j]?=some i→b ≠ .dead→i.block<W.heap.size
 len:is.length=bs.length
structure Args(W:World)(vs':List Value)(ps:List TV)(bs:List Blk)(is:List Info)(av:Nat→List Value):Prop where
 vr:∀(D:Nat→Prop) (m:NMap) n,(∀ j,j<bs.length→D (n+j))→(∀(j:Nat) i,is[j]?=some i→m (n+j)=i)→VRs D m (av n) vs'
 vl:∀(Fz:Nat→Prop) (h:List Blk) n,(∀ j,j<bs.length→Fz (n+j))→(∀(j:Nat) b,bs[j]?=some b→h[n+j]?=some b)→VLs Fz h noL ps (av n)
 ok:∀(D:Nat→Prop) (m:NMap) n,(∀ j,j<bs.length→D (n+j))→(∀(j:Nat) i,is[j]?=some i→m (n+j)=i)→∀(j:Nat) b,bs[j]?=some b→BlkOk D m W (n+j) b
 lt:∀(j:Nat) b i,bs[j]?=some b→is[j]?=some i→b ≠ .dead→i.block<W.heap.size
 len:is.length=bs.length
def nm(is:List Info):NMap:=fun n=>is.getD n ⟨0,0,0,0⟩
section
variable {W:World} {vs':List Value} {ps:List TV} {bs:List Blk} {is:List Info} {av:Nat→List Value}
end
theorem len1{α:Type}{l:List α}(h:l.length=1):∃ x0,l=[x0]:=by
 match l,h with
 | [x0],_=>exact⟨_,rfl⟩
theorem len2{α:Type}{l:List α}(h:l.length=2):∃ x0 x1,l=[x0,x1]:=by
 match l,h with
 | [x0,x1],_=>exact⟨_,_,rfl⟩
theorem len3{α:Type}{l:List α}(h:l.length=3):∃ x0 x1 x2,l=[x0,x1,x2]:=by
 match l,h with
 | [x0,x1,x2],_=>exact⟨_,_,_,rfl⟩
def Gz(c:Value):Prop:=oJ c=true∧∀ D m,VR D m c c
theorem wK(k:IntKind)(n:Int):Gz (.int k n):=⟨rfl,fun _ _=>.int _ _⟩
theorem Arg.atom{W:World}{v:Value}(h:Gz v):Arg W v (.v v) [] [] (fun _=>v) :=
 ⟨fun _ _ _ _ _=>h.2 _ _,fun _ _ _ _ _=>.v _ _ h.1,fun _ _ _ _ _ j b h=>by simp at h,fun j b i h=>by simp at h,rfl⟩
theorem Ak{α β:Type}{g:α→List β}{es:Nat}(hg:∀ x,(g x).length=es)(he:0<es):∀(xs:List α) i,(xs.flatMap g)[i]?=(xs[i/es]?).bind fun x=>(g x)[i%es]?
 | [],i=>by simp
 | x::t,i=>by
  rw[List.flatMap_cons]
  rcases Nat.lt_or_ge i es with h|h
  ·rw[List.getElem?_append_left (by rw[hg];exact h),Nat.div_eq_of_lt h,Nat.mod_eq_of_lt h]
   rfl
  ·rw[List.getElem?_append_right (by rw[hg];exact h),hg,Ak hg he t (i-es)]
   have e1:i/es=(i-es)/es+1:=by rw[Nat.div_eq_sub_div he h]
   have e2:i%es=(i-es)%es:=Nat.mod_eq_sub_mod h
   rw[e1,e2]
   rfl
theorem yN{α β:Type}{g:α→List β}{es:Nat}(hg:∀ x,(g x).length=es):∀(xs:List α),(xs.flatMap g).length=xs.length*es
 | []=>by simp
 | x::t=>by rw[List.flatMap_cons,List.length_append,hg,yN hg t,List.length_cons,Nat.add_mul];omega
theorem yG{α:Type}{f:α→List TV}{g:α→List Value}(hf:∀ x,f x=(g x).map .v):∀(xs:List α),(xs.map f).flatten=(xs.flatMap g).map .v
 | []=>rfl
 | x::t=>by rw[List.map_cons,List.flatten_cons,yG hf t,List.flatMap_cons,List.map_append,hf]
theorem xX{α:Type}{Q:Nat→α→Prop}:∀ n,(∀ i,i<n→∃ x,Q i x)→∃ xs:List α,xs.length=n∧∀(i:Nat) x,xs[i]?=some x→Q i x
 | 0,_=>⟨[],rfl,fun i x h=>by simp at h⟩
 | n+1,h=>by
  obtain⟨xs,hl,hq⟩:=xX n (fun i hi=>h i (by omega))
  obtain⟨x,hx⟩:=h n (by omega)
  refine⟨xs++[x],by simp[hl],fun i y hy=>?_⟩
  rcases Nat.lt_or_ge i n with hi|hi
  ·rw[List.getElem?_append_left (by omega)] at hy
   exact hq i y hy
  ·rw[List.getElem?_append_right (by omega),hl] at hy
   have:i=n:=by
    rcases Nat.lt_or_ge 0 (i-n) with g|g
    ·rw[List.getElem?_eq_none (by simp;omega)] at hy;cases hy
    ·omega
   subst this
   simp at hy
   subst hy
   exact hx
section
variable {H:Type} {enc:TypeId×Value→H} {W:World} {base:Nat} {spare:Nat→Bool} {held:Bool}
theorem zV{α:Type}{f:α→List TV}{g:α→List Value}{es:Nat}(he:0<es)(hf:∀ x, f x=(g x).map .v)(hg:∀ x, (g x).length=es)(hat:∀ x, ∀ c∈g x, Gz c)
 {P:Program} {t te:TypeId} (ht:P.underlying t=some (.slice te)) (hC:P.cellsOf te=es) {r:Reach} {b0:Nat} {v':Value} (hval:Cell.okWide P W r b0 t v')
 (elem:∀ n cs y,DataW.trod enc P W base spare held n te cs=some y→cs.length=es→∃ x:α,cs=g x)
 {fuel:Nat} {x:DataW H×List MemPlace} (h:DataW.trod enc P W base spare held fuel t [v']=some x):∃(xs:List α) (bs:List Blk) (is:List Info) (av:Nat→Value),Arg W v' (.list es (xs.map f)) bs is av:=by
 rcases DataW.trod_slice ht h with⟨hv,_⟩|⟨a,len,cap,elems,rest,n,_,hv,_,hb,hlc,hcm,hel,hel2,_,_⟩
 ·obtain rfl:v' = .slice none 0 0:=by simpa using hv
  exact⟨[],[],[],fun _=>.slice none 0 0,fun _ _ _ _ _=>.nilSlice 0 0,fun _ _ _ _ _=>.nillist _ _,fun _ _ _ _ _ j b h=>by simp at h,fun j b i h=>by simp at h,rfl⟩
 ·obtain rfl:v' = .slice (some a) len cap:=by simpa using hv
  have hok:len≤cap∧(cap:Int)≤IntKind.i64.max∧W.has P r b0 a te cap:=by
   unfold Cell.okWide at hval
   simp only[ht] at hval
   unfold Cell.ok at hval
   simpa only[ht] using hval
  obtain⟨gb,o,s⟩:=a
  obtain⟨_,_,_,hs,row,cells,hsh,_⟩:=hok
  simp only at hs hsh
  subst hs
  have hgb:gb<W.heap.size:=by
   unfold World.shape? at hsh
   rcases Nat.lt_or_ge gb W.heap.size with hg|hg
   ·exact hg
   ·rw[Array.getElem?_eq_none hg] at hsh
    simp at hsh
  have key:∀ i,i<len→∃ x:α,∀ j,j<es→W.cell? ⟨gb,o+i*es+j,none⟩=(g x)[j]?:=fun i hi=>by
   have h1:=hel2 i hi
   rw[List.getElem?_eq_getElem (by omega),Option.bind_eq_some_iff] at h1
   obtain⟨cs,hcs,htr⟩:=h1
   rw[hC] at hcs
   unfold World.cells? at hcs
   split at hcs
   ·have hlen:=mapM_some_length hcs
    simp at hlen
    obtain⟨x,rfl⟩:=elem n cs _ htr hlen
    refine⟨x,fun j hj=>?_⟩
    have:=mapM_some_get hcs j j (by simp[hj])
    have e:((⟨gb,o,none⟩:Addr).add (i*es)).add j=⟨gb,o+i*es+j,none⟩:=by
     unfold Addr.add
     split<;>split<;>simp_all
    rw[← e]
    exact this
   ·cases hcs
  obtain⟨xs,hl,hq⟩:=xX len key
  subst hl
  have hlen:=yN hg xs
  have hfl:=yG hf xs
  refine⟨xs,[.cells es (xs.flatMap g)],[⟨gb,o,cap*es,es⟩],fun n=>.slice (some ⟨n,0,none⟩) xs.length xs.length,fun D m n hD hm=>?_,fun Fz h n hF hh=>?_,fun D m n hD hm j b hb=>?_,fun j b i hb hi hd=>?_,rfl⟩
  ·have e:=hm 0 _ rfl
   rw[Nat.add_zero] at e
   have:=VR.slice (D:=D) (m:=m) n 0 xs.length xs.length cap (hD 0 (by simp)) (Nat.le_refl _) hlc (.inr (by rw[e];simp))
   rw[e] at this
   exact this
  ·have hw:∀ r∈xs.map f,r.length=es:=fun r hr=>by obtain⟨x,_,rfl⟩:=List.mem_map.1 hr;rw[hf,List.length_map,hg]
   have:=VL.list (Fz:=Fz) (h:=h) noL es (xs.map f) n 0 xs.length (xs.flatMap g) es (hF 0 (by simp)) (hh 0 _ rfl) (.inl rfl) hw (by simp) (by rw[List.length_map,hlen];omega) (fun j p x hp hx=>by
    rw[hfl,List.getElem?_map,Option.map_eq_some_iff] at hp
    rw[Nat.zero_add] at hx
    obtain⟨y,h1,rfl⟩:=hp
    obtain rfl:y=x:=Option.some.inj (h1.symm.trans hx)
    obtain⟨z,_,hz⟩:=List.mem_flatMap.1 (List.mem_of_getElem? hx)
    exact .v _ _ (hat z y hz).1)
   rw[List.length_map] at this
   exact this
  ·match j,hb with
   | 0,hb =>
    obtain rfl:=Option.some.inj hb
    have e:=hm 0 _ rfl
    rw[Nat.add_zero] at e ⊢
    refine⟨by rw[e],fun i v hv=>⟨v,?_,?_⟩⟩
    ·rw[Ak hg he,Option.bind_eq_some_iff] at hv
     obtain⟨x,hx,hv⟩:=hv
     rw[e]
     have:=hq _ x hx (i%es) (Nat.mod_lt _ he)
     rw[Nat.add_assoc,Nat.mul_comm,Nat.div_add_mod] at this
     rw[this]
     exact hv
    ·obtain⟨z,_,hz⟩:=List.mem_flatMap.1 (List.mem_of_getElem? hv)
     exact (hat z v hz).2 _ _
   | j+1,hb=>simp at hb
  ·match j,hb,hi with
   | 0, hb, hi => obtain rfl := Option.some.inj hi
                  exact hgb
   | j+1,hb,hi=>simp at hb
theorem Mx{α:Type}{f:α→List TV}{g:α→List Value}{es:Nat}(he:0<es)(hf:∀ x, f x=(g x).map .v)(hg:∀ x, (g x).length=es)(hat:∀ x, ∀ c∈g x, Gz c)
 {P:Program} {t te:TypeId} (ht:P.underlying t=some (.slice te)) (hC:P.cellsOf te=es) {r:Reach} {b0:Nat} {v':Value} (hval:Value.okWide P W r b0 t v')
 (elem:∀ n cs y,DataW.trod enc P W base spare held n te cs=some y→cs.length=es→∃ x:α,cs=g x)
 {fuel:Nat} {x:DataW H×List MemPlace} (h:DataW.trod enc P W base spare held fuel t [v']=some x):∃(xs:List α) (bs:List Blk) (is:List Info) (av:Nat→Value),Arg W v' (.list es (xs.map f)) bs is av:=by
 refine zV he hf hg hat ht hC (r:=r) (b0:=b0) ?_ elem h
 unfold Value.okWide at hval
 simpa only[ht] using hval
def AI(cs:List Value):Prop:=∀ c∈cs,∃ n:Int,c = .int .i64 n
theorem AI.list{cs:List Value}(h:AI cs):∃ l:List Int,cs=l.map (.int .i64):=by
 induction cs with
 | nil=>exact⟨[],rfl⟩
 | cons c t ih =>
  obtain⟨n,rfl⟩:=h c (by simp)
  obtain⟨l,rfl⟩:=ih fun c hc=>h c (by simp[hc])
  exact⟨n::l,rfl⟩
variable {P:Program}
theorem Vk{te:TypeId}(ht:P.underlying te=some (.int .i64)){fuel:Nat}{cs:List Value}{x:DataW H×List MemPlace}(h:DataW.trod enc P W base spare held fuel te cs=some x):AI cs:=by
 obtain⟨n,rfl,_⟩:=DataW.trod_int ht h
 exact fun c hc=>⟨n,by simpa using hc⟩
theorem Mi{t:TypeId}(ht:P.underlying t=some (.int .i64)){r:Reach}{b:Nat}{v:Value}(w:Cell.okWide P W r b t v):∃ n:Int,v = .int .i64 n:=by
 unfold Cell.okWide at w
 simp only[ht] at w
 unfold Cell.ok at w
 simp only[ht] at w
 cases v<;>first|exact⟨_,by rw[w.1]⟩|exact absurd w (by simp)
theorem Kn{t:TypeId}{fs:Array Field}{ts:List TypeId}(ht:P.underlying t=some (.struct fs))(hct:P.cellTypes P.depth t=some ts)(hn:P.cellsOf t=ts.length){r:Reach}{b:Nat}{v:Value}(w:Value.okWide P W r b t v) :
 ∃ cs:List Value,v = .agg ⟨cs⟩∧cs.length=ts.length∧∀(j:Nat) c u,cs[j]?=some c→ts[j]?=some u→Cell.okWide P W r b u c:=by
 unfold Value.okWide at w
 simp only[ht] at w
 obtain⟨cs,rfl,hs,ts',hts,_,hc⟩:=w
 rw[hct] at hts
 obtain rfl:=Option.some.inj hts
 obtain⟨l⟩:=cs
 have hl:l.length=ts.length:=by simpa [hn] using hs
 refine⟨l,rfl,hl,fun j c u hj hu=>?_⟩
 obtain⟨u',hu',hok⟩:=hc j c (by simpa using hj)
 rw[Nat.mod_eq_of_lt (by have:=(List.getElem?_eq_some_iff.1 hj).1;omega)] at hu'
 obtain rfl:=Option.some.inj (hu.symm.trans hu')
 exact hok
theorem Je{t:TypeId}{fs:Array Field}{i:Nat}{f:Field}(ht:P.underlying t=some (.struct fs))(hf:fs[i]?=some f){fuel:Nat}{cs:List Value}{x:DataW H×List MemPlace}(h:DataW.trod enc P W base spare held fuel t cs=some x) :
 ∃ n y,DataW.trod enc P W base spare held n f.type ((cs.drop f.offset).take (P.cellsOf f.type))=some y:=by
 obtain⟨xs,n,_,_,hl,hx,hi⟩:=DataW.trod_struct ht h
 have:=hi i f hf
 have hil:i<fs.size:=(Array.getElem?_eq_some_iff.1 hf).1
 rw[List.getElem?_eq_getElem (by omega)] at this
 exact⟨n,_,this⟩
end
end Go.Rex
namespace Go.Rex
open Go Go.ChangeShapes Go.WideShapes Go.ChangeAt Go.RowKit Go.Joins Go.Proofs
structure NArg(W:World)(v':Value)(p:TV)(bs:Nat→List Blk)(is:List Info)(av:Nat→Value):Prop where
 vr:∀(D:Nat→Prop) (m:NMap) n,(∀ j,j<is.length→D (n+j))→(∀(j:Nat) i,is[j]?=some i→m (n+j)=i)→VR D m (av n) v'
 vl:∀(Fz:Nat→Prop) (h:List Blk) n,(∀ j,j<is.length→Fz (n+j))→(∀(j:Nat) b,(bs n)[j]?=some b→h[n+j]?=some b)→VL Fz h noL p (av n)
 ok:∀(D:Nat→Prop) (m:NMap) n,(∀ j,j<is.length→D (n+j))→(∀(j:Nat) i,is[j]?=some i→m (n+j)=i)→∀(j:Nat) b,(bs n)[j]?=some b→BlkOk D m W (n+j) b
 lt:∀ n (j:Nat) b i,(bs n)[j]?=some b→is[j]?=some i→b ≠ .dead→i.block<W.heap.size
 len:∀ n,(bs n).length=is.length
structure NArgs(W:World)(vs':List Value)(ps:List TV)(bs:Nat→List Blk)(is:List Info)(av:Nat→List Value):Prop where
 vr:∀(D:Nat→Prop) (m:NMap) n,(∀ j,j<is.length→D (n+j))→(∀(j:Nat) i,is[j]?=some i→m (n+j)=i)→VRs D m (av n) vs'
 vl:∀(Fz:Nat→Prop) (h:List Blk) n,(∀ j,j<is.length→Fz (n+j))→(∀(j:Nat) b,(bs n)[j]?=some b→h[n+j]?=some b)→VLs Fz h noL ps (av n)
 ok:∀(D:Nat→Prop) (m:NMap) n,(∀ j,j<is.length→D (n+j))→(∀(j:Nat) i,is[j]?=some i→m (n+j)=i)→∀(j:Nat) b,(bs n)[j]?=some b→BlkOk D m W (n+j) b
 lt:∀ n (j:Nat) b i,(bs n)[j]?=some b→is[j]?=some i→b ≠ .dead→i.block<W.heap.size
 len:∀ n,(bs n).length=is.length
theorem Arg.n{W:World}{v':Value}{p:TV}{bs:List Blk}{is:List Info}{av:Nat→Value}(a:Arg W v' p bs is av):NArg W v' p (fun _=>bs) is av :=
 ⟨fun D m n hD hm=>a.vr D m n (by rw[← a.len];exact hD) hm,fun Fz h n hF hh=>a.vl Fz h n (by rw[← a.len];exact hF) hh,fun D m n hD hm=>a.ok D m n (by rw[← a.len];exact hD) hm,fun _=>a.lt,fun _=>a.len.symm⟩
theorem NArgs.nil(W:World):NArgs W [] [] (fun _=>[]) [] (fun _=>[]) :=
 ⟨fun _ _ _ _ _=>⟨rfl,fun i a a' h=>by simp at h⟩,fun _ _ _ _ _=>.nil,fun _ _ _ _ _ j b h=>by simp at h,fun _ j b i h=>by simp at h,fun _=>rfl⟩
theorem NArgs.cons{W:World}{v':Value}{p:TV}{bs bs2:Nat→List Blk}{is is2:List Info}{av:Nat→Value}{vs':List Value}{ps:List TV}{avs:Nat→List Value}
 (a:NArg W v' p bs is av) (az:NArgs W vs' ps bs2 is2 avs):NArgs W (v'::vs') (p::ps) (fun n=>bs n++bs2 (n+is.length)) (is++is2) (fun n=>av n::avs (n+is.length)):=by
 have cD:∀(D:Nat→Prop) n,(∀ j,j<(is++is2).length→D (n+j))→(∀ j,j<is.length→D (n+j))∧(∀ j,j<is2.length→D (n+is.length+j)):=by
  intro D n h
  refine⟨fun j hj=>h j (by simp;omega),fun j hj=>?_⟩
  have:=h (is.length+j) (by simp;omega)
  rwa [← Nat.add_assoc] at this
 have cI:∀(m:NMap) n,(∀(j:Nat) i,(is++is2)[j]?=some i→m (n+j)=i)→(∀(j:Nat) i,is[j]?=some i→m (n+j)=i)∧(∀(j:Nat) i,is2[j]?=some i→m (n+is.length+j)=i):=by
  intro m n h
  refine⟨fun j i hj=>h j i (by rw[List.getElem?_append_left (List.getElem?_eq_some_iff.1 hj).1];exact hj),fun j i hj=>?_⟩
  have:=h (is.length+j) i (by rw[List.getElem?_append_right (by omega),Nat.add_sub_cancel_left];exact hj)
  rwa [← Nat.add_assoc] at this
 refine⟨fun D m n hD hm=>?_,fun Fz h n hF hh=>?_,fun D m n hD hm j b hb=>?_,fun n j b i hb hi hd=>?_,fun n=>by simp[a.len,az.len]⟩
 ·have h1:=a.vr D m n (cD D n hD).1 (cI m n hm).1
  have h2:=az.vr D m (n+is.length) (cD D n hD).2 (cI m n hm).2
  refine⟨by simp[h2.len],fun i x x' hx hx'=>?_⟩
  cases i with
  | zero=>simp at hx hx';subst hx hx';exact h1
  | succ i=>simp at hx hx';exact h2.at' i x x' hx hx'
 ·refine .cons (a.vl Fz h n (cD Fz n hF).1 fun j b hb=>hh j b (by rw[List.getElem?_append_left (List.getElem?_eq_some_iff.1 hb).1];exact hb)) (az.vl Fz h (n+is.length) (cD Fz n hF).2 fun j b hb=>?_)
  have:=hh (is.length+j) b (by rw[List.getElem?_append_right (by rw[a.len];omega),a.len,Nat.add_sub_cancel_left];exact hb)
  rwa [← Nat.add_assoc] at this
 ·rcases Nat.lt_or_ge j is.length with hj|hj
  ·rw[List.getElem?_append_left (by rw[a.len];exact hj)] at hb
   exact a.ok D m n (cD D n hD).1 (cI m n hm).1 j b hb
  ·rw[List.getElem?_append_right (by rw[a.len];exact hj),a.len] at hb
   have:=az.ok D m (n+is.length) (cD D n hD).2 (cI m n hm).2 _ b hb
   rwa [show n+is.length+(j-is.length)=n+j by omega] at this
 ·rcases Nat.lt_or_ge j is.length with hj|hj
  ·rw[List.getElem?_append_left (by rw[a.len];exact hj)] at hb
   rw[List.getElem?_append_left hj] at hi
   exact a.lt n j b i hb hi hd
  ·rw[List.getElem?_append_right (by rw[a.len];exact hj),a.len] at hb
   rw[List.getElem?_append_right hj] at hi
   exact az.lt _ _ b i hb hi hd
section
variable {W:World} {vs':List Value} {ps:List TV} {bs:Nat→List Blk} {is:List Info} {av:Nat→List Value}
def gnm(is:List Info):NMap:=fun k=>if k<NG then gm k else is.getD (k-NG) ⟨0,0,0,0⟩
theorem Ky{is:List Info}{j:Nat}{i:Info}(h:is[j]?=some i):gnm is (NG+j)=i:=by
 unfold gnm
 rw[if_neg (by omega),Nat.add_sub_cancel_left,List.getD_eq_getElem?_getD,h]
 rfl
theorem xK:GH.length=NG:=rfl
theorem NArgs.rel(a:NArgs W vs' ps bs is av)(hw:GW W)(hs:NG≤W.heap.size):Rel W.heap.size (GH++bs NG).length (fun k=>k<(GH++bs NG).length) (gnm is) (GH++bs NG) W:=by
 have hl:=a.len NG
 have hn:(GH++bs NG).length=NG+is.length:=by rw[List.length_append,xK,hl]
 have old:∀ k,k<NG→gnm is k=gm k:=fun k hk=>if_pos hk
 have parts:∀ n b,n<(GH++bs NG).length→(GH++bs NG)[n]?=some b→(n<NG∧GH[n]?=some b)∨∃ j,n=NG+j∧(bs NG)[j]?=some b:=by
  intro n b hn' hb
  rcases Nat.lt_or_ge n NG with h|h
  ·rw[List.getElem?_append_left h] at hb;exact .inl ⟨h,hb⟩
  ·rw[List.getElem?_append_right h,xK] at hb;exact .inr ⟨n-NG,by omega,hb⟩
 have st:=Rel.start W hw hs
 have lt:∀ n b,n<(GH++bs NG).length→(GH++bs NG)[n]?=some b→b ≠ .dead→(gnm is n).block<W.heap.size:=by
  intro n b hn' hb hd
  rcases parts n b hn' hb with⟨h1,h2⟩|⟨j,rfl,h2⟩
  ·rw[old n h1];exact st.lt n b h1 h2 hd
  ·have hj:j<is.length:=by omega
   rw[Ky (List.getElem?_eq_getElem hj)]
   exact a.lt NG j b _ h2 (List.getElem?_eq_getElem hj) hd
 refine⟨Nat.le_refl _,fun _ h=>h,fun n b hn' hb=>?_,lt,fun n b hD hl=>absurd hD (by omega),fun n b hn' _ hb hd=>lt n b hn' hb hd,fun n b hD hl=>absurd hD (by omega),fun n n' b b' hD _ hl=>absurd hD (by omega),⟨fun g hg=>⟨?_,?_⟩,hs,hw⟩⟩
 ·rcases parts n b hn' hb with⟨h1,h2⟩|⟨j,rfl,h2⟩
  ·exact (st.ok n b h1 h2).mono (fun k hk=>by have hk':k<NG:=hk;show k<(GH++bs NG).length;omega) (fun k hk=>old k hk) (old n h1)
  ·exact a.ok (fun k=>k<(GH++bs NG).length) (gnm is) NG (fun j hj=>by omega) (fun j i hi=>Ky hi) j b h2
 ·show g<(GH++bs NG).length;omega
 ·rw[old g hg];exact Cx g
theorem NArgs.vls(a:NArgs W vs' ps bs is av):VLs (fun k=>k<(GH++bs NG).length) (GH++bs NG) noL ps (av NG):=by
 have hn:(GH++bs NG).length=NG+is.length:=by rw[List.length_append,xK,a.len NG]
 exact a.vl _ _ NG (fun j hj=>by omega) (fun j b hb=>by rw[List.getElem?_append_right (by rw[xK];omega),xK,Nat.add_sub_cancel_left];exact hb)
theorem NArgs.fz(_a:NArgs W vs' ps bs is av):FZ (fun k=>k<(GH++bs NG).length) (GH++bs NG) :=
 ⟨fun _ h=>h,fun g hg=>by
  have h1:g<GH.length:=hg
  exact⟨by rw[List.length_append];omega,List.getElem?_append_left h1⟩⟩
theorem NArgs.vrs(a:NArgs W vs' ps bs is av):VRs (fun k=>k<(GH++bs NG).length) (gnm is) (av NG) vs':=by
 have hn:(GH++bs NG).length=NG+is.length:=by rw[List.length_append,xK,a.len NG]
 exact a.vr _ _ NG (fun j hj=>by omega) (fun j i hi=>Ky hi)
theorem NArg.ofArgs(a:NArgs W vs' ps bs is av):NArg W (.agg ⟨vs'⟩) (.agg ps) bs is (fun n=>.agg ⟨av n⟩) :=
 ⟨fun D m n hD hm=>.agg' (a.vr D m n hD hm),fun Fz h n hF hh=>.agg' (a.vl Fz h n hF hh),a.ok,a.lt,a.len⟩
end
section
variable {H:Type} {enc:TypeId×Value→H} {W:World} {base:Nat} {spare:Nat→Bool} {held:Bool}
end
section
variable {H:Type} {enc:TypeId×Value→H} {W:World} {base:Nat} {spare:Nat→Bool} {held:Bool}
end
theorem Gp(k:FloatKind)(b:Nat):Gz (.float k b):=⟨rfl,fun _ _=>.float _ _ _ .refl⟩
theorem Kt{H:Type}{enc:TypeId×Value→H}{P:Program}{w:World}{base:Nat}{spare:Nat→Bool}{held:Bool}{fuel:Nat}{t:TypeId}{cs:List Value}{x:DataW H×List MemPlace}{k:FloatKind}(ht:P.underlying t=some (.float k))(h:DataW.trod enc P w base spare held fuel t cs=some x):∃ b,cs=[.float k b]:=by
 cases fuel with
 | zero=>simp[DataW.trod] at h
 | succ n =>
  unfold DataW.trod at h
  rw[ht] at h
  split at h<;>simp_all
section
variable {H:Type} {enc:TypeId×Value→H} {W:World} {base:Nat} {spare:Nat→Bool} {held:Bool} {P:Program} {k0:FloatKind}
def AF(k0:FloatKind)(cs:List Value):Prop:=∀ c∈cs,∃ b:Nat,c = .float k0 b
theorem AF.list{cs:List Value}(h:AF k0 cs):∃ l:List Nat,cs=l.map (.float k0):=by
 induction cs with
 | nil=>exact⟨[],rfl⟩
 | cons c t ih =>
  obtain⟨n,rfl⟩:=h c (by simp)
  obtain⟨l,rfl⟩:=ih fun c hc=>h c (by simp[hc])
  exact⟨n::l,rfl⟩
theorem Qb{te:TypeId}(ht:P.underlying te=some (.float k0)){fuel:Nat}{cs:List Value}{x:DataW H×List MemPlace}(h:DataW.trod enc P W base spare held fuel te cs=some x):AF k0 cs:=by
 obtain⟨n,rfl⟩:=Kt ht h
 exact fun c hc=>⟨n,by simpa using hc⟩
theorem Un{t e:TypeId}{m k:Nat}(ht:P.underlying t=some (.array m e))(hk:P.cellsOf e=k)(hk0:0<k)(hc:P.cellsOf t=m*k)(he:∀ n cs y, DataW.trod enc P W base spare held n e cs=some y→AF k0 cs)
 {fuel:Nat} {cs:List Value} {x:DataW H×List MemPlace} (h:DataW.trod enc P W base spare held fuel t cs=some x):AF k0 cs:=by
 obtain⟨xs,n,_,_,hl,hx,hi⟩:=DataW.trod_array ht h
 intro c hcm
 obtain⟨j,hj,rfl⟩:=List.mem_iff_getElem.1 hcm
 rw[hl,hc] at hj
 have hd:j/k<m:=(Nat.div_lt_iff_lt_mul hk0).2 hj
 have h1:=hi _ hd
 rw[List.getElem?_eq_getElem (by omega),hk] at h1
 refine he _ _ _ h1 _ ?_
 refine List.mem_of_getElem? (i:=j%k) ?_
 rw[List.getElem?_take,if_pos (Nat.mod_lt _ hk0),List.getElem?_drop,Nat.mul_comm,Nat.div_add_mod,List.getElem?_eq_getElem]
end
end Go.Rex
