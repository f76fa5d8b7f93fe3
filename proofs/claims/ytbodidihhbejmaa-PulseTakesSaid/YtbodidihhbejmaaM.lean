/- What these functions return: facts on lists and numbers. -/
import Derived.Test.YtbodidihhbejmaaRexG9
import Derived.Test.YtbodidihhbejmaaS
import Derived.ProofKit
import Derived.OpenShut
import Derived.ShutString
import Derived.ChangeOld
import Derived.Below
import Derived.Lib.SmallJoins
import Derived.ChangeShapes
import Derived.ChangeArms
import Derived.WideShapes
set_option linter.unusedSimpArgs false
set_option linter.unusedVariables false
set_option linter.defProp false
set_option linter.unusedSectionVars false
namespace Go.Rex
open Go.RowKit
structure FOk(f:Ieee.Format)(q:Nat):Prop where
 lp:f.leastPlace = -(q:Int)
 le:f.fractionBits+1≤q
 inf:(q+2)*f.binade≤f.infRung
 sgn:f.infRung<f.signWeight
def fq:FloatKind→Nat
 | .f32=>149
 | .f64=>1074
def fb:FloatKind→Nat
 | .f32=>23
 | .f64=>52
theorem fok(k:FloatKind):FOk k.format (fq k):=by
 cases k<;>exact⟨by decide,by decide,by decide +kernel,by decide +kernel⟩
theorem Nz(k:FloatKind):k.format.fractionBits=fb k:=by cases k<;>rfl
theorem Ax(n:Nat)(neg:Bool):Ieee.Toward.cut .even neg n 0=n:=by
 simp[Ieee.Toward.cut,Nat.mod_one]
theorem shl(m s:Nat):m <<< s=m*2^s:=Nat.shiftLeft_eq m s
theorem uL{m:Nat}(hm:m≠0)(s:Nat):(m*2^s).log2=m.log2+s:=by
 rw[Nat.log2_eq_iff (by have:=Nat.two_pow_pos s;exact Nat.mul_ne_zero hm (by omega))]
 have h1:=(Nat.log2_eq_iff hm).1 rfl
 constructor
 ·rw[Nat.pow_add];exact Nat.mul_le_mul_right _ h1.1
 ·rw[show m.log2+s+1=m.log2+1+s by omega,Nat.pow_add];exact Nat.mul_lt_mul_of_pos_right h1.2 (Nat.two_pow_pos s)
theorem gY{m:Nat}(hm:m≠0)(neg:Bool){s d:Nat}(hd:d≤s)(way:Ieee.Toward):way.cut neg (m*2^s) d=m*2^(s-d):=by
 have hg:min d ((m*2^s).log2+2)=d:=by rw[uL hm];omega
 have e:m*2^s=2^d*(m*2^(s-d)):=by
  rw[Nat.mul_comm (2^d),Nat.mul_assoc,← Nat.pow_add,Nat.sub_add_cancel hd]
 have hp:=Nat.two_pow_pos d
 unfold Ieee.Toward.cut
 rw[hg,shl,Nat.one_mul,e]
 dsimp only
 rw[Nat.mul_div_cancel_left _ hp,Nat.mul_mod_right]
 have:(2^d==0)=false:=by simp
 cases way<;>simp[this]
theorem pW(neg:Bool){d:Nat}(way:Ieee.Toward):way.cut neg 0 d=0:=by
 unfold Ieee.Toward.cut
 have hp:0<1 <<< min d ((0:Nat).log2+2):=by rw[shl,Nat.one_mul];exact Nat.two_pow_pos _
 have:(1 <<< min d ((0:Nat).log2+2)==0)=false:=by rw[beq_eq_false_iff_ne];omega
 cases way<;>simp[this]
theorem log2_lt{m b:Nat}(hm:m≠0)(h:m<2^(b+1)):m.log2≤b:=by
 have:=(Nat.log2_lt hm).2 h
 omega
theorem Bq{f:Ieee.Format}{q:Nat}(ok:FOk f q){m:Nat}(hm:m≠0)(hl:m<2^(f.fractionBits+1))(neg:Bool)(s:Nat) :
 f.nearest neg (m*2^s) (-(s:Int))=f.word neg ((q+m.log2-f.fractionBits)*f.binade+m*2^(f.fractionBits-m.log2)):=by
 have hL:=log2_lt hm hl
 have hle:=ok.le
 unfold Ieee.Format.nearest
 rw[if_neg (by have:=Nat.two_pow_pos s;exact Nat.mul_ne_zero hm (by omega)),uL hm,ok.lp]
 have e1:max (-(s:Int)+((m.log2+s:Nat):Int)-(f.fractionBits:Int)) (-(q:Int))=(m.log2:Int)-f.fractionBits:=by omega
 rw[e1]
 have kept:Ieee.Toward.even.cut neg ((m*2^s) <<< (-(s:Int)-((m.log2:Int)-f.fractionBits)).toNat) ((m.log2:Int)-f.fractionBits - -(s:Int)).toNat=m*2^(f.fractionBits-m.log2):=by
  rcases Nat.lt_or_ge (f.fractionBits-m.log2) s with h|h
  ·have a1:(-(s:Int)-((m.log2:Int)-f.fractionBits)).toNat=0:=by omega
   rw[a1,shl,Nat.pow_zero,Nat.mul_one,gY hm neg (by omega)]
   congr 2;omega
  ·have a1:(-(s:Int)-((m.log2:Int)-f.fractionBits)).toNat=f.fractionBits-m.log2-s:=by omega
   have a2:((m.log2:Int)-f.fractionBits - -(s:Int)).toNat=0:=by omega
   rw[a1,a2,Ax,shl,Nat.mul_assoc,← Nat.pow_add]
   congr 2;omega
 dsimp only
 rw[kept]
 have a3:((m.log2:Int)-f.fractionBits - -(q:Int)).toNat=q+m.log2-f.fractionBits:=by omega
 rw[a3]
 have hk:m*2^(f.fractionBits-m.log2)<2*f.binade:=by
  have h1:=(Nat.log2_eq_iff hm).1 rfl
  have h2:=Nat.mul_lt_mul_of_pos_right h1.2 (Nat.two_pow_pos (f.fractionBits-m.log2))
  rw[← Nat.pow_add] at h2
  rw[show m.log2+1+(f.fractionBits-m.log2)=f.fractionBits+1 by omega] at h2
  unfold Ieee.Format.binade
  rw[Nat.pow_succ] at h2
  omega
 have hi:=ok.inf
 have hq:(q+m.log2-f.fractionBits)*f.binade≤q*f.binade:=Nat.mul_le_mul_right _ (by omega)
 rw[Nat.add_mul] at hi
 rw[Nat.min_eq_left (by omega)]
def digs(f:Ieee.Format)(q m:Nat):Nat:=if m=0 then q else f.fractionBits-m.log2
theorem Gb{f:Ieee.Format}{q:Nat}(ok:FOk f q){m:Nat}(hl:m<2^(f.fractionBits+1))(neg:Bool):f.read (f.nearest neg m 0) = .number neg (m*2^digs f q m) (-(digs f q m:Int)):=by
 have hle:=ok.le
 have hsg:=ok.sgn
 have hinf:=ok.inf
 have hbp:0<f.binade:=Nat.two_pow_pos _
 have wd:∀ r,r<f.signWeight→(f.word neg r/f.signWeight%2==1)=neg∧f.word neg r%f.signWeight=r:=by
  intro r hr
  unfold Ieee.Format.word
  cases neg
  ·simp[Nat.div_eq_of_lt hr,Nat.mod_eq_of_lt hr]
  ·have hs:0<f.signWeight:=by omega
   simp only[if_true]
   rw[Nat.add_div_left _ hs,Nat.div_eq_of_lt hr,Nat.add_mod_left,Nat.mod_eq_of_lt hr]
   simp
 rw[Nat.add_mul] at hinf
 have hq0:2*f.binade≤f.infRung:=by omega
 by_cases hm:m=0
 ·subst hm
  have:f.nearest neg 0 0=f.word neg 0:=by unfold Ieee.Format.nearest;simp
  rw[this]
  unfold Ieee.Format.read
  simp only[(wd 0 (by omega)).1,(wd 0 (by omega)).2]
  rw[if_pos hbp,ok.lp]
  simp[digs]
 ·have h0:=Bq ok hm hl neg 0
  simp only[Nat.pow_zero,Nat.mul_one,Int.natCast_zero,Int.neg_zero] at h0
  rw[h0]
  have hL:=log2_lt hm hl
  have h1:=(Nat.log2_eq_iff hm).1 rfl
  have hk:m*2^(f.fractionBits-m.log2)<2*f.binade:=by
   have h2:=Nat.mul_lt_mul_of_pos_right h1.2 (Nat.two_pow_pos (f.fractionBits-m.log2))
   rw[← Nat.pow_add] at h2
   rw[show m.log2+1+(f.fractionBits-m.log2)=f.fractionBits+1 by omega] at h2
   unfold Ieee.Format.binade
   rw[Nat.pow_succ] at h2
   omega
  have hk2:f.binade≤m*2^(f.fractionBits-m.log2):=by
   have h2:=Nat.mul_le_mul_right (2^(f.fractionBits-m.log2)) h1.1
   rw[← Nat.pow_add] at h2
   rw[show m.log2+(f.fractionBits-m.log2)=f.fractionBits by omega] at h2
   exact h2
  generalize hK:m*2^(f.fractionBits-m.log2)=K at *
  obtain⟨j,hj⟩:∃ j,K=f.binade+j:=⟨K-f.binade,by omega⟩
  subst hj
  have hjb:j<f.binade:=by omega
  have hq:(q+m.log2-f.fractionBits)*f.binade≤q*f.binade:=Nat.mul_le_mul_right _ (by omega)
  have hr:(q+m.log2-f.fractionBits)*f.binade+(f.binade+j)<f.infRung:=by omega
  have hrs:(q+m.log2-f.fractionBits)*f.binade+(f.binade+j)<f.signWeight:=by omega
  unfold Ieee.Format.read
  simp only[(wd _ hrs).1,(wd _ hrs).2]
  rw[if_neg (by omega),if_pos hr]
  have e1:(q+m.log2-f.fractionBits)*f.binade+(f.binade+j)=f.binade*(q+m.log2-f.fractionBits+1)+j:=by
   rw[Nat.mul_add,Nat.mul_comm];omega
  rw[e1,Nat.mul_add_mod,Nat.mod_eq_of_lt hjb,Nat.mul_add_div hbp,Nat.div_eq_of_lt hjb,ok.lp]
  unfold digs
  rw[if_neg hm,hK]
  congr 1
  omega
def sg(s:Bool)(m:Nat):Int:=if s then -(m:Int) else m
theorem oV(s:Bool)(m u:Nat):Ieee.signed s m u=sg s m*2^u:=by
 unfold Ieee.signed sg
 rw[shl]
 cases s<;>simp[Int.neg_mul]
def fz(k:FloatKind)(s:Bool)(m:Nat):Nat:=k.encode (.number s m 0)
def ffit(k:FloatKind)(m:Nat):Prop:=m<2^(fb k+1)
def dg(k:FloatKind)(m:Nat):Nat:=digs k.format (fq k) m
theorem Lo{k:FloatKind}{s:Bool}{m:Nat}(h:ffit k m):k.format.read (fz k s m) = .number s (m*2^dg k m) (-(dg k m:Int)):=
 Gb (fok k) (by rw[Nz];exact h) s
theorem Di(s:Bool)(m n:Nat):sg s (m*n)=sg s m*n:=by cases s<;>simp[sg,Int.neg_mul]
theorem pZ(s:Bool)(m:Nat):(sg s m).natAbs=m:=by cases s<;>simp[sg]
theorem Nj{op:BinOp}{k:FloatKind}{a b r:Nat}(h:farith0 op k a b=some r):farith op k a b=some r:=by
 unfold farith arN
 rw[h]
 rfl
end Go.Rex
open Go Go.Rex
namespace Go.Rex
set_option maxRecDepth 100000
theorem dbl:Ieee.double.fractionBits=52∧Ieee.double.leastPlace = -1074∧Ieee.double.binade=2^52∧Ieee.double.infRung=2047*Ieee.double.binade∧Ieee.double.signWeight=2048*Ieee.double.binade:=by decide +kernel
theorem yM{m:Nat}(hm:m≠0)(hl:m<2^53)(neg:Bool)(a:Nat){e p:Int}(hp:p=e-a)(h1:-1074≤e+m.log2-52)(h2:e+m.log2≤1023) :
 Ieee.double.nearest neg (m*2^a) p=Ieee.double.word neg ((1074+e+m.log2-52).toNat*Ieee.double.binade+m*2^(52-m.log2)):=by
 subst hp
 have hL:=log2_lt hm hl
 unfold Ieee.Format.nearest
 rw[if_neg (by have:=Nat.two_pow_pos a;exact Nat.mul_ne_zero hm (by omega)),uL hm,dbl.1,dbl.2.1]
 have e1:max (e-(a:Int)+((m.log2+a:Nat):Int)-((52:Nat):Int)) (-1074)=e+(m.log2:Int)-52:=by omega
 rw[e1]
 have kept:Ieee.Toward.even.cut neg ((m*2^a) <<< (e-(a:Int)-(e+(m.log2:Int)-52)).toNat) (e+(m.log2:Int)-52-(e-(a:Int))).toNat=m*2^(52-m.log2):=by
  rcases Nat.lt_or_ge (52-m.log2) a with h|h
  ·have a1:(e-(a:Int)-(e+(m.log2:Int)-52)).toNat=0:=by omega
   rw[a1,shl,Nat.pow_zero,Nat.mul_one,gY hm neg (by omega)]
   congr 2;omega
  ·have a1:(e-(a:Int)-(e+(m.log2:Int)-52)).toNat=52-m.log2-a:=by omega
   have a2:(e+(m.log2:Int)-52-(e-(a:Int))).toNat=0:=by omega
   rw[a1,a2,Ax,shl,Nat.mul_assoc,← Nat.pow_add]
   congr 2;omega
 dsimp only
 rw[kept]
 have a3:(e+(m.log2:Int)-52 - -1074).toNat=(1074+e+m.log2-52).toNat:=by omega
 rw[a3]
 have hk:m*2^(52-m.log2)<2*Ieee.double.binade:=by
  have h1:=(Nat.log2_eq_iff hm).1 rfl
  have h2:=Nat.mul_lt_mul_of_pos_right h1.2 (Nat.two_pow_pos (52-m.log2))
  rw[← Nat.pow_add] at h2
  rw[show m.log2+1+(52-m.log2)=53 by omega] at h2
  rw[dbl.2.2.1]
  omega
 rw[dbl.2.2.2.1]
 generalize Ieee.double.binade=B at hk ⊢
 rw[Nat.min_eq_left (by
  have:(1074+e+(m.log2:Int)-52).toNat≤2045:=by omega
  have:=Nat.mul_le_mul_right B this
  omega)]
theorem wd(neg:Bool)(r:Nat)(hr:r<Ieee.double.signWeight):(Ieee.double.word neg r/Ieee.double.signWeight%2==1)=neg∧Ieee.double.word neg r%Ieee.double.signWeight=r:=by
 unfold Ieee.Format.word
 cases neg
 ·simp[Nat.div_eq_of_lt hr,Nat.mod_eq_of_lt hr]
 ·have hs:0<Ieee.double.signWeight:=by omega
  simp only[if_true]
  rw[Nat.add_div_left _ hs,Nat.div_eq_of_lt hr,Nat.add_mod_left,Nat.mod_eq_of_lt hr]
  simp
theorem Ej{m:Nat}(hm:m≠0)(hl:m<2^53)(neg:Bool){e:Int}(h1:-1074≤e+m.log2-52)(h2:e+m.log2≤1023) :
 Ieee.double.read (Ieee.double.nearest neg m e) = .number neg (m*2^(52-m.log2)) (e-((52-m.log2:Nat):Int)):=by
 have h0:=yM hm hl neg 0 (e:=e) (p:=e) (by simp) h1 h2
 rw[Nat.pow_zero,Nat.mul_one] at h0
 rw[h0]
 have hL:=log2_lt hm hl
 have hh:=(Nat.log2_eq_iff hm).1 rfl
 have hB:=dbl.2.2.1
 have hk:m*2^(52-m.log2)<2*Ieee.double.binade:=by
  have h2:=Nat.mul_lt_mul_of_pos_right hh.2 (Nat.two_pow_pos (52-m.log2))
  rw[← Nat.pow_add] at h2
  rw[show m.log2+1+(52-m.log2)=53 by omega] at h2
  rw[hB]
  omega
 have hk2:Ieee.double.binade≤m*2^(52-m.log2):=by
  have h2:=Nat.mul_le_mul_right (2^(52-m.log2)) hh.1
  rw[← Nat.pow_add] at h2
  rw[show m.log2+(52-m.log2)=52 by omega] at h2
  rw[hB]
  exact h2
 have hB0:0<Ieee.double.binade:=by rw[hB];decide
 generalize hK:m*2^(52-m.log2)=K at *
 obtain⟨j,hj⟩:∃ j,K=Ieee.double.binade+j:=⟨K-Ieee.double.binade,by omega⟩
 subst hj
 obtain⟨q,hq⟩:∃ q:Nat,(1074+e+(m.log2:Int)-52).toNat=q:=⟨_,rfl⟩
 rw[hq]
 have hq2:q≤2045:=by omega
 have hqb:=Nat.mul_le_mul_right Ieee.double.binade hq2
 have hr:q*Ieee.double.binade+(Ieee.double.binade+j)<Ieee.double.signWeight:=by
  rw[dbl.2.2.2.2]
  omega
 unfold Ieee.Format.read
 simp only[(wd neg _ hr).1,(wd neg _ hr).2]
 rw[dbl.2.2.2.1,dbl.2.1]
 generalize Ieee.double.binade=B at *
 rw[if_neg (by omega),if_pos (by omega)]
 have e1:q*B+(B+j)=B*(q+1)+j:=by rw[Nat.mul_add,Nat.mul_comm];omega
 have hjb:j<B:=by omega
 rw[e1,Nat.mul_add_mod,Nat.mod_eq_of_lt hjb,Nat.mul_add_div hB0,Nat.div_eq_of_lt hjb]
 congr 1
 omega
theorem sA(neg:Bool)(p:Int):Ieee.double.nearest neg 0 p=Ieee.double.word neg 0:=by
 unfold Ieee.Format.nearest
 simp
theorem Ck(neg:Bool):Ieee.double.read (Ieee.double.word neg 0) = .number neg 0 (-1074):=by
 cases neg<;>decide +kernel
def NV(s:Bool)(m:Nat)(e:Int)(x:Int):Prop:=(0≤e∧sg s m*2^e.toNat=x)∨(e<0∧sg s m=x*2^(-e).toNat)
theorem gZ(a b:Nat):(2:Int)^(a+b)=2^a*2^b:=Int.pow_add ..
theorem NV.at{s:Bool}{m:Nat}{e x:Int}(h:NV s m e x){b:Int}(hb:b≤e)(hb0:b≤0):sg s m*2^(e-b).toNat=x*2^(-b).toNat:=by
 rcases h with⟨h0,h1⟩|⟨h0,h1⟩
 ·rw[show (e-b).toNat=e.toNat+(-b).toNat by omega,gZ,← Int.mul_assoc,h1]
 ·rw[h1,show (-b).toNat=(-e).toNat+(e-b).toNat by omega,gZ,Int.mul_assoc]
theorem NV.of{s:Bool}{m:Nat}{e x b:Int}(hb:b≤e)(hb0:b≤0)(h:sg s m*2^(e-b).toNat=x*2^(-b).toNat):NV s m e x:=by
 have hp:∀ k:Nat,(0:Int)<2^k:=fun k=>Int.pow_pos (by decide)
 by_cases he:0≤e
 ·left
  refine⟨he,?_⟩
  rw[show (e-b).toNat=e.toNat+(-b).toNat by omega,gZ,← Int.mul_assoc] at h
  exact Int.eq_of_mul_eq_mul_right (Int.ne_of_gt (hp _)) h
 ·right
  refine⟨by omega,?_⟩
  rw[show (-b).toNat=(-e).toNat+(e-b).toNat by omega,gZ,← Int.mul_assoc] at h
  exact Int.eq_of_mul_eq_mul_right (Int.ne_of_gt (hp _)) h
theorem xH(a b:Int)(k:Nat):compare (a*2^k) (b*2^k)=compare a b:=by
 have hp:(0:Int)<2^k:=Int.pow_pos (by decide)
 have key:∀ a b:Int,a*2^k<b*2^k↔a<b:=fun a b=>Int.mul_lt_mul_right hp
 simp only[compare,compareOfLessAndEq,key]
 have:(a*2^k=b*2^k)↔a=b:=Int.mul_eq_mul_right_iff (by omega)
 simp only[this]
theorem kC{s t:Bool}{m n:Nat}{i j b:Int}(hi:b≤i)(hj:b≤j):Ieee.Datum.order (.number s m i) (.number t n j)=some (compare (sg s m*2^(i-b).toNat) (sg t n*2^(j-b).toNat)):=by
 simp only[Ieee.Datum.order,oV]
 congr 1
 rw[show (i-b).toNat=(i-min i j).toNat+(min i j-b).toNat by omega,show (j-b).toNat=(j-min i j).toNat+(min i j-b).toNat by omega,gZ,gZ,← Int.mul_assoc,← Int.mul_assoc,xH]
theorem kK{s t:Bool}{m n:Nat}{i j x y:Int}(h:NV s m i x)(g:NV t n j y):Ieee.Datum.order (.number s m i) (.number t n j)=some (compare x y):=by
 have hb:min (min i j) 0≤i∧min (min i j) 0≤j∧min (min i j) 0≤0:=by omega
 rw[kC hb.1 hb.2.1,h.at hb.1 hb.2.2,g.at hb.2.1 hb.2.2,xH]
theorem Kh{s t:Bool}{m n:Nat}{i j y:Int}(g:NV t n j y)(h:Ieee.Datum.order (.number s m i) (.number t n j)=some .eq):NV s m i y:=by
 have hb:min (min i j) 0≤i∧min (min i j) 0≤j∧min (min i j) 0≤0:=by omega
 rw[kC hb.1 hb.2.1,g.at hb.2.1 hb.2.2,Option.some.injEq,Int.compare_eq_eq] at h
 exact NV.of hb.1 hb.2.2 h
theorem NV.shift{s:Bool}{m:Nat}{e x:Int}(a:Nat):NV s (m*2^a) (e-a) x↔NV s m e x:=by
 have hb:min (e-a) 0≤e∧min (e-a) 0≤e-a∧min (e-a) 0≤0:=by omega
 have key:sg s (m*2^a)*2^(e-a-min (e-a) 0).toNat=sg s m*2^(e-min (e-a) 0).toNat:=by
  rw[Di,Int.mul_assoc,Int.natCast_pow]
  congr 1
  show (2:Int)^a*2^_=_
  rw[← gZ]
  congr 1
  omega
 constructor
 ·intro h
  exact NV.of hb.1 hb.2.2 (by rw[← key];exact h.at hb.2.1 hb.2.2)
 ·intro h
  exact NV.of hb.2.1 hb.2.2 (by rw[key];exact h.at hb.1 hb.2.2)
end Go.Rex
open Go Go.Rex
namespace Go.Rex
set_option maxRecDepth 100000
def MOk(m:Nat)(e:Int):Prop:=(m=0∧e = -149)∨(m≠0∧m<2^24∧-149≤e∧e≤104)
theorem sng:Ieee.single.leastPlace = -149∧Ieee.single.binade=2^23∧Ieee.single.infRung=255*2^23:=by decide +kernel
theorem xP(b:Nat):(∃ s t,Ieee.single.read b = .nan s t)∨(∃ s,Ieee.single.read b = .infinity s)∨(∃ s m e,Ieee.single.read b = .number s m e∧MOk m e):=by
 unfold Ieee.Format.read
 simp only[sng.1,sng.2.1,sng.2.2]
 generalize b%Ieee.single.signWeight=r
 generalize (b/Ieee.single.signWeight%2==1)=s
 split
 ·rename_i h
  refine .inr (.inr ⟨_,_,_,rfl,?_⟩)
  by_cases h0:r=0
  ·exact .inl ⟨h0,rfl⟩
  ·exact .inr ⟨h0,by omega,by omega,by omega⟩
 ·split
  ·refine .inr (.inr ⟨_,_,_,rfl,.inr ⟨by omega,?_,by omega,by omega⟩⟩)
   have:=Nat.mod_lt r (show 0<2^23 by decide)
   omega
  ·split
   ·exact .inr (.inl ⟨_,rfl⟩)
   ·exact .inl ⟨_,_,rfl⟩
theorem wR{m:Nat}(hm:m≠0)(hl:m<2^53)(neg:Bool)(a:Nat){e p:Int}(hp:p=e-a)(h1:-1074≤e+m.log2-52)(h2:e+m.log2≤1023):Ieee.double.nearest neg (m*2^a) p=Ieee.double.nearest neg m e:=by
 rw[yM hm hl neg a hp h1 h2]
 have:=yM hm hl neg 0 (e:=e) (p:=e) (by simp) h1 h2
 rw[Nat.pow_zero,Nat.mul_one] at this
 exact this.symm
theorem Fi(s:Bool)(m:Nat)(e:Int):∃ r,Ieee.double.nearest s m e=Ieee.double.word s r∧r≤Ieee.double.infRung:=by
 unfold Ieee.Format.nearest
 split
 ·exact⟨0,rfl,Nat.zero_le _⟩
 ·exact⟨_,rfl,Nat.min_le_right _ _⟩
theorem Dz{m:Nat}{e:Int}(h:m≠0∧m<2^24∧-149≤e∧e≤104):-1074≤e+m.log2-52∧e+m.log2≤1023∧m<2^53:=by
 have:m.log2≤23:=log2_lt h.1 h.2.1
 exact⟨by omega,by omega,by omega⟩
structure Dbl(s:Bool)(m:Nat)(e:Int)(v M:Nat)(E:Int):Prop where
 nr:v=Ieee.double.nearest s m e
 rd:Ieee.double.read v = .number s M E
 nv:∀ x,NV s M E x↔NV s m e x
 lt:M<2^53
 hi:E≤104
 sh:(m=0∧M=0∧E = -1074)∨∃ t:Nat,m≠0∧M=m*2^t∧E=e-t
theorem vQ{s:Bool}{m:Nat}{e:Int}(h:MOk m e):∃ M E,Dbl s m e (Ieee.double.nearest s m e) M E:=by
 rcases h with⟨rfl,rfl⟩|h
 ·refine⟨0,-1074,rfl,by rw[sA];exact Ck s,fun x=>?_,by decide,by decide,.inl ⟨rfl,rfl,rfl⟩⟩
  have e0:sg s 0=0:=by cases s<;>rfl
  have hp:∀ k:Nat,(2:Int)^k≠0:=fun k=>Int.ne_of_gt (Int.pow_pos (by decide))
  unfold NV
  simp only[e0,Int.zero_mul]
  constructor
  ·rintro (⟨h,_⟩|⟨_,h⟩)
   ·omega
   ·right
    refine⟨by decide,?_⟩
    rcases Int.mul_eq_zero.1 h.symm with h|h
    ·rw[h,Int.zero_mul]
    ·exact absurd h (hp _)
  ·rintro (⟨h,_⟩|⟨_,h⟩)
   ·omega
   ·right
    refine⟨by decide,?_⟩
    rcases Int.mul_eq_zero.1 h.symm with h|h
    ·rw[h,Int.zero_mul]
    ·exact absurd h (hp _)
 ·obtain⟨h1,h2,h3⟩:=Dz h
  have hlog:m.log2≤23:=log2_lt h.1 h.2.1
  refine⟨m*2^(52-m.log2),e-((52-m.log2:Nat):Int),rfl,Ej h.1 h3 s h1 h2,fun x=>NV.shift _,?_,by omega,.inr ⟨52-m.log2,h.1,rfl,rfl⟩⟩
  have hh:=(Nat.log2_eq_iff h.1).1 rfl
  have h2:=Nat.mul_lt_mul_of_pos_right hh.2 (Nat.two_pow_pos (52-m.log2))
  rw[← Nat.pow_add] at h2
  rw[show m.log2+1+(52-m.log2)=53 by omega] at h2
  exact h2
theorem kL{k:FloatKind}{b:Nat}{s:Bool}{m:Nat}{e:Int}(h:k.format.read b = .number s m e):dZ k b=false:=by
 cases hq:dZ k b with
 | false=>rfl
 | true =>
  obtain⟨s',t,e'⟩:=gF hq
  rw[h] at e'
  cases e'
theorem rB{b:Nat}{s:Bool}{m:Nat}{e:Int}(hr:Ieee.single.read b = .number s m e)(h:MOk m e):f2f .f32 b .f64=some (Ieee.double.nearest s m e):=by
 obtain⟨M,E,hd⟩:=vQ (s:=s) h
 have hn:dZ .f32 b=false:=kL (k:=.f32) hr
 unfold f2f
 rw[if_neg (by decide),hn,if_neg (by decide)]
 have hr':FloatKind.f32.decode b = .number s m e:=hr
 rw[hr']
 simp only
 have e1:FloatKind.f64.encode (.number s m e)=Ieee.double.nearest s m e:=rfl
 rw[e1]
 have e2:FloatKind.f64.decode (Ieee.double.nearest s m e) = .number s M E:=hd.rd
 rw[e2]
 rfl
theorem yZ{v:Nat}{s:Bool}{M:Nat}{E:Int}(h:Ieee.double.read v = .number s M E):trI .zero v=some (Ieee.double.nearest s (Ieee.Toward.cut .zero s (M <<< E.toNat) (-E).toNat) 0):=by
 unfold trI
 rw[kL (k:=.f64) h,if_neg (by decide)]
 have h':FloatKind.f64.decode v = .number s M E:=h
 rw[h']
 rfl
theorem rM{s:Bool}{m:Nat}{e x:Int}(h:NV s m e x):sg s x.natAbs=x:=by
 have key:∀(a:Nat) (y:Int),sg s a=y→sg s y.natAbs=y:=fun a y h=>by rw[← h,pZ]
 have hp:∀ k:Nat,(0:Int)<2^k:=fun k=>Int.pow_pos (by decide)
 rcases h with⟨_,h⟩|⟨_,h⟩
 ·have:sg s (m*2^e.toNat)=x:=by rw[Di,← h,Int.natCast_pow];rfl
  exact key _ _ this
 ·have h2 : 0 ≤ sg s 1 * x := by
    have h3:sg s m=sg s 1*(m:Int):=by cases s<;>simp[sg]
    have h4:(0:Int)≤sg s 1*(x*2^(-e).toNat):=by rw[← h,h3];cases s<;>simp[sg]
    rw[← Int.mul_assoc] at h4
    by_cases hn:sg s 1*x<0
    ·have:=Int.mul_neg_of_neg_of_pos hn (hp (-e).toNat)
     omega
    ·omega
  cases s
  ·simp[sg] at h2 ⊢;omega
  ·simp[sg] at h2 ⊢;omega
theorem xF{s:Bool}{m:Nat}{e:Int}{v M:Nat}{E x:Int}(h:MOk m e)(hd:Dbl s m e v M E)(hx:NV s m e x):trI .zero v=some v:=by
 rw[yZ hd.rd]
 congr 1
 rcases hd.sh with⟨h0,h1,h2⟩|⟨t,hm,h1,h2⟩
 ·subst h0 h1 h2
  rw[show (0:Nat) <<< (-1074:Int).toNat=0 by rw[shl];simp,pW,sA,hd.nr,sA]
 ·rcases h with⟨h0,_⟩|hk
  ·exact absurd h0 hm
  obtain⟨k1,k2,k3⟩:=Dz hk
  have hlog:m.log2≤23:=log2_lt hk.1 hk.2.1
  subst h1 h2
  rw[hd.nr]
  rcases hx with⟨he,hx⟩|⟨he,hx⟩
  ·have hq : Ieee.Toward.cut .zero s ((m * 2 ^ t) <<< (e - (t : Int)).toNat) (-(e - (t : Int))).toNat = m * 2 ^ e.toNat := by
     rw[shl,Nat.mul_assoc,← Nat.pow_add,gY hm s (by omega)]
     congr 2
     omega
   rw[hq]
   exact wR hm k3 s e.toNat (by omega) k1 k2
  ·have hX : m = x.natAbs * 2 ^ (-e).toNat := by
     have:=congrArg Int.natAbs hx
     rw[pZ,Int.natAbs_mul,Int.natAbs_pow] at this
     exact this
   have hX0:x.natAbs≠0:=by
    intro h
    rw[h,Nat.zero_mul] at hX
    exact hm hX
   have hXl:x.natAbs≤m:=by rw[hX];exact Nat.le_mul_of_pos_right _ (Nat.two_pow_pos _)
   have hXlog:x.natAbs.log2≤23:=log2_lt hX0 (by omega)
   have hq:Ieee.Toward.cut .zero s ((m*2^t) <<< (e-(t:Int)).toNat) (-(e-(t:Int))).toNat=x.natAbs:=by
    rw[show (e-(t:Int)).toNat=0 by omega,shl,Nat.pow_zero,Nat.mul_one,hX,Nat.mul_assoc,← Nat.pow_add,gY hX0 s (by omega)]
    rw[show (-e).toNat+t-(-(e-(t:Int))).toNat=0 by omega]
    simp
   rw[hq]
   have:=wR hX0 (by omega) s (-e).toNat (e:=0) (p:=e) (by omega) (by omega) (by omega)
   rw[← hX] at this
   exact this.symm
theorem uN{q:Nat}(hq:q<2^53)(s:Bool):∃ n j,Ieee.double.read (Ieee.double.nearest s q 0) = .number s n j∧NV s n j (sg s q):=by
 by_cases h0:q=0
 ·subst h0
  refine⟨0,-1074,by rw[sA];exact Ck s,.inr ⟨by decide,?_⟩⟩
  rw[show sg s 0=0 by cases s<;>rfl,Int.zero_mul]
 ·have hl:=log2_lt h0 hq
  refine⟨_,_,Ej h0 hq s (by omega) (by omega),(NV.shift _).2 (.inl ⟨by decide,?_⟩)⟩
  simp
theorem Gt{s:Bool}{m:Nat}{e:Int}{v M:Nat}{E:Int}(h:MOk m e)(hd:Dbl s m e v M E)(hx:∀ x,¬ NV s m e x):∃ w,trI .zero v=some w∧fcmp .eql .f64 v w=false:=by
 have hE:E<0:=by
  rcases hd.sh with⟨h0,h1,h2⟩|⟨t,hm,h1,h2⟩
  ·omega
  ·by_cases he:0≤e
   ·exact absurd (.inl ⟨he,rfl⟩) (hx _)
   ·omega
 have hq:Ieee.Toward.cut .zero s (M <<< E.toNat) (-E).toNat<2^53:=by
  rw[show E.toNat=0 by omega,shl,Nat.pow_zero,Nat.mul_one]
  unfold Ieee.Toward.cut
  simp only[Bool.toNat_false,Nat.add_zero]
  exact Nat.lt_of_le_of_lt (Nat.div_le_self _ _) hd.lt
 obtain⟨n,j,hr,hn⟩:=uN hq s
 refine⟨_,yZ hd.rd,?_⟩
 unfold fcmp
 have ho:FloatKind.f64.format.order v (Ieee.double.nearest s (Ieee.Toward.cut .zero s (M <<< E.toNat) (-E).toNat) 0)=Ieee.Datum.order (.number s M E) (.number s n j):=by
  show Ieee.Datum.order (Ieee.double.read v) (Ieee.double.read _)=_
  rw[hd.rd,hr]
 simp only[ho]
 rw[beq_eq_false_iff_ne]
 intro he
 exact hx _ ((hd.nv _).1 (Kh hn he))
end Go.Rex
namespace Go.Rex
open Go Go.Rex
set_option maxRecDepth 100000
theorem ord64{a b:Nat}{s t:Bool}{m n:Nat}{i j:Int}(h:Ieee.double.read a = .number s m i)(g:Ieee.double.read b = .number t n j):FloatKind.f64.format.order a b=Ieee.Datum.order (.number s m i) (.number t n j):=by
 show Ieee.Datum.order (Ieee.double.read a) (Ieee.double.read b)=_
 rw[h,g]
theorem ord32{a b:Nat}{s t:Bool}{m n:Nat}{i j:Int}(h:Ieee.single.read a = .number s m i)(g:Ieee.single.read b = .number t n j):FloatKind.f32.format.order a b=Ieee.Datum.order (.number s m i) (.number t n j):=by
 show Ieee.Datum.order (Ieee.single.read a) (Ieee.single.read b)=_
 rw[h,g]
theorem qZ{v:Nat}{s:Bool}{M:Nat}{E:Int}(h:Ieee.double.read v = .number s M E):fcmp .eql .f64 v v=true∧fcmp .neq .f64 v v=false:=by
 have:FloatKind.f64.format.order v v=some .eq:=by
  rw[ord64 h h,kC (Int.le_refl _) (Int.le_refl _)]
  congr 1
  exact Int.compare_eq_eq.2 rfl
 unfold fcmp
 simp only[this]
 exact⟨rfl,rfl⟩
theorem Jy{s:Bool}{r M:Nat}{E:Int}(hr:r<Ieee.double.signWeight)(h:Ieee.double.read (Ieee.double.word s r) = .number s M E):Ieee.double.read r = .number false M E:=by
 have h1:=wd s r hr
 have h2:(r/Ieee.double.signWeight%2==1)=false∧r%Ieee.double.signWeight=r:=by
  rw[Nat.div_eq_of_lt hr,Nat.mod_eq_of_lt hr]
  exact⟨rfl,rfl⟩
 unfold Ieee.Format.read at h ⊢
 simp only[h1.1,h1.2] at h
 simp only[h2.1,h2.2]
 split at h
 ·rename_i q
  rw[if_pos q]
  cases h
  rfl
 ·rename_i q
  rw[if_neg q]
  split at h
  ·rename_i q2
   rw[if_pos q2]
   cases h
   rfl
  ·split at h<;>cases h
theorem Jn:Ieee.double.read 9218868437227405311 = .number false (2^53-1) 971:=by decide +kernel
theorem Ld{r M:Nat}{E:Int}(h:Ieee.double.read r = .number false M E)(hM:M<2^53)(hE:E≤104):fcmp .gtr .f64 r 9218868437227405311=false:=by
 have:FloatKind.f64.format.order r 9218868437227405311≠some .gt:=by
  rw[ord64 h Jn,kC (b:=E) (Int.le_refl _) (by omega)]
  intro hc
  rw[Option.some.injEq,Int.compare_eq_gt] at hc
  have h0:(E-E).toNat=0:=by omega
  rw[h0] at hc
  simp only[sg,Bool.false_eq_true,if_false,Int.pow_zero,Int.mul_one] at hc
  have h2:(1:Int)≤2^(971-E).toNat:=by have:=Int.pow_pos (m:=(971-E).toNat) (show (0:Int)<2 by decide);omega
  have h3:=Int.mul_le_mul_of_nonneg_left h2 (show (0:Int)≤((2^53-1:Nat):Int) by decide)
  rw[Int.mul_one] at h3
  have h4:((2^53-1:Nat):Int)=9007199254740991:=by decide
  rw[h4] at h3 hc
  omega
 unfold fcmp
 simp only
 rw[beq_eq_false_iff_ne]
 exact this
theorem Lf(s:Bool)(r:Nat)(hr:r<2^63):(yS .andNot .u64 ((Ieee.double.word s r:Nat):Int) 9223372036854775808).toNat=r:=by
 have hw:Ieee.double.word s r<2^64∧Ieee.double.word s r%2^63=r:=by
  unfold Ieee.Format.word
  have e:Ieee.double.signWeight=2^63:=by decide +kernel
  rw[e]
  cases s
  ·simp only[Bool.false_eq_true,if_false]
   omega
  ·simp only[if_true]
   omega
 generalize Ieee.double.word s r=v at hw ⊢
 unfold yS
 have hb:IntKind.u64.bits=64:=rfl
 have hwrap:∀ n:Int,IntKind.u64.wrap n=n%2^64:=fun n=>rfl
 simp only[hwrap]
 show (((BitVec.ofInt 64 (v:Int) &&& ~~~ BitVec.ofInt 64 9223372036854775808).toNat:Int)%2^64).toNat=r
 have h1:(BitVec.ofInt 64 (v:Int) &&& ~~~ BitVec.ofInt 64 9223372036854775808).toNat=v%2^63:=by
  have h2:(~~~ BitVec.ofInt 64 9223372036854775808).toNat=2^63-1:=by decide
  have h3:(BitVec.ofInt 64 (v:Int)).toNat=v:=by
   rw[BitVec.toNat_ofInt]
   omega
  rw[BitVec.toNat_and,h2,h3,Nat.and_two_pow_sub_one_eq_mod]
 rw[h1,hw.2]
 omega
theorem Fm{s:Bool}{m:Nat}{e:Int}{v M:Nat}{E:Int}(hd:Dbl s m e v M E):iU v 0=some false:=by
 obtain⟨r,hr,hri⟩:=Fi s m e
 rw[← hd.nr] at hr
 have hs:r<Ieee.double.signWeight:=by
  have:=dbl.2.2.2
  have h0:Ieee.double.infRung<Ieee.double.signWeight:=by decide +kernel
  omega
 have hs63:r<2^63:=by
  have e:Ieee.double.signWeight=2^63:=by decide +kernel
  rw[e] at hs
  exact hs
 have hn:=kL (k:=.f64) hd.rd
 have hrd:=hd.rd
 unfold iU qE fbits
 rw[hn]
 simp only[decide_true,if_true,Bool.false_eq_true,if_false,Option.bind_some]
 rw[hr,Lf s r hs63]
 rw[hr] at hrd
 rw[Ld (Jy hs hrd) hd.lt hd.hi]
theorem uY{b:Nat}{s:Bool}{m:Nat}{e x:Int}(hr:Ieee.single.read b = .number s m e)(h:MOk m e)(hx:NV s m e x):bJ b=some true:=by
 obtain⟨M,E,hd⟩:=vQ (s:=s) h
 unfold bJ gV
 rw[rB hr h]
 simp only[Option.bind_some]
 rw[xF h hd hx]
 simp only[Option.bind_some]
 rw[(qZ hd.rd).1,Fm hd]
 simp
theorem Fo{b:Nat}{s:Bool}{m:Nat}{e:Int}(hr:Ieee.single.read b = .number s m e)(h:MOk m e)(hx:∀ x,¬ NV s m e x):bJ b=some false:=by
 obtain⟨M,E,hd⟩:=vQ (s:=s) h
 obtain⟨w,h1,h2⟩:=Gt h hd hx
 unfold bJ gV
 rw[rB hr h]
 simp only[Option.bind_some]
 rw[h1]
 simp only[Option.bind_some]
 rw[h2]
 simp
theorem Gg{b:Nat}{s:Bool}{t:Nat}(hr:Ieee.single.read b = .nan s t):bJ b=some false∧f2f .f32 b .f64=some (qn .f64):=by
 have hn:dZ .f32 b=true:=tC (k:=.f32) hr
 have hf:f2f .f32 b .f64=some (qn .f64):=by
  unfold f2f
  rw[if_neg (by decide),hn,if_pos rfl]
 refine⟨?_,hf⟩
 unfold bJ gV
 rw[hf]
 simp only[Option.bind_some]
 have e:trI .zero (qn .f64)=some (qn .f64):=by decide +kernel
 rw[e]
 simp only[Option.bind_some]
 have e2:fcmp .eql .f64 (qn .f64) (qn .f64)=false:=by decide +kernel
 rw[e2]
 simp
theorem Hm{b:Nat}{s:Bool}(hr:Ieee.single.read b = .infinity s):bJ b=some false∧f2f .f32 b .f64=some (FloatKind.f64.encode (.infinity s)):=by
 have hn:dZ .f32 b=false:=by
  cases hq:dZ .f32 b with
  | false=>rfl
  | true =>
   obtain⟨s',t,e'⟩:=gF hq
   have e':Ieee.single.read b = .nan s' t:=e'
   rw[hr] at e'
   cases e'
 have hf:f2f .f32 b .f64=some (FloatKind.f64.encode (.infinity s)):=by
  unfold f2f
  rw[if_neg (by decide),hn,if_neg (by decide)]
  have:FloatKind.f32.decode b = .infinity s:=hr
  rw[this]
 refine⟨?_,hf⟩
 unfold bJ
 rw[hf]
 simp only[Option.bind_some]
 cases s<;>decide +kernel
theorem Ga{s:Bool}{m:Nat}{e:Int}{v M:Nat}{E x:Int}(h:MOk m e)(hd:Dbl s m e v M E)(hx:NV s m e x):Ieee.Toward.cut .zero s (M <<< E.toNat) (-E).toNat=x.natAbs∧Ieee.double.nearest s x.natAbs 0=v:=by
 have key:=xF h hd hx
 rw[yZ hd.rd] at key
 have key:=Option.some.inj key
 suffices hq:Ieee.Toward.cut .zero s (M <<< E.toNat) (-E).toNat=x.natAbs by
  rw[hq] at key
  exact⟨hq,key⟩
 clear key
 rcases hd.sh with⟨h0,h1,h2⟩|⟨t,hm,h1,h2⟩
 ·subst h0 h1 h2
  have e0:sg s 0=0:=by cases s<;>rfl
  have hx0:x=0:=by
   rcases hx with⟨_,hx⟩|⟨_,hx⟩
   ·rw[e0,Int.zero_mul] at hx;exact hx.symm
   ·rw[e0] at hx
    rcases Int.mul_eq_zero.1 hx.symm with h|h
    ·exact h
    ·exact absurd h (Int.ne_of_gt (Int.pow_pos (by decide)))
  rw[hx0,show (0:Nat) <<< (-1074:Int).toNat=0 by rw[shl];simp,pW]
  rfl
 ·subst h1 h2
  rcases hx with⟨he,hx⟩|⟨he,hx⟩
  ·rw[shl,Nat.mul_assoc,← Nat.pow_add,gY hm s (by omega)]
   have h3:=congrArg Int.natAbs hx
   rw[Int.natAbs_mul,pZ,Int.natAbs_pow] at h3
   rw[← h3]
   show _=m*2^e.toNat
   congr 2
   omega
  ·have hX : m = x.natAbs * 2 ^ (-e).toNat := by
     have:=congrArg Int.natAbs hx
     rw[pZ,Int.natAbs_mul,Int.natAbs_pow] at this
     exact this
   have hX0:x.natAbs≠0:=by
    intro h
    rw[h,Nat.zero_mul] at hX
    exact hm hX
   rw[show (e-(t:Int)).toNat=0 by omega,shl,Nat.pow_zero,Nat.mul_one,hX,Nat.mul_assoc,← Nat.pow_add,gY hX0 s (by omega)]
   rw[show (-e).toNat+t-(-(e-(t:Int))).toNat=0 by omega]
   simp
theorem Fd{s t:Bool}{m n:Nat}{i j y:Int}(g:NV t n j y)(h:Ieee.Datum.order (.number t n j) (.number s m i)=some .eq):NV s m i y:=by
 have hb:min (min i j) 0≤i∧min (min i j) 0≤j∧min (min i j) 0≤0:=by omega
 rw[kC hb.2.1 hb.1,g.at hb.2.1 hb.2.2,Option.some.injEq,Int.compare_eq_eq] at h
 exact NV.of hb.1 hb.2.2 h.symm
theorem Eh:Ieee.double.read 14069741636278059008 = .number true 5000000000000000 1:=by decide +kernel
theorem Ev:Ieee.double.read 4846369599423283200 = .number false 5000000000000000 1:=by decide +kernel
theorem wU{v:Nat}{s:Bool}{M:Nat}{E:Int}(h:Ieee.double.read v = .number s M E):farith .sub .f64 v v=some 0:=by
 refine Nj ?_
 show (((Ieee.double.read v).sum (Ieee.double.read v).opposite).map Ieee.double.write)=some 0
 rw[h]
 simp only[Ieee.Datum.opposite,Ieee.Datum.sum]
 have e:min E E=E:=by omega
 rw[e]
 have h0:(E-E).toNat=0:=by omega
 rw[h0]
 simp only[oV,Int.pow_zero,Int.mul_one]
 have hz:sg s M+sg (!s) M=0:=by cases s<;>simp[sg]<;>omega
 rw[hz]
 simp only[if_true,Option.map_some]
 have hs:(s&&!s)=false:=by cases s<;>rfl
 rw[hs]
 show some (Ieee.double.nearest false 0 E)=some 0
 rw[sA]
 rfl
theorem cmpI{x y:Int}:((some (compare x y)==some Ordering.gt||some (compare x y)==some Ordering.eq)=decide (y≤x))∧((some (compare x y)==some Ordering.lt||some (compare x y)==some Ordering.eq)=decide (x≤y))∧((some (compare x y)==some Ordering.lt)=decide (x<y))∧((some (compare x y)==some Ordering.gt)=decide (y<x))∧((some (compare x y)==some Ordering.eq)=decide (x=y)):=by
 simp only[compare,compareOfLessAndEq]
 rcases Int.lt_trichotomy x y with h|h|h
 ·rw[if_pos h]
  refine⟨?_,?_,?_,?_,?_⟩<;>simp<;>omega
 ·subst h
  rw[if_neg (Int.lt_irrefl _),if_pos rfl]
  refine⟨?_,?_,?_,?_,?_⟩<;>simp
 ·rw[if_neg (by omega),if_neg (by omega)]
  refine⟨?_,?_,?_,?_,?_⟩<;>simp<;>omega
theorem Ea{v:Nat}{s:Bool}{M:Nat}{E:Int}{q:Nat}(h:Ieee.double.read v = .number s M E)(hq:Ieee.Toward.cut .zero s (M <<< E.toNat) (-E).toNat=q)(hb:q<2^63):f2i .f64 v .i64=some (sg s q):=by
 unfold f2i
 have e:FloatKind.f64.decode v = .number s M E:=h
 rw[e]
 have e2:(Ieee.Datum.number s M E).toInt .zero=some (sg s q):=by
  unfold Ieee.Datum.toInt Ieee.Datum.integral
  simp only[hq,oV,Int.pow_zero,Int.mul_one]
 rw[e2]
 simp only
 have hm:IntKind.i64.min = -9223372036854775808∧IntKind.i64.max=9223372036854775807:=by decide
 rw[hm.1,hm.2,if_pos]
 cases s<;>simp only[sg,if_true,if_false,Bool.false_eq_true]<;>omega
theorem Ez{s:Bool}{m:Nat}{e:Int}{v M:Nat}{E x:Int}(h:MOk m e)(hd:Dbl s m e v M E)(hx:NV s m e x):bX v=some true:=by
 have hX:=(hd.nv x).2 hx
 have g1:fcmp .geq .f64 v 14069741636278059008=decide (-10000000000000000≤x):=by
  unfold fcmp
  simp only
  rw[ord64 hd.rd Eh,kK hX (y:=-10000000000000000) (.inl ⟨by decide,by decide⟩)]
  exact cmpI.1
 have g2:fcmp .leq .f64 v 4846369599423283200=decide (x≤10000000000000000):=by
  unfold fcmp
  simp only
  rw[ord64 hd.rd Ev,kK hX (y:=10000000000000000) (.inl ⟨by decide,by decide⟩)]
  exact cmpI.2.1
 unfold bX
 rw[(qZ hd.rd).2,wU hd.rd]
 simp only[Bool.false_eq_true,if_false,Option.bind_some]
 have g0:fcmp .neq .f64 0 0=false:=by decide +kernel
 rw[g0,g1,g2]
 simp only[Bool.false_eq_true,if_false]
 by_cases c1:-10000000000000000≤x
 ·by_cases c2:x≤10000000000000000
  ·rw[if_pos (decide_eq_true c1),if_pos (decide_eq_true c2)]
   obtain⟨hq,hn⟩:=Ga h hd hx
   rw[Ea hd.rd hq (by omega),rM hx]
   simp only[Option.bind_some]
   congr 1
   have hne:FloatKind.f64.nearest x=Ieee.double.nearest (decide (x<0)) x.natAbs 0:=rfl
   by_cases x0:x=0
   ·subst x0
    have e1:FloatKind.f64.nearest 0=Ieee.double.word false 0:=by rw[hne];exact sA _ _
    have r1:Ieee.double.read (FloatKind.f64.nearest 0) = .number false 0 (-1074):=by rw[e1];exact Ck false
    unfold fcmp
    simp only
    rw[ord64 r1 hd.rd,kK (x:=0) (.inr ⟨by decide,by rw[show sg false 0=0 from rfl,Int.zero_mul]⟩) hX]
    rfl
   ·have hs : decide (x < 0) = s := by
      have h1:=rM hx
      cases s
      ·simp only[sg,Bool.false_eq_true,if_false] at h1
       exact decide_eq_false (by omega)
      ·simp only[sg,if_true] at h1
       exact decide_eq_true (by omega)
    rw[hne,hs,hn]
    exact (qZ hd.rd).1
  ·rw[if_pos (decide_eq_true c1),if_neg (by simp;omega)]
 ·rw[if_neg (by simp;omega)]
theorem Gj{s:Bool}{m:Nat}{e:Int}{v M:Nat}{E:Int}(h:MOk m e)(hd:Dbl s m e v M E)(hx:∀ x,¬ NV s m e x):bX v=some false:=by
 have hE:E<0:=by
  rcases hd.sh with⟨h0,h1,h2⟩|⟨t,hm,h1,h2⟩
  ·omega
  ·by_cases he:0≤e
   ·exact absurd (.inl ⟨he,rfl⟩) (hx _)
   ·omega
 have hlt:=hd.lt
 have hp4:(4:Int)≤2^(1-E).toNat:=by
  rw[show (1-E).toNat=2+(-E-1).toNat by omega,gZ]
  have:(1:Int)≤2^(-E-1).toNat:=by have:=Int.pow_pos (m:=(-E-1).toNat) (show (0:Int)<2 by decide);omega
  omega
 have hbig:=Int.mul_le_mul_of_nonneg_left hp4 (show (0:Int)≤5000000000000000 by decide)
 have h0:(E-E).toNat=0:=by omega
 have hsg:-(M:Int)≤sg s M∧sg s M≤M:=by cases s<;>simp[sg]<;>omega
 have g1:fcmp .geq .f64 v 14069741636278059008=true:=by
  unfold fcmp
  simp only
  rw[ord64 hd.rd Eh,kC (b:=E) (Int.le_refl _) (by omega),cmpI.1,h0]
  refine decide_eq_true ?_
  have e1:sg true 5000000000000000 = -5000000000000000:=by decide
  rw[e1,Int.pow_zero,Int.mul_one,Int.neg_mul]
  omega
 have g2:fcmp .leq .f64 v 4846369599423283200=true:=by
  unfold fcmp
  simp only
  rw[ord64 hd.rd Ev,kC (b:=E) (Int.le_refl _) (by omega),cmpI.2.1,h0]
  refine decide_eq_true ?_
  have e1:sg false 5000000000000000=5000000000000000:=by decide
  rw[e1,Int.pow_zero,Int.mul_one]
  omega
 unfold bX
 rw[(qZ hd.rd).2,wU hd.rd]
 simp only[Bool.false_eq_true,if_false,Option.bind_some]
 have g0:fcmp .neq .f64 0 0=false:=by decide +kernel
 rw[g0,g1,g2]
 simp only[Bool.false_eq_true,if_false,if_true]
 have hq:Ieee.Toward.cut .zero s (M <<< E.toNat) (-E).toNat<2^53:=by
  rw[show E.toNat=0 by omega,shl,Nat.pow_zero,Nat.mul_one]
  unfold Ieee.Toward.cut
  simp only[Bool.toNat_false,Nat.add_zero]
  exact Nat.lt_of_le_of_lt (Nat.div_le_self _ _) hlt
 generalize hqq:Ieee.Toward.cut .zero s (M <<< E.toNat) (-E).toNat=q at hq
 rw[Ea hd.rd hqq (by omega)]
 simp only[Option.bind_some]
 congr 1
 have hne:FloatKind.f64.nearest (sg s q)=Ieee.double.nearest (decide (sg s q<0)) (sg s q).natAbs 0:=rfl
 rw[pZ] at hne
 obtain⟨n,j,r1,r2⟩:=uN hq (decide (sg s q<0))
 rw[← hne] at r1
 unfold fcmp
 simp only
 rw[beq_eq_false_iff_ne,ord64 r1 hd.rd]
 intro he
 exact hx _ ((hd.nv _).1 (Fd r2 he))
end Go.Rex
namespace Go.Rex
theorem w64{x:Int}(h:-9223372036854775808≤x∧x≤9223372036854775807):IntKind.i64.wrap x=x:=IntWalk.i64_in x (by omega)
theorem rX{σ ε:Type}{step:σ→Option (σ ⊕ ε)}(f:Nat→σ){n:Nat}{e:ε}(h:∀ k,k<n→step (f k)=some (.inl (f (k+1))))(hn:step (f n)=some (.inr e)):run step (f 0)=some e:=by
 suffices H:∀ j k,n-k=j→k≤n→run step (f k)=some e from H n 0 (by omega) (Nat.zero_le _)
 intro j
 induction j with
 | zero => intro k hj hk; obtain rfl : k = n := by omega
           exact lK hn
 | succ j ih=>intro k hj hk;rw[vS (h k (by omega))];exact ih (k+1) (by omega) (by omega)
theorem aR{α:Type}{xs:List α}{k:Nat}:bR xs (k:Int)=xs[k]?:=by
 unfold bR
 rw[if_pos (by omega),Int.toNat_natCast]
def walk{α β ε:Type}(f:β→α→β ⊕ ε)(fin:β→ε):β→List α→ε
 | b,[]=>fin b
 | b,x::t=>match f b x with
  | .inl b'=>walk f fin b' t
  | .inr e=>e
theorem gE{α β σ ε:Type}{step:σ→Option (σ ⊕ ε)}(st:Nat→β→σ)(f:β→α→β ⊕ ε)(fin:β→ε)(Inv:Nat→β→Prop)(l:List α)
 (hs:∀(k:Nat) (x:α) (b:β),l[k]?=some x→Inv k b→step (st k b)=some (match f b x with|.inl b'=>.inl (st (k+1) b')|.inr e=>.inr e)∧∀ b',f b x = .inl b'→Inv (k+1) b')
 (he:∀ b,Inv l.length b→step (st l.length b)=some (.inr (fin b))) {b0:β} (h0:Inv 0 b0):run step (st 0 b0)=some (walk f fin b0 l):=by
 suffices H:∀(t:List α) (k:Nat) (b:β),l.drop k=t→k≤l.length→Inv k b→run step (st k b)=some (walk f fin b t) from H l 0 b0 rfl (Nat.zero_le _) h0
 intro t
 induction t with
 | nil =>
  intro k b hk hkl hI
  have:k=l.length:=by
   have:=congrArg List.length hk
   simp at this
   omega
  subst this
  exact lK (he b hI)
 | cons x t ih =>
  intro k b hk hkl hI
  have hx:l[k]?=some x:=by
   have:=congrArg (fun l=>l[0]?) hk
   simpa using this
  have hlt:=(List.getElem?_eq_some_iff.1 hx).1
  obtain⟨h1,h2⟩:=hs k x b hx hI
  have ht:l.drop (k+1)=t:=by
   have:=congrArg List.tail hk
   simpa using this
  cases hf:f b x with
  | inl b' =>
   rw[hf] at h1
   rw[vS h1,ih (k+1) b' ht (by omega) (h2 b' hf)]
   simp only[walk,hf]
  | inr e =>
   rw[hf] at h1
   rw[lK h1]
   simp only[walk,hf]
end Go.Rex
open Go Go.Rex
namespace Go.Rex
set_option maxRecDepth 100000
theorem wsucc{k:Nat}{n:Nat}(h:k≤n)(hn:n≤2^62):IntKind.i64.wrap ((k:Int)+1)=((k+1:Nat):Int):=by rw[w64 (by omega)];omega
def bS{ε:Type}(p:Nat→Option ε)(n:Nat):Option ε:=(List.range n).findSome? p
theorem firstOf_none{ε:Type}{p:Nat→Option ε}{n:Nat}:bS p n=none↔∀ k,k<n→p k=none:=by
 unfold bS
 rw[List.findSome?_eq_none_iff]
 constructor
 ·intro h k hk;exact h k (List.mem_range.2 hk)
 ·intro h k hk;exact h k (List.mem_range.1 hk)
theorem xX{ε:Type}{p:Nat→Option ε}{n:Nat}:bS p (n+1)=match bS p n with|some e=>some e|none=>p n:=by
 unfold bS
 rw[List.range_succ,List.findSome?_append]
 cases h:List.findSome? p (List.range n) with
 | some e=>rfl
 | none=>simp
theorem vM{ε δ:Type}{step:Int→Option (Int ⊕ (ε ⊕ δ))}{n:Nat}{p:Nat→Option ε}{r:δ}
 (h:∀ k:Nat,k<n→(∀ j,j<k→p j=none)→step (k:Int)=some (match p k with|none=>.inl ((k+1:Nat):Int)|some e=>.inr (.inl e))) (he:(∀ j,j<n→p j=none)→step (n:Int)=some (.inr (.inr r))):run step 0=some (match bS p n with|some e=>.inl e|none=>.inr r):=by
 suffices H:∀ m,m≤n→bS p m=none→run step 0=run step (m:Int) by
  cases hf:bS p n with
  | none =>
   simp only
   rw[H n (Nat.le_refl _) hf]
   exact lK (he (firstOf_none.1 hf))
  | some e =>
   simp only
   have:∃ m,m<n∧bS p m=none∧p m=some e:=by
    clear h he H
    induction n with
    | zero=>simp[bS] at hf
    | succ n ih =>
     rw[xX] at hf
     cases hn:bS p n with
     | none=>rw[hn] at hf;exact⟨n,by omega,hn,hf⟩
     | some e'=>rw[hn] at hf;cases hf;obtain⟨m,h1,h2⟩:=ih hn;exact⟨m,by omega,h2⟩
   obtain⟨m,hm,h1,h2⟩:=this
   rw[H m (by omega) h1]
   have:=h m hm (firstOf_none.1 h1)
   rw[h2] at this
   exact lK this
 intro m
 induction m with
 | zero=>intro _ _;rfl
 | succ m ih =>
  intro hm hf
  have hf':=firstOf_none.1 hf
  rw[ih (by omega) (firstOf_none.2 fun k hk=>hf' k (by omega))]
  have:=h m (by omega) (fun j hj=>hf' j (by omega))
  rw[hf' m (by omega)] at this
  exact vS this
def iter{β:Type}(g:Nat→β→β):Nat→β→β
 | 0,b=>b
 | k+1,b=>g k (iter g k b)
theorem gJ{β σ ε:Type}{step:σ→Option (σ ⊕ ε)}(st:Nat→β→σ)(g:Nat→β→β)(fin:β→ε)(n:Nat)(Inv:Nat→β→Prop){b0:β}(h0:Inv 0 b0)
 (hs:∀ k b,k<n→Inv k b→step (st k b)=some (.inl (st (k+1) (g k b)))∧Inv (k+1) (g k b)) (he:∀ b,Inv n b→step (st n b)=some (.inr (fin b))) :
 run step (st 0 b0)=some (fin (iter g n b0))∧∀ k,k≤n→Inv k (iter g k b0):=by
 have hI:∀ k,k≤n→Inv k (iter g k b0):=by
  intro k
  induction k with
  | zero=>intro _;exact h0
  | succ k ih=>intro hk;exact (hs k _ (by omega) (ih (by omega))).2
 refine⟨?_,hI⟩
 exact rX (fun k=>st k (iter g k b0)) (fun k hk=>(hs k _ hk (hI k (by omega))).1) (he _ (hI n (Nat.le_refl _)))
end Go.Rex
namespace Go.Rex
open Go Go.Rex
set_option maxRecDepth 100000
theorem Qa{s:Bool}{m:Nat}{e x:Int}(h:MOk m e)(hx:NV s m e x):Ieee.Toward.cut .zero s (m <<< e.toNat) (-e).toNat=x.natAbs:=by
 rcases h with⟨h0,h1⟩|⟨hm,-,-,-⟩
 ·subst h0 h1
  have e0:sg s 0=0:=by cases s<;>rfl
  have hx0:x=0:=by
   rcases hx with⟨_,hx⟩|⟨_,hx⟩
   ·rw[e0,Int.zero_mul] at hx;exact hx.symm
   ·rw[e0] at hx
    rcases Int.mul_eq_zero.1 hx.symm with h|h
    ·exact h
    ·exact absurd h (Int.ne_of_gt (Int.pow_pos (by decide)))
  rw[hx0,show (0:Nat) <<< (-149:Int).toNat=0 by rw[shl];simp,pW]
  rfl
 ·rcases hx with⟨he,hx⟩|⟨he,hx⟩
  ·rw[shl,show (-e).toNat=0 by omega,gY hm s (by omega)]
   have h3:=congrArg Int.natAbs hx
   rw[Int.natAbs_mul,pZ,Int.natAbs_pow] at h3
   rw[← h3]
   rfl
  ·have hX : m = x.natAbs * 2 ^ (-e).toNat := by
     have:=congrArg Int.natAbs hx
     rw[pZ,Int.natAbs_mul,Int.natAbs_pow] at this
     exact this
   have hX0:x.natAbs≠0:=by
    intro h
    rw[h,Nat.zero_mul] at hX
    exact hm hX
   rw[show e.toNat=0 by omega,shl,Nat.pow_zero,Nat.mul_one,hX,gY hX0 s (Nat.le_refl _)]
   simp
def SV(b:Nat)(x:Int):Prop:=∃ s m e,Ieee.single.read b = .number s m e∧MOk m e∧NV s m e x
structure RS(b:Nat)(o:Option Int):Prop where
 val:∃ v,f2f .f32 b .f64=some v∧bX v=some o.isSome∧∀ x,o=some x→fcmp .gtr .f64 v 4674736138332667904=decide (32767<x)∧fcmp .lss .f64 v 13898108175187443712=decide (x < -32767)
theorem Cf{b:Nat}{s:Bool}{m:Nat}{e:Int}(h:Ieee.single.read b = .number s m e):MOk m e:=by
 rcases xP b with⟨s',t,h1⟩|⟨s',h1⟩|⟨s',m',e',h1,h2⟩
 ·rw[h] at h1;cases h1
 ·rw[h] at h1;cases h1
 ·rw[h] at h1
  injection h1 with a1 a2 a3
  subst a2 a3
  exact h2
theorem Kx{b:Nat}{s:Bool}{n u:Nat}(h:Ieee.single.read b = .number s (n*2^u) (-(u:Int))):SV b (sg s n):=by
 refine⟨s,_,_,h,Cf h,?_⟩
 by_cases hu:u=0
 ·subst hu
  left
  refine⟨by omega,?_⟩
  simp
 ·right
  refine⟨by omega,?_⟩
  rw[Di,Int.natCast_pow,show (-(-(u:Int))).toNat=u by omega]
  rfl
theorem Pl{s:Bool}{n:Nat}(h:ffit .f32 n):SV (fz .f32 s n) (sg s n):=Kx (Lo (k:=.f32) h)
theorem Kv{x:Int}(h:x.natAbs<2^24):SV (FloatKind.f32.nearest x) x:=by
 have h1:=Pl (s:=decide (x<0)) (n:=x.natAbs) h
 have e:sg (decide (x<0)) x.natAbs=x:=by
  unfold sg
  by_cases q:x<0
  ·simp only[q,decide_true,if_true];omega
  ·simp only[q,decide_false,Bool.false_eq_true,if_false];omega
 rw[e] at h1
 exact h1
theorem Lm{b:Nat}{x y:Int}(h:SV b x)(g:SV b y):x=y:=by
 obtain⟨s,m,e,h1,h2,h3⟩:=h
 obtain⟨s',m',e',g1,g2,g3⟩:=g
 rw[h1] at g1
 injection g1 with a1 a2 a3
 subst a1 a2 a3
 rcases h3 with⟨p,q⟩|⟨p,q⟩<;>rcases g3 with⟨p',q'⟩|⟨p',q'⟩
 ·omega
 ·omega
 ·omega
 ·have hp:(0:Int)<2^(-e).toNat:=Int.pow_pos (by decide)
  exact Int.eq_of_mul_eq_mul_right (Int.ne_of_gt hp) (q.symm.trans q')
theorem nL(b:Nat):eS b=bJ b:=by
 unfold eS bJ
 rfl
theorem Kt{b:Nat}{x:Int}(h:SV b x)(hb:-4611686018427387904≤x∧x≤4611686018427387904):f2i .f32 b .i64=some x:=by
 obtain⟨s,m,e,hr,h,hx⟩:=h
 unfold f2i
 have e1:FloatKind.f32.decode b = .number s m e:=hr
 rw[e1]
 have e2:(Ieee.Datum.number s m e).toInt .zero=some x:=by
  unfold Ieee.Datum.toInt Ieee.Datum.integral
  simp only[Qa h hx,oV,Int.pow_zero,Int.mul_one,rM hx]
 rw[e2]
 simp only
 have hm:IntKind.i64.min = -9223372036854775808∧IntKind.i64.max=9223372036854775807:=by decide
 rw[hm.1,hm.2,if_pos (by omega)]
theorem read_b:Ieee.single.read 1266679808 = .number false 8388608 1∧Ieee.single.read 3414163456 = .number true 8388608 1∧Op.negFloat .f32 1266679808=3414163456∧Ieee.double.read 4715268809856909312 = .number false 4503599627370496 (-28)∧Ieee.double.read 13938640846711685120 = .number true 4503599627370496 (-28):=by decide +kernel
theorem nv_b:NV false 8388608 1 16777216∧NV true 8388608 1 (-16777216)∧NV false 4503599627370496 (-28) 16777216∧NV true 4503599627370496 (-28) (-16777216):=
 ⟨.inl ⟨by decide,by decide⟩,.inl ⟨by decide,by decide⟩,.inr ⟨by decide,by decide⟩,.inr ⟨by decide,by decide⟩⟩
theorem Bo{b:Nat}{x:Int}(h:SV b x):aM b 1266679808=some (decide (-16777216≤x∧x≤16777216)):=by
 obtain⟨s,m,e,h1,h2,h3⟩:=h
 unfold aM
 rw[read_b.2.2.1]
 have g1:fcmp .leq .f32 3414163456 b=decide (-16777216≤x):=by
  unfold fcmp
  simp only
  rw[ord32 read_b.2.1 h1,kK nv_b.2.1 h3]
  exact cmpI.2.1
 have g2:fcmp .leq .f32 b 1266679808=decide (x≤16777216):=by
  unfold fcmp
  simp only
  rw[ord32 h1 read_b.1,kK h3 nv_b.1]
  exact cmpI.2.1
 rw[g1,g2]
 by_cases c:-16777216≤x
 ·rw[if_pos (decide_eq_true c)]
  congr 1
  rw[decide_eq_decide]
  omega
 ·rw[if_neg (by simpa using c)]
  congr 1
  symm
  rw[decide_eq_false_iff_not]
  omega
theorem xL(b c:Nat):∃ r,aM b c=some r:=by
 unfold aM
 split<;>exact⟨_,rfl⟩
structure RW(b:Nat)(o:Option Int):Prop where
 ws:eS b=some o.isSome
 val:∃ v,f2f .f32 b .f64=some v∧bX v=some o.isSome∧∀ x,o=some x→fcmp .gtr .f64 v 4715268809856909312=decide (16777216<x)∧fcmp .lss .f64 v 13938640846711685120=decide (x < -16777216)
theorem Cn(b:Nat):RW b none∨∃ x,SV b x∧RW b (some x):=by
 rcases xP b with⟨s,t,h⟩|⟨s,h⟩|⟨s,m,e,h,hm⟩
 ·obtain⟨h1,h2⟩:=Gg h
  exact .inl ⟨(nL b).trans h1,⟨_,h2,by decide +kernel,fun x hx=>by cases hx⟩⟩
 ·obtain⟨h1,h2⟩:=Hm h
  exact .inl ⟨(nL b).trans h1,⟨_,h2,by cases s<;>decide +kernel,fun x hx=>by cases hx⟩⟩
 ·obtain⟨M,E,hd⟩:=vQ (s:=s) hm
  by_cases hx:∃ x,NV s m e x
  ·obtain⟨x,hx⟩:=hx
   refine .inr ⟨x,⟨s,m,e,h,hm,hx⟩,(nL b).trans (uY h hm hx),⟨_,rB h hm,Ez hm hd hx,fun y hy=>?_⟩⟩
   cases hy
   have hX:=(hd.nv x).2 hx
   constructor
   ·unfold fcmp
    simp only
    rw[ord64 hd.rd read_b.2.2.2.1,kK hX nv_b.2.2.1]
    exact cmpI.2.2.2.1
   ·unfold fcmp
    simp only
    rw[ord64 hd.rd read_b.2.2.2.2,kK hX nv_b.2.2.2]
    exact cmpI.2.2.1
  ·have hx:∀ x,¬ NV s m e x:=fun x h=>hx ⟨x,h⟩
   exact .inl ⟨(nL b).trans (Fo h hm hx),⟨_,rB h hm,Gj hm hd hx,fun x hx=>by cases hx⟩⟩
open Classical in
noncomputable def wv(b:Nat):Option Int:=if h:∃ x,SV b x then some (Classical.choose h) else none
theorem Pc{b:Nat}{x:Int}(h:SV b x):wv b=some x:=by
 have hx:∃ x,SV b x:=⟨x,h⟩
 unfold wv
 rw[dif_pos hx,Lm (Classical.choose_spec hx) h]
theorem Ak{b:Nat}{x:Int}(h:wv b=some x):SV b x:=by
 unfold wv at h
 split at h
 ·rename_i hx
  obtain rfl:=Option.some.inj h
  exact Classical.choose_spec hx
 ·cases h
theorem Ek{b:Nat}:RW b (wv b):=by
 rcases Cn b with h|⟨x,h1,h2⟩
 ·have : wv b = none := by
    cases hw:wv b with
    | none=>rfl
    | some x =>
     have sv:=Ak hw
     obtain⟨s,m,e,g1,g2,g3⟩:=sv
     have:=(nL b).trans (uY g1 g2 g3)
     rw[h.ws] at this
     exact absurd (Option.some.inj this) (by decide)
  rw[this];exact h
 ·rw[Pc h1];exact h2
def sm24(x:Int):Bool:=decide (-16777216≤x∧x≤16777216)
noncomputable def cE(p:Nat×Nat):Int:=match wv p.1,wv p.2 with
 | some x,some y=>if sm24 x=true∧sm24 y=true then 0 else 2
 | _,_=>27
theorem fe9(a:Bool)(x:Int)(b:Bool)(y:Int)(hx:x≠0):aN a x b y=some (if a=true then x else if b=true then y else 0):=by
 unfold aN aA
 cases a
 ·cases b
  ·rfl
  ·by_cases hy:y=0<;>simp[hy]
 ·simp[hx]
theorem Dg(a b:Nat):gH a b=some (cE (a,b)):=by
 have ra:=Ek (b:=a)
 have rb:=Ek (b:=b)
 obtain⟨sa,hsa⟩:=xL a 1266679808
 obtain⟨sb,hsb⟩:=xL b 1266679808
 unfold gH cE aD
 rw[ra.ws,rb.ws,hsa,hsb]
 simp only[Option.bind_some]
 cases ha:wv a with
 | none =>
  simp only[Option.isSome_none,Bool.false_eq_true,if_false]
  cases sa<;>simp only[Bool.false_eq_true,if_false,if_true]<;>rw[fe9 _ _ _ _ (by decide)]<;>rfl
 | some x =>
  have h1:=Bo (Ak ha)
  rw[hsa] at h1
  have h1:=Option.some.inj h1
  cases hb:wv b with
  | none =>
   simp only[Option.isSome_none,Option.isSome_some,Bool.false_eq_true,if_false,if_true,Bool.not_false]
   cases sa<;>simp only[Bool.false_eq_true,if_false,if_true]<;>rw[fe9 _ _ _ _ (by decide)]<;>rfl
  | some y =>
   have h2:=Bo (Ak hb)
   rw[hsb] at h2
   have h2:=Option.some.inj h2
   simp only[Option.isSome_some,if_true,Bool.not_true]
   rw[h1,h2]
   unfold sm24
   by_cases c1:-16777216≤x∧x≤16777216<;>by_cases c2:-16777216≤y∧y≤16777216
   ·rw[decide_eq_true c1,decide_eq_true c2,if_pos rfl,fe9 _ _ _ _ (by decide)];rfl
   ·rw[decide_eq_true c1,decide_eq_false c2,if_pos rfl,fe9 _ _ _ _ (by decide)];rfl
   ·rw[decide_eq_false c1,decide_eq_true c2,if_neg (by decide),fe9 _ _ _ _ (by decide)];rfl
   ·rw[decide_eq_false c1,decide_eq_false c2,if_neg (by decide),fe9 _ _ _ _ (by decide)];rfl
noncomputable def nV(l:List (Nat×Nat))(k:Nat):Option Int:=match l[k]? with
 | some p=>if cE p=0 then none else some (cE p)
 | none=>none
noncomputable def lE(l:List (Nat×Nat)):Int:=if l.length=0 then 10 else if 1024<l.length then 8 else (bS (nV l) l.length).getD 0
theorem Hp(l:List (Nat×Nat))(hl:l.length≤1024):run (aT (l.length:Int) l) 0=some (match bS (nV l) l.length with|some e=>.inl e|none=>.inr ()):=by
 have H:∀ k:Nat,k<l.length→aT (l.length:Int) l (k:Int)=some (match nV l k with|none=>.inl ((k+1:Nat):Int)|some e=>.inr (.inl e)):=by
  intro k hk
  have hg:l[k]?=some l[k]:=List.getElem?_eq_getElem hk
  unfold aT dG nV
  rw[if_pos (by rw[decide_eq_true_eq];omega),aR,hg]
  simp only[Option.bind_some]
  rw[Dg]
  simp only[Option.bind_some]
  by_cases h:cE (l[k].1,l[k].2)=0
  ·have h':cE l[k]=0:=h
   rw[if_neg (by simpa using h),if_pos h',wsucc (n:=1024) (by omega) (by decide)]
  ·have h':cE l[k]≠0:=h
   rw[if_pos (by simpa using h),if_neg h']
 have h:=vM (step:=aT (l.length:Int) l) (p:=nV l) (n:=l.length) (r:=()) (fun k hk hb=>by
  have h1:=H k hk
  cases hs:nV l k<;>rw[hs] at h1<;>exact h1) (fun _=>by
  unfold aT
  rw[if_neg (by rw[decide_eq_true_eq];omega)])
 rw[h]
 cases bS (nV l) l.length<;>rfl
theorem uW{l:List (Nat×Nat)}{n:Nat}{e:Int}(h:bS (nV l) n=some e):e≠0:=by
 unfold bS at h
 obtain⟨k,_,hk⟩:=List.exists_of_findSome?_eq_some h
 unfold nV at hk
 split at hk
 ·split at hk
  ·cases hk
  ·rename_i hz
   have:=Option.some.inj hk
   rw[← this];exact hz
 ·cases hk
theorem xB(l:List (Nat×Nat)):aY l=some (lE l):=by
 unfold aY aD gK dU aA lE
 simp only[Option.bind_some]
 by_cases h0:l.length=0
 ·rw[if_pos h0]
  have e:decide ((l.length:Int)=0)=true:=by rw[decide_eq_true_eq];omega
  rw[e];rfl
 ·rw[if_neg h0]
  have e:decide ((l.length:Int)=0)=false:=by rw[decide_eq_false_iff_not];omega
  rw[e]
  by_cases h1:1024<l.length
  ·rw[if_pos h1]
   have e:decide ((l.length:Int)>1024)=true:=by rw[decide_eq_true_eq];omega
   rw[e];rfl
  ·rw[if_neg h1]
   have e:decide ((l.length:Int)>1024)=false:=by rw[decide_eq_false_iff_not];omega
   rw[e]
   simp only[Bool.false_eq_true,if_false,Option.bind_some,ne_eq,not_true_eq_false,decide_false]
   unfold fF
   rw[Hp l (by omega)]
   cases hf:bS (nV l) l.length with
   | none=>rfl
   | some e =>
    have:=uW hf
    simp[this]
theorem Bm(l:List (Nat×Nat)):dL l=some (lE l):=by
 unfold dL lE
 by_cases h0:l.length=0
 ·rw[if_pos h0,if_pos (by rw[decide_eq_true_eq];omega)]
 rw[if_neg h0,if_neg (by rw[decide_eq_true_eq];omega)]
 by_cases h1:1024<l.length
 ·rw[if_pos h1,if_pos (by rw[decide_eq_true_eq];omega)]
 rw[if_neg h1,if_neg (by rw[decide_eq_true_eq];omega)]
 have H:∀ k:Nat,k<l.length→cU l (k:Int)=some (match nV l k with|none=>.inl ((k+1:Nat):Int)|some e=>.inr (.inl e)):=by
  intro k hk
  have hg:l[k]?=some l[k]:=List.getElem?_eq_getElem hk
  have ra:=Ek (b:=l[k].1)
  have rb:=Ek (b:=l[k].2)
  obtain⟨va,a1,a2,a3⟩:=ra.val
  obtain⟨vb,b1,b2,b3⟩:=rb.val
  unfold cU nV
  rw[if_pos (by rw[decide_eq_true_eq];omega),aR,hg]
  simp only[Option.bind_some]
  rw[a1]
  simp only[Option.bind_some]
  rw[b1]
  simp only[Option.bind_some]
  rw[a2]
  simp only[Option.bind_some]
  unfold cE
  rw[wsucc (n:=1024) (by omega) (by decide)]
  cases ha:wv l[k].1 with
  | none=>simp
  | some x =>
   rw[ha] at a3
   simp only[Option.isSome_some,if_true]
   rw[b2]
   simp only[Option.bind_some]
   cases hb:wv l[k].2 with
   | none=>simp
   | some y =>
    rw[hb] at b3
    obtain⟨c1,c2⟩:=a3 x rfl
    obtain⟨d1,d2⟩:=b3 y rfl
    simp only[Option.isSome_some,if_true]
    rw[c1,c2,d1,d2]
    have hE:¬((-16777216≤x∧x≤16777216)∧(-16777216≤y∧y≤16777216))→(if sm24 x=true∧sm24 y=true then (0:Int) else 2)=2:=fun h=>if_neg (by unfold sm24;simp only[decide_eq_true_eq];exact h)
    have hE0:((-16777216≤x∧x≤16777216)∧(-16777216≤y∧y≤16777216))→(if sm24 x=true∧sm24 y=true then (0:Int) else 2)=0:=fun h=>if_pos (by unfold sm24;simp only[decide_eq_true_eq];exact h)
    by_cases p1:16777216<x
    ·rw[if_pos (decide_eq_true p1),hE (by omega)];rfl
    rw[if_neg (by simpa using p1)]
    by_cases p2:x < -16777216
    ·rw[if_pos (decide_eq_true p2),hE (by omega)];rfl
    rw[if_neg (by simpa using p2)]
    by_cases p3:16777216<y
    ·rw[if_pos (decide_eq_true p3),hE (by omega)];rfl
    rw[if_neg (by simpa using p3)]
    by_cases p4:y < -16777216
    ·rw[if_pos (decide_eq_true p4),hE (by omega)];rfl
    rw[if_neg (by simpa using p4),hE0 (by omega)];rfl
 have h:=vM (step:=cU l) (p:=nV l) (n:=l.length) (r:=()) (fun k hk hb=>by
  have h1:=H k hk
  cases hs:nV l k<;>rw[hs] at h1<;>exact h1) (fun _=>by
  unfold cU
  rw[if_neg (by rw[decide_eq_true_eq];omega)])
 rw[h]
 cases bS (nV l) l.length<;>rfl
noncomputable def num(p:Nat×Nat):Int×Int:=((wv p.1).getD 0,(wv p.2).getD 0)
noncomputable def nums(l:List (Nat×Nat)):List (Int×Int):=l.map num
def small(z:Int×Int):Prop:=(-16777216≤z.1∧z.1≤16777216)∧(-16777216≤z.2∧z.2≤16777216)
instance (z:Int×Int):Decidable (small z):=by unfold small;exact inferInstance
def PV(p:Nat×Nat)(z:Int×Int):Prop:=SV p.1 z.1∧SV p.2 z.2
structure GoodL(l:List (Nat×Nat)):Prop where
 len:0<l.length∧l.length≤1024
 val:∀ p∈l,PV p (num p)∧small (num p)
theorem Lk{p:Nat×Nat}(h:cE p=0):PV p (num p)∧small (num p):=by
 unfold cE at h
 unfold num PV small
 cases ha:wv p.1 with
 | none=>rw[ha] at h;exact absurd h (by simp)
 | some x =>
  cases hb:wv p.2 with
  | none=>rw[ha,hb] at h;exact absurd h (by simp)
  | some y =>
   rw[ha,hb] at h
   simp only at h
   split at h
   ·rename_i hc
    unfold sm24 at hc
    simp only[decide_eq_true_eq] at hc
    exact⟨⟨Ak ha,Ak hb⟩,hc⟩
   ·exact absurd h (by decide)
theorem tY{l:List (Nat×Nat)}(h:lE l=0):GoodL l:=by
 unfold lE at h
 by_cases h0:l.length=0
 ·rw[if_pos h0] at h;exact absurd h (by decide)
 rw[if_neg h0] at h
 by_cases h1:1024<l.length
 ·rw[if_pos h1] at h;exact absurd h (by decide)
 rw[if_neg h1] at h
 refine⟨⟨by omega,by omega⟩,fun p hp=>?_⟩
 cases hf:bS (nV l) l.length with
 | some e=>rw[hf] at h;exact absurd h (uW hf)
 | none =>
  obtain⟨k,hk⟩:=List.mem_iff_getElem?.1 hp
  have hkl:=(List.getElem?_eq_some_iff.1 hk).1
  have:=firstOf_none.1 hf k hkl
  unfold nV at this
  rw[hk] at this
  simp only at this
  split at this
  ·rename_i hz;exact Lk hz
  ·cases this
theorem hZ(l:List (Nat×Nat)):(nums l).length=l.length:=by unfold nums;simp
theorem Ee{l:List (Nat×Nat)}{k:Nat}(hk:k<l.length):(nums l)[k]?=some (num l[k]):=by
 unfold nums
 rw[List.getElem?_map,List.getElem?_eq_getElem hk]
 rfl
theorem oY{b:Nat}{x:Int}(h:SV b x)(hb:-16777216≤x∧x≤16777216):f2i .f32 b .i64=some x:=Kt h (by omega)
theorem xD{l:List (Nat×Nat)}(G:GoodL l):cN l=some (nums l):=by
 have hle:=G.len
 have key:=gJ (step:=bL l) (st:=fun k (b:List (Int×Int))=>(b,(k:Int))) (g:=fun k b=>b++[num (l.getD k (0,0))]) (fin:=fun b=>b) l.length
  (fun k b=>b=(nums l).take k) (b0:=[]) (by simp) (fun k b hk hb=>by
   subst hb
   have hg:l[k]?=some l[k]:=List.getElem?_eq_getElem hk
   have hd:l.getD k (0,0)=l[k]:=by rw[List.getD_eq_getElem?_getD,hg];rfl
   have hv:=G.val l[k] (List.getElem_mem hk)
   rw[hd]
   refine⟨?_,by rw[List.take_add_one,Ee hk];rfl⟩
   unfold bL bW
   simp only
   rw[if_pos (by rw[decide_eq_true_eq];omega),aR,hg]
   simp only[Option.bind_some]
   rw[oY hv.1.1 hv.2.1,oY hv.1.2 hv.2.2]
   simp only[Option.bind_some,iP]
   rw[if_pos (by simp;omega),wsucc (n:=1024) (by omega) (by decide)]
   rfl) (fun b hb=>by
   unfold bL
   simp only
   rw[if_neg (by rw[decide_eq_true_eq];omega)])
 have hI:=key.2 l.length (Nat.le_refl _)
 have hr:=key.1
 rw[hI,List.take_of_length_le (by rw[hZ];omega)] at hr
 unfold cN
 simp only[Int.natCast_zero] at hr
 rw[hr]
 rfl
theorem Aq{l:List (Nat×Nat)}(G:GoodL l):eY l=some (nums l):=by
 have h:=xD G
 unfold eY
 unfold cN at h
 have e:fR l=bL l:=by
  funext ⟨v3,v4⟩
  unfold fR bL bW
  simp only
  by_cases c:decide (v4<(l.length:Int))=true
  ·rw[if_pos c,if_pos c]
   cases bR l v4 with
   | none=>rfl
   | some p =>
    simp only[Option.bind_some]
    cases f2i .f32 p.1 .i64 with
    | none=>rfl
    | some x =>
     simp only[Option.bind_some]
     cases f2i .f32 p.2 .i64<;>rfl
  ·rw[if_neg c,if_neg c]
 rw[e]
 exact h
noncomputable def mZ(z:Int×Int):Nat×Nat:=(FloatKind.f32.nearest z.1,FloatKind.f32.nearest z.2)
theorem pD{x:Int}(h:-16777216≤x∧x≤16777216):SV (FloatKind.f32.nearest x) x:=by
 by_cases h1:x=16777216
 ·subst h1
  have e:FloatKind.f32.nearest 16777216=1266679808:=by decide +kernel
  rw[e]
  exact⟨_,_,_,read_b.1,Cf read_b.1,nv_b.1⟩
 by_cases h2:x = -16777216
 ·subst h2
  have e:FloatKind.f32.nearest (-16777216)=3414163456:=by decide +kernel
  rw[e]
  exact⟨_,_,_,read_b.2.1,Cf read_b.2.1,nv_b.2.1⟩
 have h24:(16777216:Nat)=2^24:=by decide
 exact Kv (by rw[← h24];omega)
theorem Lv{z:Int×Int}(h:small z):PV (mZ z) z:=⟨pD h.1,pD h.2⟩
theorem uZ(x:Int):bP x 16777216=some (decide (-16777216≤x∧x≤16777216)):=by
 unfold bP
 rw[w64 (x:=0-16777216) (by omega)]
 by_cases c:-16777216≤x
 ·rw[if_pos (by rw[decide_eq_true_eq];omega)]
  congr 1
  rw[decide_eq_decide]
  omega
 ·rw[if_neg (by rw[decide_eq_true_eq];omega)]
  congr 1
  symm
  rw[decide_eq_false_iff_not]
  omega
theorem Fj(z:Int×Int):(bK z.1 z.2 16777216).bind (fun (v6,v7)=>(aA v6 v7).bind fun v8=>some v8)=some (if small z then 0 else 8):=by
 unfold bK aD aA small
 rw[uZ,uZ]
 simp only[Option.bind_some]
 by_cases c1:-16777216≤z.1∧z.1≤16777216<;>by_cases c2:-16777216≤z.2∧z.2≤16777216<;>simp[c1,c2]
def iG(w:List (Int×Int))(k:Nat):Option Int:=match w[k]? with
 | some z=>if small z then none else some 8
 | none=>none
noncomputable def rec(w:List (Int×Int)):List (Nat×Nat)×Int:=if ∀ z∈w,small z then (w.map mZ,0) else ([],8)
theorem big_none{w:List (Int×Int)}:bS (iG w) w.length=none↔∀ z∈w,small z:=by
 rw[firstOf_none]
 constructor
 ·intro h z hz
  obtain⟨k,hk⟩:=List.mem_iff_getElem?.1 hz
  have:=h k (List.getElem?_eq_some_iff.1 hk).1
  unfold iG at this
  rw[hk] at this
  simp only at this
  split at this
  ·assumption
  ·cases this
 ·intro h k hk
  unfold iG
  rw[List.getElem?_eq_getElem hk]
  simp only
  rw[if_pos (h _ (List.getElem_mem hk))]
theorem Gz{w:List (Int×Int)}{n:Nat}{e:Int}(h:bS (iG w) n=some e):e=8:=by
 unfold bS at h
 obtain⟨k,_,hk⟩:=List.exists_of_findSome?_eq_some h
 unfold iG at hk
 split at hk
 ·split at hk
  ·cases hk
  ·exact (Option.some.inj hk).symm
 ·cases hk
theorem Gy(w:List (Int×Int))(hw:w.length≤4096):run (cL w) (([]:List (Nat×Nat)),0)=some (w.map mZ):=by
 have key:=gJ (step:=cL w) (st:=fun k (b:List (Nat×Nat))=>(b,(k:Int))) (g:=fun k b=>b++[mZ (w.getD k (0,0))]) (fin:=fun b=>b) w.length
  (fun k b=>b=(w.map mZ).take k) (b0:=[]) (by simp) (fun k b hk hb=>by
   subst hb
   have hg:w[k]?=some w[k]:=List.getElem?_eq_getElem hk
   have hd:w.getD k (0,0)=w[k]:=by rw[List.getD_eq_getElem?_getD,hg];rfl
   rw[hd]
   refine⟨?_,by rw[List.take_add_one,List.getElem?_map,hg];rfl⟩
   unfold cL
   simp only
   rw[if_pos (by rw[decide_eq_true_eq];omega),aR,hg]
   simp only[Option.bind_some,iP]
   rw[if_pos (by simp;omega),wsucc (n:=4096) (by omega) (by decide)]
   rfl) (fun b hb=>by
   unfold cL
   simp only
   rw[if_neg (by rw[decide_eq_true_eq];omega)])
 have hI:=key.2 w.length (Nat.le_refl _)
 have hr:=key.1
 rw[hI,List.take_of_length_le (by simp)] at hr
 simp only[Int.natCast_zero] at hr
 exact hr
theorem Hw(w:List (Int×Int))(hw:w.length≤4096):eX w=some (rec w):=by
 have H:∀ k:Nat,k<w.length→bF (w.length:Int) w (k:Int)=some (match iG w k with|none=>.inl ((k+1:Nat):Int)|some e=>.inr (.inl e)):=by
  intro k hk
  have hg:w[k]?=some w[k]:=List.getElem?_eq_getElem hk
  unfold bF dK iG
  rw[if_pos (by rw[decide_eq_true_eq];omega),aR,hg]
  simp only[Option.bind_some]
  have:=Fj w[k]
  rw[this]
  simp only[Option.bind_some]
  by_cases h:small w[k]
  ·rw[if_pos h,if_pos h,if_neg (by decide),wsucc (n:=4096) (by omega) (by decide)]
  ·rw[if_neg h,if_neg h,if_pos (by decide)]
 have h:=vM (step:=bF (w.length:Int) w) (p:=iG w) (n:=w.length) (r:=()) (fun k hk hb=>by
  have h1:=H k hk
  cases hs:iG w k<;>rw[hs] at h1<;>exact h1) (fun _=>by
  unfold bF
  rw[if_neg (by rw[decide_eq_true_eq];omega)])
 unfold eX gM fE rec
 simp only[Option.bind_some]
 rw[h]
 cases hf:bS (iG w) w.length with
 | none =>
  rw[if_pos (big_none.1 hf)]
  simp only[Option.bind_some]
  rw[if_neg (by decide),Gy w hw]
  rfl
 | some e =>
  obtain rfl:=Gz hf
  rw[if_neg (fun h=>by rw[big_none.2 h] at hf;cases hf)]
  rfl
theorem size24{x:Int}(h:-4611686018427387904≤x∧x≤4611686018427387904):∃ y,mE x=some y∧(y>16777216↔¬(-16777216≤x∧x≤16777216)):=by
 refine⟨_,rfl,?_⟩
 rw[w64 (x:=0-x) (by omega)]
 split<;>omega
def mid(z:Int×Int):Prop:=(-4611686018427387904≤z.1∧z.1≤4611686018427387904)∧(-4611686018427387904≤z.2∧z.2≤4611686018427387904)
theorem Lc(w:List (Int×Int))(hw:w.length≤4096)(hm:∀ z∈w,mid z):iQ w=some (rec w):=by
 let F:Nat→List (Nat×Nat):=fun k=>(w.map mZ).take k
 have H:∀ k:Nat,k<w.length→bA w (F k,(k:Int))=some (match iG w k with|none=>.inl (F (k+1),((k+1:Nat):Int))|some e=>.inr (.inl ())):=by
  intro k hk
  have hg:w[k]?=some w[k]:=List.getElem?_eq_getElem hk
  have m:=hm w[k] (List.getElem_mem hk)
  obtain⟨a,a1,a2⟩:=size24 m.1
  obtain⟨b,b1,b2⟩:=size24 m.2
  have hF:F (k+1)=F k++[mZ w[k]]:=by
   show (w.map mZ).take (k+1)=_
   rw[List.take_add_one,List.getElem?_map,hg];rfl
  unfold bA iG
  simp only
  rw[if_pos (by rw[decide_eq_true_eq];omega),aR,hg]
  simp only[Option.bind_some]
  rw[a1]
  simp only[Option.bind_some]
  rw[b1]
  simp only[Option.bind_some]
  by_cases c1:a>16777216
  ·rw[if_pos (decide_eq_true c1),if_neg (fun h=>(a2.1 c1) h.1)]
  rw[if_neg (by simpa using c1)]
  by_cases c2:b>16777216
  ·rw[if_pos (decide_eq_true c2),if_neg (fun h=>(b2.1 c2) h.2)]
  rw[if_neg (by simpa using c2)]
  have hs:small w[k]:=⟨Classical.not_not.1 (fun h=>c1 (a2.2 h)),Classical.not_not.1 (fun h=>c2 (b2.2 h))⟩
  rw[if_pos hs,hF]
  unfold iP
  rw[if_pos (by
   have:(F k).length≤k:=by show ((w.map mZ).take k).length≤k;simp;omega
   simp;omega),wsucc (n:=4096) (by omega) (by decide)]
  rfl
 unfold iQ jA rec
 cases hf:bS (iG w) w.length with
 | none =>
  rw[if_pos (big_none.1 hf)]
  have key:=gJ (step:=bA w) (st:=fun k (b:Unit)=>(F k,(k:Int))) (g:=fun k b=>b) (fin:=fun b=>(.inr (w.map mZ):Unit ⊕ List (Nat×Nat))) w.length (fun k b=>True) (b0:=()) trivial
   (fun k b hk _=>⟨by rw[H k hk,firstOf_none.1 hf k hk],trivial⟩) (fun b _=>by
    unfold bA
    simp only
    rw[if_neg (by rw[decide_eq_true_eq];omega)]
    show some (Sum.inr (Sum.inr ((w.map mZ).take w.length)))=_
    rw[List.take_of_length_le (by simp)])
  have k1:run (bA w) (([]:List (Nat×Nat)),0)=some (.inr (w.map mZ)):=by
   have:=key.1
   simpa [F] using this
  rw[k1]
  rfl
 | some e =>
  rw[if_neg (fun h=>by rw[big_none.2 h] at hf;cases hf)]
  have h1:∃ k,k<w.length∧iG w k≠none:=by
   unfold bS at hf
   obtain⟨k,h1,hk⟩:=List.exists_of_findSome?_eq_some hf
   exact⟨k,List.mem_range.1 h1,by rw[hk];simp⟩
  obtain⟨k,k1,k2⟩:=h1
  have hex:∃ m,m<w.length∧iG w m≠none∧∀ j,j<m→iG w j=none:=by
   induction k using Nat.strongRecOn with
   | ind k ih =>
    by_cases h:∃ j,j<k∧iG w j≠none
    ·obtain⟨j,j1,j2⟩:=h
     exact ih j j1 (by omega) j2
    ·exact⟨k,k1,k2,fun j hj=>Classical.not_not.1 (fun q=>h ⟨j,hj,q⟩)⟩
  obtain⟨m,m1,m2,m3⟩:=hex
  have key:=gJ (step:=bA w) (st:=fun k (b:Unit)=>(F k,(k:Int))) (g:=fun k b=>b) (fin:=fun b=>(.inl ():Unit ⊕ List (Nat×Nat))) m (fun k b=>True) (b0:=()) trivial
   (fun k b hk _=>⟨by rw[H k (by omega),m3 k hk],trivial⟩) (fun b _=>by
    have:=H m m1
    cases hb:iG w m with
    | none=>exact absurd hb m2
    | some e=>rw[hb] at this;exact this)
  have k1:run (bA w) (([]:List (Nat×Nat)),0)=some (.inl ()):=by
   have:=key.1
   simpa [F] using this
  rw[k1]
  rfl
theorem wW(l:List (Nat×Nat))(hl:l.length≤1026):eN l=some l:=by
 have key:=gJ (step:=fL l) (st:=fun k (b:List (Nat×Nat))=>(b,(k:Int))) (g:=fun k b=>b++[l.getD k (0,0)]) (fin:=fun b=>b) l.length
  (fun k b=>b=l.take k) (b0:=[]) (by simp) (fun k b hk hb=>by
   subst hb
   have hg:l[k]?=some l[k]:=List.getElem?_eq_getElem hk
   have hd:l.getD k (0,0)=l[k]:=by rw[List.getD_eq_getElem?_getD,hg];rfl
   rw[hd]
   refine⟨?_,by rw[List.take_add_one,hg];rfl⟩
   unfold fL
   simp only
   rw[if_pos (by rw[decide_eq_true_eq];omega),aR,hg]
   simp only[Option.bind_some,iP]
   rw[if_pos (by simp;omega),wsucc (n:=1026) (by omega) (by decide)]
   rfl) (fun b hb=>by
   unfold fL
   simp only
   rw[if_neg (by rw[decide_eq_true_eq];omega)])
 have hI:=key.2 l.length (Nat.le_refl _)
 have hr:=key.1
 rw[hI,List.take_of_length_le (Nat.le_refl _)] at hr
 unfold eN
 simp only[Int.natCast_zero] at hr
 rw[hr]
 rfl
theorem xK{l:List (Nat×Nat)}(h:eD l=some true):l.length≤40∨(1024<l.length∧l.length≤1026):=by
 unfold eD at h
 split at h
 ·rename_i q
  have:=of_decide_eq_true q
  omega
 ·split at h
  ·rename_i q
   have h1:=of_decide_eq_true q
   have:=of_decide_eq_true (Option.some.inj h)
   omega
  ·cases h
theorem Bi(l:List (Nat×Nat)):∃ b,eD l=some b:=by
 unfold eD
 split
 ·exact⟨_,rfl⟩
 ·split<;>exact⟨_,rfl⟩
theorem Ke{b:Nat}{x:Int}(h:SV b x):∃ v,f2f .f32 b .f64=some v∧fbits .f64 v=some ((v:Nat):Int):=by
 obtain⟨s,m,e,h1,h2,h3⟩:=h
 obtain⟨M,E,hd⟩:=vQ (s:=s) h2
 refine⟨_,rB h1 h2,?_⟩
 have hn:=kL (k:=.f64) hd.rd
 unfold fbits
 rw[if_neg (by rw[hn];decide)]
theorem sC(l:List (Nat×Nat))(hl:l.length≤4096)(h:∀ p∈l,∃ z,PV p z):bB l l=some true:=by
 unfold bB
 rw[if_neg (by simp)]
 have:run (cM l l) 0=some (.inr ()):=by
  refine rX (fun k=>(k:Int)) (n:=l.length) (fun k hk=>?_) ?_
  ·obtain⟨z,z1,z2⟩:=h l[k] (List.getElem_mem hk)
   obtain⟨a,a1,a2⟩:=Ke z1
   obtain⟨b,b1,b2⟩:=Ke z2
   unfold cM iX
   rw[if_pos (by rw[decide_eq_true_eq];omega),aR,List.getElem?_eq_getElem hk]
   simp only[Option.bind_some,a1,b1,a2,b2,decide_true,if_true]
   rw[wsucc (n:=4096) (by omega) (by decide)]
  ·unfold cM
   rw[if_neg (by rw[decide_eq_true_eq];omega)]
 rw[this]
 rfl
theorem Ka(w:List (Int×Int))(hw:w.length≤4096):bB (rec w).1 (rec w).1=some true:=by
 unfold rec
 split
 ·rename_i h
  refine sC _ (by simp;omega) (fun p hp=>?_)
  obtain⟨z,hz,rfl⟩:=List.mem_map.1 hp
  exact⟨z,Lv (h z hz)⟩
 ·exact sC _ (by simp) (fun p hp=>by simp at hp)
end Go.Rex
namespace Go.Rex
def fbit(L s:Nat)(ts:List Nat):Nat:=ts.foldl (fun a t=>(a+s/2^(L-t)%2)%2) 0
def nx(L:Nat)(ts:List Nat)(s:Nat):Nat:=s/2+fbit L s ts*2^(L-1)
structure Reg(L:Nat)(ts:List Nat):Prop where
 two:2≤L
 most:L≤8
 le:∀ t,t∈ts→1≤t∧t≤L
 last:∃ t',ts=t'++[L]∧∀ t,t∈t'→t<L
 len:ts.length≤12
section
variable {L:Nat} {ts:List Nat} {s:Nat}
end
end Go.Rex
namespace Go.Rex
section
variable {L:Nat} {ts:List Nat} {s:Nat}
end
end Go.Rex
namespace Go.Rex
theorem xM(x a b:Int):cY x a b=some (decide (a≤x∧x≤b)):=by
 unfold cY
 by_cases h:a≤x<;>simp[h]
theorem Co(x a b:Int):fA x a b=some (!decide (a≤x∧x≤b),2):=by
 unfold fA aD
 by_cases h:x<a
 ·rw[if_pos (by simpa using h)]
  have:¬(a≤x∧x≤b):=by omega
  simp[this]
 ·rw[if_neg (by simpa using h)]
  by_cases h2:x≤b
  ·have h3:a≤x∧x≤b:=by omega
   have h4:¬ x>b:=by omega
   simp[h3,h4]
  ·have h3:¬(a≤x∧x≤b):=by omega
   have h4:x>b:=by omega
   simp only[h3,h4,decide_true,decide_false,Bool.not_false,Option.bind_some]
end Go.Rex
namespace Go.Rex
open Go Go.Rex
set_option maxRecDepth 100000
def chkf{α ε:Type}(P:α→Prop)[DecidablePred P](e:ε)(_:Unit)(z:α):Unit ⊕ ε:=if P z then .inl () else .inr e
theorem vT{α ε:Type}(P:α→Prop)[DecidablePred P](e:ε)(fin:Unit→ε):∀ l:List α,walk (chkf P e) fin () l=if ∀ z∈l,P z then fin () else e
 | []=>by simp[walk]
 | z::l=>by
  simp only[walk]
  by_cases h:P z
  ·rw[show chkf P e () z = .inl () from if_pos h]
   simp only
   rw[vT P e fin l]
   by_cases h2:∀ z∈l,P z
   ·rw[if_pos h2,if_pos (by intro y hy;rcases List.mem_cons.1 hy with rfl|hy;exact h;exact h2 y hy)]
   ·rw[if_neg h2,if_neg (fun h3=>h2 fun y hy=>h3 y (List.mem_cons_of_mem _ hy))]
  ·rw[show chkf P e () z = .inr e from if_neg h,if_neg (fun h3=>h (h3 z List.mem_cons_self))]
theorem qK{α β ε:Type}(g:α→β)(fin:List β→ε):∀(l:List α) (b:List β),walk (fun b z=>(.inl (b++[g z]):List β ⊕ ε)) fin b l=fin (b++l.map g)
 | [],b=>by simp[walk]
 | z::l,b=>by
  simp only[walk]
  rw[qK g fin l]
  simp
theorem xE{α β γ ε:Type}(g:α→β)(h:α→γ)(fin:List β×List γ→ε):∀(l:List α) (b:List β×List γ),walk (fun b z=>(.inl (b.1++[g z],b.2++[h z]):List β×List γ ⊕ ε)) fin b l=fin (b.1++l.map g,b.2++l.map h)
 | [],b=>by simp[walk]
 | z::l,b=>by
  simp only[walk]
  rw[xE g h fin l]
  simp
def ltl(z:Int×Int):Prop:=(-32767≤z.1∧z.1≤32767)∧(-32767≤z.2∧z.2≤32767)
instance (z:Int×Int):Decidable (ltl z):=by unfold ltl;exact inferInstance
theorem Al(x:Int):bP x 32767=some (decide (-32767≤x∧x≤32767)):=by
 unfold bP
 rw[w64 (x:=0-32767) (by omega)]
 by_cases c:-32767≤x
 ·rw[if_pos (by rw[decide_eq_true_eq];omega)]
  congr 1
  rw[decide_eq_decide]
  omega
 ·rw[if_neg (by rw[decide_eq_true_eq];omega)]
  congr 1
  symm
  rw[decide_eq_false_iff_not]
  omega
theorem Kr(z:Int×Int):(bK z.1 z.2 32767).bind (fun (v6,v7)=>(aA v6 v7).bind fun v8=>some v8)=some (if ltl z then 0 else 8):=by
 unfold bK aD aA ltl
 rw[Al,Al]
 simp only[Option.bind_some]
 by_cases c1:-32767≤z.1∧z.1≤32767<;>by_cases c2:-32767≤z.2∧z.2≤32767<;>simp[c1,c2]
theorem sJ{p:Nat×Nat}{z:Int×Int}(h:PV p z)(hs:small z):bW p.1 p.2=some z:=by
 unfold bW
 rw[oY h.1 hs.1,Option.bind_some,oY h.2 hs.2,Option.bind_some]
theorem Fb{l:List (Nat×Nat)}(G:GoodL l):dP (l.length:Int) l=some (if ∀ p∈l,ltl (num p) then 0 else 8):=by
 have g:=G.len
 have key:=gE (step:=bQ (l.length:Int) l) (fun k (_:Unit)=>(k:Int)) (chkf (fun p=>ltl (num p)) (.inl 8:Int ⊕ Unit)) (fun _=>.inr ()) (fun _ _=>True) l
  (fun k p b hz _=>by
   have hk:=(List.getElem?_eq_some_iff.1 hz).1
   obtain⟨v1,v2⟩:=G.val p (List.mem_iff_getElem?.2 ⟨k,hz⟩)
   have e:=Kr (num p)
   unfold bQ fC chkf
   refine⟨?_,fun _ _=>trivial⟩
   rw[if_pos (by rw[decide_eq_true_eq];omega),aR,hz,Option.bind_some]
   try simp only
   rw[sJ v1 v2,Option.bind_some]
   try simp only
   rw[e,Option.bind_some,wsucc (n:=1024) (by omega) (by decide)]
   by_cases h:ltl (num p)
   ·rw[if_pos h,if_pos h,if_neg (by decide)]
   ·rw[if_neg h,if_neg h,if_pos (by decide)])
  (fun b _=>by
   unfold bQ
   rw[if_neg (by rw[decide_eq_true_eq];omega)]) (b0:=()) trivial
 rw[vT] at key
 simp only[Int.natCast_zero] at key
 unfold dP
 rw[key,Option.bind_some]
 by_cases h:∀ p∈l,ltl (num p)
 ·rw[if_pos h,if_pos h]
 ·rw[if_neg h,if_neg h]
noncomputable def nr(x:Int):Nat:=FloatKind.f32.nearest x
theorem Dj(W:List (Int×Int))(lW:W.length≤1024):run (eP W) (([]:List Nat),([]:List Nat),0)=some (W.map (fun z=>nr z.1),W.map (fun z=>nr z.2)):=by
 have key:=gE (step:=eP W) (fun k (b:List Nat×List Nat)=>(b.1,b.2,(k:Int))) (fun b z=>(.inl (b.1++[nr z.1],b.2++[nr z.2]):(List Nat×List Nat) ⊕ (List Nat×List Nat))) (fun b=>b) (fun k b=>b.1.length=k∧b.2.length=k) W
  (fun k z b hz hb=>by
   have hk:=(List.getElem?_eq_some_iff.1 hz).1
   refine⟨?_,fun b' hb'=>by obtain rfl:=Sum.inl.inj hb';simp[hb.1,hb.2]⟩
   unfold eP
   try simp only
   rw[if_pos (by rw[decide_eq_true_eq];omega),aR,hz,Option.bind_some]
   try simp only
   unfold iP
   rw[if_pos (by simp;omega),Option.bind_some,if_pos (by simp;omega),Option.bind_some,wsucc (n:=1024) (by omega) (by decide)]
   rfl)
  (fun b hb=>by
   unfold eP
   simp only
   rw[if_neg (by rw[decide_eq_true_eq];omega)]) (b0:=([],[])) ⟨rfl,rfl⟩
 rw[xE] at key
 exact key
theorem get01(a b:Int):bR [a,b] 0=some a∧bR [a,b] 1=some b:=by
 exact⟨aR (xs:=[a,b]) (k:=0),aR (xs:=[a,b]) (k:=1)⟩
theorem Eq(W:List (Int×Int))(lW:W.length≤1024):fX W 0=some (W.map (·.1))∧fX W 1=some (W.map (·.2)):=by
 have step:∀(i:Int) (g:Int×Int→Int),(∀ z:Int×Int,bR [z.1,z.2] i=some (g z))→fX W i=some (W.map g):=by
  intro i g hg
  have key:=gE (step:=fM W i) (fun k (b:List Int)=>(b,(k:Int))) (fun b z=>(.inl (b++[g z]):List Int ⊕ List Int)) (fun b=>b) (fun k b=>b.length=k) W
   (fun k z b hz hb=>by
    have hk:=(List.getElem?_eq_some_iff.1 hz).1
    refine⟨?_,fun b' hb'=>by obtain rfl:=Sum.inl.inj hb';simp[hb]⟩
    unfold fM
    simp only
    rw[if_pos (by rw[decide_eq_true_eq];omega),aR,hz,Option.bind_some]
    try simp only
    rw[hg,Option.bind_some]
    unfold iP
    rw[if_pos (by simp;omega),Option.bind_some,wsucc (n:=1024) (by omega) (by decide)])
   (fun b hb=>by
    unfold fM
    simp only
    rw[if_neg (by rw[decide_eq_true_eq];omega)]) (b0:=[]) rfl
  rw[qK] at key
  simp only[Int.natCast_zero,List.nil_append] at key
  unfold fX
  rw[key,Option.bind_some]
 exact⟨step 0 _ fun z=>(get01 _ _).1,step 1 _ fun z=>(get01 _ _).2⟩
theorem Bf(w:List Int)(lw:w.length≤1024):eW w 32767=some (if ∀ x∈w,-32767≤x∧x≤32767 then 0 else 2):=by
 have key:=gE (step:=dF w 32767) (fun k (_:Unit)=>(k:Int)) (chkf (fun x=>-32767≤x∧x≤32767) (.inl ():Unit ⊕ Unit)) (fun _=>.inr ()) (fun _ _=>True) w
  (fun k x b hz _=>by
   have hk:=(List.getElem?_eq_some_iff.1 hz).1
   refine⟨?_,fun _ _=>trivial⟩
   unfold dF chkf
   rw[if_pos (by rw[decide_eq_true_eq];omega),aR,hz,Option.bind_some,w64 (x:=0-32767) (by omega),xM,Option.bind_some,wsucc (n:=1024) (by omega) (by decide)]
   by_cases h:-32767≤x∧x≤32767
   ·rw[if_pos h,if_pos (by rw[decide_eq_true_eq];omega)]
   ·rw[if_neg h,if_neg (by rw[decide_eq_true_eq];omega)])
  (fun b _=>by
   unfold dF
   rw[if_neg (by rw[decide_eq_true_eq];omega)]) (b0:=()) trivial
 rw[vT] at key
 simp only[Int.natCast_zero] at key
 unfold eW
 rw[key,Option.bind_some]
 by_cases h:∀ x∈w,-32767≤x∧x≤32767
 ·rw[if_pos h,if_pos h]
 ·rw[if_neg h,if_neg h]
theorem near1(w:List Int)(lw:w.length≤1024):run (eT w) (([]:List Nat),0)=some (w.map nr)∧run (eQ w) (([]:List Nat),0)=some (w.map nr):=by
 constructor
 ·have key := gE (step := eT w) (fun k (b : List Nat) => (b, (k : Int))) (fun b z => (.inl (b ++ [nr z]) : List Nat ⊕ List Nat)) (fun b => b) (fun k b => b.length = k) w
    (fun k z b hz hb=>by
     have hk:=(List.getElem?_eq_some_iff.1 hz).1
     refine⟨?_,fun b' hb'=>by obtain rfl:=Sum.inl.inj hb';simp[hb]⟩
     unfold eT
     simp only
     rw[if_pos (by rw[decide_eq_true_eq];omega),aR,hz,Option.bind_some]
     unfold iP
     rw[if_pos (by simp;omega),Option.bind_some,wsucc (n:=1024) (by omega) (by decide)]
     rfl)
    (fun b hb=>by
     unfold eT
     simp only
     rw[if_neg (by rw[decide_eq_true_eq];omega)]) (b0:=[]) rfl
  rw[qK] at key
  exact key
 ·have key := gE (step := eQ w) (fun k (b : List Nat) => (b, (k : Int))) (fun b z => (.inl (b ++ [nr z]) : List Nat ⊕ List Nat)) (fun b => b) (fun k b => b.length = k) w
    (fun k z b hz hb=>by
     have hk:=(List.getElem?_eq_some_iff.1 hz).1
     refine⟨?_,fun b' hb'=>by obtain rfl:=Sum.inl.inj hb';simp[hb]⟩
     unfold eQ
     simp only
     rw[if_pos (by rw[decide_eq_true_eq];omega),aR,hz,Option.bind_some]
     unfold iP
     rw[if_pos (by simp;omega),Option.bind_some,wsucc (n:=1024) (by omega) (by decide)]
     rfl)
    (fun b hb=>by
     unfold eQ
     simp only
     rw[if_neg (by rw[decide_eq_true_eq];omega)]) (b0:=[]) rfl
  rw[qK] at key
  exact key
noncomputable def sG(l:List (Nat×Nat))(r:Int):Int×List Nat×Int×List Nat×Int:=
 if lE l≠0 then (0,[],0,[],lE l) else if 8000≤r∧r≤192000 then if ∀ p∈l,ltl (num p) then (r,(nums l).map (fun z=>nr z.1),r,(nums l).map (fun z=>nr z.2),0) else (0,[],0,[],8) else (0,[],0,[],2)
theorem qM{l:List (Nat×Nat)}(P:Int×Int→Prop):(∀ z∈nums l,P z)↔∀ p∈l,P (num p):=by
 unfold nums
 constructor
 ·intro h p hp
  exact h _ (List.mem_map.2 ⟨p,hp,rfl⟩)
 ·intro h z hz
  obtain⟨p,hp,rfl⟩:=List.mem_map.1 hz
  exact h p hp
theorem xJ(l:List (Nat×Nat))(r:Int):iM l r=some (sG l r):=by
 unfold iM eF gL dT aA sG
 rw[Option.bind_some,Co,Option.bind_some]
 simp only
 rw[Option.bind_some]
 simp only
 rw[xB,Option.bind_some]
 by_cases h1:lE l=0
 ·have G:=tY h1
  have g:=G.len
  have n1:¬ lE l≠0:=by simpa using h1
  rw[if_neg (by simpa using h1),if_neg n1]
  by_cases h2:8000≤r∧r≤192000
  ·rw[decide_eq_true h2,if_pos h2]
   simp only[Bool.not_true,Bool.false_eq_true,if_false,Option.bind_some,ne_eq,not_true_eq_false,decide_false]
   rw[Fb G]
   by_cases h3:∀ p∈l,ltl (num p)
   ·rw[if_pos h3,if_pos h3]
    simp only[Option.bind_some,not_true_eq_false,decide_false,Bool.false_eq_true,if_false]
    rw[xD G]
    simp only[Option.bind_some]
    rw[Dj _ (by rw[hZ];omega)]
    rfl
   ·rw[if_neg h3,if_neg h3]
    simp
  ·rw[decide_eq_false h2,if_neg h2]
   simp
 ·rw[if_pos (by simpa using h1),if_pos h1,Option.bind_some,if_pos (by simpa using h1)]
theorem Ba(l:List (Nat×Nat))(r:Int):iN l r=some (sG l r):=by
 unfold iN sG
 rw[Bm,Option.bind_some]
 by_cases h1:lE l=0
 ·have G:=tY h1
  have g:=G.len
  have n1:¬ lE l≠0:=by simpa using h1
  have nl:(nums l).length≤1024:=by rw[hZ];omega
  rw[if_neg (by simpa using h1),if_neg n1,xM,Option.bind_some]
  by_cases h2:8000≤r∧r≤192000
  ·rw[if_pos (decide_eq_true h2),if_pos h2,Aq G,Option.bind_some,(Eq _ nl).1,Option.bind_some,Bf _ (by simpa using nl),Option.bind_some]
   by_cases h3:∀ x∈(nums l).map (·.1),-32767≤x∧x≤32767
   ·rw[if_pos h3,if_neg (by decide),(near1 _ (by simpa using nl)).1,Option.bind_some,(Eq _ nl).2,Option.bind_some,Bf _ (by simpa using nl),Option.bind_some]
    by_cases h4:∀ x∈(nums l).map (·.2),-32767≤x∧x≤32767
    ·have hall:∀ p∈l,ltl (num p):=(qM ltl).1 fun z hz=>⟨h3 _ (List.mem_map.2 ⟨z,hz,rfl⟩),h4 _ (List.mem_map.2 ⟨z,hz,rfl⟩)⟩
     have hrun:run iY ()=some ():=lK rfl
     rw[if_pos h4,if_neg (by decide),(near1 _ (by simpa using nl)).2,Option.bind_some,hrun,Option.bind_some,if_pos hall,List.map_map,List.map_map]
     rfl
    ·rw[if_neg h4,if_pos (by decide),if_neg (fun h=>h4 fun x hx=>by obtain⟨z,hz,rfl⟩:=List.mem_map.1 hx;exact ((qM ltl).2 h z hz).2)]
   ·rw[if_neg h3,if_pos (by decide),if_neg (fun h=>h3 fun x hx=>by obtain⟨z,hz,rfl⟩:=List.mem_map.1 hx;exact ((qM ltl).2 h z hz).1)]
  ·rw[if_neg (by simpa using h2),if_neg h2]
 ·rw[if_pos (by simpa using h1),if_pos h1]
theorem Ap(l:List Nat)(hl:l.length≤4096)(h:∀ b∈l,∃ x,SV b x):fJ l l=some true:=by
 unfold fJ
 rw[if_neg (by simp)]
 have:run (cS l l) 0=some (.inr ()):=by
  refine rX (fun k=>(k:Int)) (n:=l.length) (fun k hk=>?_) ?_
  ·obtain⟨x,s,m,e,h1,h2,h3⟩:=h l[k] (List.getElem_mem hk)
   have hn:=kL (k:=.f32) h1
   have fb:fbits .f32 l[k]=some ((l[k]:Nat):Int):=by
    unfold fbits
    rw[if_neg (by rw[hn];decide)]
   unfold cS
   rw[if_pos (by rw[decide_eq_true_eq];omega),aR,List.getElem?_eq_getElem hk]
   simp only[Option.bind_some,fb]
   rw[if_neg (by simp),wsucc (n:=4096) (by omega) (by decide)]
  ·unfold cS
   rw[if_neg (by rw[decide_eq_true_eq];omega)]
 rw[this]
 rfl
theorem Ar(l:List (Nat×Nat))(r:Int):aQ (sG l r).1 (sG l r).2.1 (sG l r).1 (sG l r).2.1=some true∧aQ (sG l r).2.2.1 (sG l r).2.2.2.1 (sG l r).2.2.1 (sG l r).2.2.2.1=some true:=by
 have key:∀(a:Int) (w:List Nat),w.length≤4096→(∀ b∈w,∃ x,SV b x)→aQ a w a w=some true:=by
  intro a w h1 h2
  unfold aQ
  rw[if_pos (by simp),Ap w h1 h2,Option.bind_some]
 have nil:∀ a:Int,aQ a [] a []=some true:=fun a=>key a [] (by simp) (fun b hb=>by simp at hb)
 unfold sG
 split
 ·exact⟨nil _,nil _⟩
 ·rename_i h1
  have G:=tY (l:=l) (Classical.not_not.1 h1)
  have g:=G.len
  have sm:=(qM small).2 fun p hp=>(G.val p hp).2
  split
  ·split
   ·constructor
    ·refine key _ _ (by simp[hZ];omega) (fun b hb=>?_)
     obtain⟨z,hz,rfl⟩:=List.mem_map.1 hb
     exact⟨z.1,pD (sm z hz).1⟩
    ·refine key _ _ (by simp[hZ];omega) (fun b hb=>?_)
     obtain⟨z,hz,rfl⟩:=List.mem_map.1 hb
     exact⟨z.2,pD (sm z hz).2⟩
   ·exact⟨nil _,nil _⟩
  ·exact⟨nil _,nil _⟩
def zadd(a b:Int×Int):Int×Int:=(a.1+b.1,a.2+b.2)
def zsum(f:Nat→Int×Int):Nat→Int×Int
 | 0=>(0,0)
 | n+1=>zadd (zsum f n) (f n)
def zle(B:Int)(z:Int×Int):Prop:=(-B≤z.1∧z.1≤B)∧(-B≤z.2∧z.2≤B)
theorem Md{f:Nat→Int×Int}{B:Int}:∀ {n:Nat},(∀ k,k<n→zle B (f k))→zle (n*B) (zsum f n)
 | 0,_=>by simp[zsum,zle]
 | n+1,h=>by
  have ih:=Md (f:=f) (n:=n) (fun k hk=>h k (by omega))
  have h1:=h n (by omega)
  unfold zle at *
  simp only[zsum,zadd]
  have e:((n+1:Nat):Int)*B=n*B+B:=by rw[Int.natCast_add,Int.add_mul];simp
  rw[e]
  omega
def at0(w:List (Int×Int))(k:Nat):Int×Int:=w.getD k (0,0)
theorem Dv{w:List (Int×Int)}{k:Nat}(hk:k<w.length):w[k]?=some (at0 w k):=by
 unfold at0
 rw[List.getD_eq_getElem?_getD,List.getElem?_eq_getElem hk]
 rfl
theorem Ey{w:List (Int×Int)}(h:∀ z∈w,small z)(k:Nat):small (at0 w k):=by
 unfold at0
 by_cases hk:k<w.length
 ·rw[List.getD_eq_getElem?_getD,List.getElem?_eq_getElem hk]
  exact h _ (List.getElem_mem hk)
 ·rw[List.getD_eq_getElem?_getD,List.getElem?_eq_none (by omega)]
  unfold small
  simp
section
variable {a b:List (Int×Int)}
end
theorem Cj{l:List (Nat×Nat)}(G:GoodL l):∀ z∈nums l,small z:=by
 intro z hz
 unfold nums at hz
 obtain⟨p,hp,rfl⟩:=List.mem_map.1 hz
 exact (G.val p hp).2
end Go.Rex
namespace Go.Rex
open Go Go.Rex
set_option maxRecDepth 100000
def mx{α:Type}(old new:Nat→α)(m k:Nat):List α:=(List.range m).map fun i=>if i<k then new i else old i
section
variable {α:Type} {old new:Nat→α} {m:Nat}
theorem zV(k:Nat):(mx old new m k).length=m:=by unfold mx;simp
theorem Jx(k:Nat){i:Nat}(hi:i<m):(mx old new m k)[i]?=some (if i<k then new i else old i):=by
 unfold mx
 rw[List.getElem?_map,List.getElem?_range hi]
 rfl
theorem Dq{k:Nat}(hk:k<m):(mx old new m k)[k]?=some (old k):=by rw[Jx k hk,if_neg (by omega)]
theorem Cv{k:Nat}(hk:k<m):(mx old new m k).set k (new k)=mx old new m (k+1):=by
 apply List.ext_getElem?
 intro i
 rw[List.getElem?_set,zV]
 by_cases hi:i<m
 ·rw[Jx (k+1) hi]
  by_cases q:k=i
  ·subst q
   rw[if_pos rfl,if_pos hi,if_pos (by omega)]
  ·rw[if_neg q,Jx k hi]
   by_cases c:i<k
   ·rw[if_pos c,if_pos (by omega)]
   ·rw[if_neg c,if_neg (by omega)]
 ·have hn2:∀ j,(mx old new m j)[i]?=none:=fun j=>List.getElem?_eq_none (by rw[zV];omega)
  rw[hn2,hn2,if_neg (by omega)]
theorem xT:mx old new m 0=(List.range m).map old:=by
 unfold mx
 apply List.map_congr_left
 intro i _
 rw[if_neg (by omega)]
theorem xW:mx old new m m=(List.range m).map new:=by
 unfold mx
 apply List.map_congr_left
 intro i hi
 rw[List.mem_range] at hi
 rw[if_pos hi]
end
theorem Eg{α:Type}(z:α)(m:Nat):List.replicate m z=(List.range m).map fun _=>z:=by
 apply List.ext_getElem?
 intro i
 by_cases hi:i<m
 ·rw[List.getElem?_replicate,if_pos hi,List.getElem?_map,List.getElem?_range hi];rfl
 ·rw[List.getElem?_eq_none (by simp;omega),List.getElem?_eq_none (by simp;omega)]
theorem floors{x:Int}{M:Nat}(hM:1≤M∧M≤4096)(hx:-34359738368≤x∧x≤34359738368):jE x (M:Int)=some (x/(M:Int))∧fS x (M:Int)=some (x/(M:Int)):=by
 have hd:((x/(M:Int)).natAbs:Int)≤x.natAbs:=by
  have:=Int.natAbs_ediv_le_natAbs x (M:Int)
  omega
 have e0:=Int.emod_nonneg x (show (M:Int)≠0 by omega)
 have e1:=Int.emod_lt_of_pos x (show 0<(M:Int) by omega)
 have e2:=Int.mul_ediv_add_emod x M
 have t1:=Int.tmod_eq_emod (a:=x) (b:=(M:Int))
 have t2:=Int.tdiv_eq_ediv (a:=x) (b:=(M:Int))
 have sg:(M:Int).sign=1:=Int.sign_eq_one_of_pos (by omega)
 rw[sg] at t2
 have hmod:iE x (M:Int)=some (x%M):=by
  unfold iE
  rw[if_neg (by omega)]
  have h3:x.tmod M=x%M∨x.tmod M=x%M-M:=by
   rw[t1]
   split
   ·left;omega
   ·right;omega
  rw[w64 (by omega)]
  rcases h3 with h|h
  ·rw[h,Int.tmod_eq_emod_of_nonneg (by omega),Int.add_emod_right,Int.emod_emod_of_dvd _ (Int.dvd_refl _)]
  ·rw[h,show x%(M:Int)-M+M=x%M by omega,Int.tmod_eq_emod_of_nonneg e0,Int.emod_emod_of_dvd _ (Int.dvd_refl _)]
 constructor
 ·unfold jE
  have e3:x-x%(M:Int)=M*(x/M):=by omega
  rw[hmod,Option.bind_some,if_neg (by omega),w64 (x:=x-x%(M:Int)) (by omega),e3,Int.mul_tdiv_cancel_left _ (by omega),w64 (by omega)]
 ·unfold fS
  rw[if_neg (by omega)]
  by_cases c:0≤x∨(M:Int) ∣ x
  ·rw[if_pos c] at t1 t2
   rw[if_neg (by rw[decide_eq_true_eq];omega),t2,w64 (by omega)]
   congr 1
   omega
  ·rw[if_neg c] at t1 t2
   rw[if_pos (by rw[decide_eq_true_eq];omega),t2,w64 (x:=x/(M:Int)+1) (by omega),w64 (by omega)]
   congr 1
   omega
noncomputable def eA(l0 l:List (Nat×Nat)):Int:=if lE l≠0 then lE l else if l.length≠l0.length then 13 else 0
noncomputable def eAf{α:Type}(l0:List (Nat×Nat))(_:Unit)(l:List (Nat×Nat)):Unit ⊕ (Int ⊕ α):=if eA l0 l=0 then .inl () else .inr (.inl (eA l0 l))
theorem tX(l0:List (Nat×Nat)):∀ v:List (List (Nat×Nat)),(walk (eAf l0) (fun _=>(.inr ():Int ⊕ Unit)) () v = .inr ()∧∀ l∈v,eA l0 l=0)∨∃ e,walk (eAf l0) (fun _=>(.inr ():Int ⊕ Unit)) () v = .inl e∧e≠0
 | []=>.inl ⟨rfl,fun l hl=>by cases hl⟩
 | l::v=>by
  by_cases h:eA l0 l=0
  ·have e : walk (eAf l0) (fun _ => (.inr () : Int ⊕ Unit)) () (l :: v) = walk (eAf l0) (fun _ => .inr ()) () v := by
     simp only[walk]
     rw[show eAf (α:=Unit) l0 () l = .inl () from if_pos h]
   rw[e]
   rcases tX l0 v with⟨h1,h2⟩|h1
   ·exact .inl ⟨h1,fun y hy=>by rcases List.mem_cons.1 hy with rfl|hy;exact h;exact h2 y hy⟩
   ·exact .inr h1
  ·refine .inr ⟨eA l0 l,?_,h⟩
   simp only[walk]
   rw[show eAf (α:=Unit) l0 () l = .inr (.inl (eA l0 l)) from if_neg h]
theorem qY{v:List (List (Nat×Nat))}{l0:List (Nat×Nat)}(h:v[0]?=some l0):bR v 0=some l0:=by
 have:=aR (xs:=v) (k:=0)
 rw[h] at this
 exact this
theorem Aa{v:List (List (Nat×Nat))}{l0:List (Nat×Nat)}(h0:v[0]?=some l0)(lv:v.length≤1024):run (bE (v.length:Int) v) 0=some (walk (eAf l0) (fun _=>.inr ()) () v)∧run (bZ v) 0=some (walk (eAf l0) (fun _=>.inr ()) () v):=by
 constructor
 ·have key := gE (step := bE (v.length : Int) v) (fun k (_ : Unit) => (k : Int)) (eAf l0) (fun _ => (.inr () : Int ⊕ Unit)) (fun _ _ => True) v
    (fun k l b hz _=>by
     have hk:=(List.getElem?_eq_some_iff.1 hz).1
     refine⟨?_,fun _ _=>trivial⟩
     unfold bE dJ eF aD dS aA eAf eA
     rw[if_pos (by rw[decide_eq_true_eq];omega),aR,hz,Option.bind_some,Option.bind_some,qY h0,Option.bind_some,Option.bind_some]
     try simp only
     rw[xB,Option.bind_some,wsucc (n:=1024) (by omega) (by decide)]
     by_cases h1:lE l=0
     ·by_cases h2:l.length=l0.length
      ·simp[h1,h2]
      ·have h2':¬((l.length:Int)=(l0.length:Int)):=by omega
       simp[h1,h2,h2']
     ·simp[h1])
    (fun b _=>by
     unfold bE
     rw[if_neg (by rw[decide_eq_true_eq];omega)]) (b0:=()) trivial
  exact key
 ·have key := gE (step := bZ v) (fun k (_ : Unit) => (k : Int)) (eAf l0) (fun _ => (.inr () : Int ⊕ Unit)) (fun _ _ => True) v
    (fun k l b hz _=>by
     have hk:=(List.getElem?_eq_some_iff.1 hz).1
     refine⟨?_,fun _ _=>trivial⟩
     unfold bZ eAf eA
     rw[if_pos (by rw[decide_eq_true_eq];omega),aR,hz,Option.bind_some,Bm,Option.bind_some,qY h0,Option.bind_some,wsucc (n:=1024) (by omega) (by decide)]
     by_cases h1:lE l=0
     ·by_cases h2:l.length=l0.length
      ·simp[h1,h2]
      ·have h2':¬((l.length:Int)=(l0.length:Int)):=by omega
       simp[h1,h2,h2']
     ·simp[h1])
    (fun b _=>by
     unfold bZ
     rw[if_neg (by rw[decide_eq_true_eq];omega)]) (b0:=()) trivial
  exact key
noncomputable def avS(v:List (List (Nat×Nat)))(j k:Nat):Int×Int:=zsum (fun i=>at0 (nums (v.getD i [])) k) j
noncomputable def avR(v:List (List (Nat×Nat)))(k:Nat):Int×Int:=((2*(avS v v.length k).1+v.length)/((2*v.length:Nat):Int),(2*(avS v v.length k).2+v.length)/((2*v.length:Nat):Int))
section
variable {v:List (List (Nat×Nat))} {m:Nat} (hv:∀ l∈v,GoodL l∧l.length=m) (lv:1≤v.length∧v.length≤32) (lm:m≤1024)
include hv lv
theorem Ep{j:Nat}(hj:j≤v.length)(k:Nat):zle 536870912 (avS v j k):=by
 have h:=Md (f:=fun i=>at0 (nums (v.getD i [])) k) (B:=16777216) (n:=j) (fun i hi=>by
  have hil:i<v.length:=by omega
  have e:v.getD i []=v[i]:=by rw[List.getD_eq_getElem?_getD,List.getElem?_eq_getElem hil];rfl
  rw[e]
  exact Ey (Cj (hv _ (List.getElem_mem hil)).1) k)
 have h2:(j:Int)*16777216≤32*16777216:=Int.mul_le_mul_of_nonneg_right (by omega) (by decide)
 unfold avS
 unfold zle at *
 omega
theorem Lz(k:Nat):(eR (avS v v.length k).1 (v.length:Int)=some (avR v k).1∧eR (avS v v.length k).2 (v.length:Int)=some (avR v k).2) ∧
 fS (IntKind.i64.wrap (IntKind.i64.wrap (2*(avS v v.length k).1)+(v.length:Int))) (IntKind.i64.wrap (2*(v.length:Int)))=some (avR v k).1∧fS (IntKind.i64.wrap (IntKind.i64.wrap (2*(avS v v.length k).2)+(v.length:Int))) (IntKind.i64.wrap (2*(v.length:Int)))=some (avR v k).2:=by
 have b:=Ep hv lv (Nat.le_refl _) k
 unfold zle at b
 have e:IntKind.i64.wrap (2*(v.length:Int))=((2*v.length:Nat):Int):=by rw[w64 (by omega)];omega
 have f1:=floors (x:=2*(avS v v.length k).1+v.length) (M:=2*v.length) (by omega) (by omega)
 have f2:=floors (x:=2*(avS v v.length k).2+v.length) (M:=2*v.length) (by omega) (by omega)
 unfold eR
 rw[e,w64 (x:=2*(avS v v.length k).1) (by omega),w64 (x:=2*(avS v v.length k).2) (by omega),w64 (x:=2*(avS v v.length k).1+v.length) (by omega),w64 (x:=2*(avS v v.length k).2+v.length) (by omega),f1.1,f1.2,f2.1,f2.2]
 exact⟨⟨rfl,rfl⟩,rfl,rfl⟩
theorem Ll(k:Nat):mid (avR v k):=by
 have b:=Ep hv lv (Nat.le_refl _) k
 unfold zle at b
 have h1:=Int.natAbs_ediv_le_natAbs (2*(avS v v.length k).1+v.length) ((2*v.length:Nat):Int)
 have h2:=Int.natAbs_ediv_le_natAbs (2*(avS v v.length k).2+v.length) ((2*v.length:Nat):Int)
 unfold mid avR
 simp only
 omega
include lm
theorem Nk{k:Nat}(hk:k<m):run (cA v (k:Int)) (0,0,0)=some (avS v v.length k):=by
 have key:=gJ (step:=cA v (k:Int)) (st:=fun j (_:Unit)=>((avS v j k).1,(avS v j k).2,(j:Int))) (g:=fun _ x=>x) (fin:=fun _=>avS v v.length k) v.length (fun _ _=>True) (b0:=()) trivial
  (fun j _ hj _=>⟨by
   have hl:=List.getElem?_eq_getElem hj
   obtain⟨G,gl⟩:=hv v[j] (List.getElem_mem hj)
   have hkl:k<(v[j]).length:=by omega
   obtain⟨p1,p2⟩:=G.val (v[j])[k] (List.getElem_mem hkl)
   have b:=Ep hv lv (show j+1≤v.length by omega) k
   have e0:v.getD j []=v[j]:=by rw[List.getD_eq_getElem?_getD,hl];rfl
   have e1:at0 (nums (v.getD j [])) k=num (v[j])[k]:=by
    have h1:=Dv (w:=nums v[j]) (k:=k) (by rw[hZ];omega)
    rw[Ee hkl] at h1
    rw[e0]
    exact (Option.some.inj h1).symm
   have e:avS v (j+1) k=zadd (avS v j k) (num (v[j])[k]):=by rw[← e1];rfl
   rw[e] at b ⊢
   unfold zle zadd at b
   simp only at b
   unfold cA eH
   simp only
   rw[if_pos (by rw[decide_eq_true_eq];omega),aR,hl,Option.bind_some,aR,List.getElem?_eq_getElem hkl,Option.bind_some]
   try simp only
   rw[sJ p1 p2,Option.bind_some]
   try simp only
   rw[Option.bind_some,w64 (by omega),w64 (by omega),wsucc (n:=1024) (by omega) (by decide)]
   rfl,trivial⟩) (fun _ _=>by
   unfold cA
   simp only
   rw[if_neg (by rw[decide_eq_true_eq];omega)])
 exact key.1
theorem Gf:run (cJ v (List.replicate m (0,0))) (List.replicate m (0,0),0)=some ((List.range m).map (avR v)):=by
 have key:=gJ (step:=cJ v (List.replicate m (0,0))) (st:=fun k (_:Unit)=>(mx (fun _=>((0,0):Int×Int)) (avR v) m k,(k:Int))) (g:=fun _ x=>x) (fin:=fun _=>(List.range m).map (avR v)) m (fun _ _=>True) (b0:=()) trivial
  (fun k _ hk _=>⟨by
   have f:=(Lz hv lv k).1
   unfold cJ
   simp only
   rw[if_pos (by rw[decide_eq_true_eq,List.length_replicate];omega),Nk hv lv lm hk,Option.bind_some]
   try simp only
   rw[f.1,Option.bind_some,f.2,Option.bind_some,aR,Dq hk,Option.bind_some]
   try simp only
   rw[show ((k:Int)).toNat=k by omega,← Cv (old:=fun _=>((0,0):Int×Int)) (new:=avR v) hk,wsucc (n:=1024) (by omega) (by decide)],trivial⟩) (fun _ _=>by
   unfold cJ
   simp only
   rw[if_neg (by rw[decide_eq_true_eq,List.length_replicate];omega),xW])
 have k1:=key.1
 simp only[Int.natCast_zero] at k1
 rw[xT,← Eg] at k1
 exact k1
theorem Lj{j:Nat}(hj:j<v.length):run (cB (nums v[j])) ((List.range m).map (avS v j),0)=some ((List.range m).map (avS v (j+1))):=by
 obtain⟨G,gl⟩:=hv v[j] (List.getElem_mem hj)
 have key:=gJ (step:=cB (nums v[j])) (st:=fun k (_:Unit)=>(mx (avS v j) (avS v (j+1)) m k,(k:Int))) (g:=fun _ x=>x) (fin:=fun _=>(List.range m).map (avS v (j+1))) m (fun _ _=>True) (b0:=()) trivial
  (fun k _ hk _=>⟨by
   have hl:=List.getElem?_eq_getElem hj
   have b:=Ep hv lv (show j+1≤v.length by omega) k
   have e0:v.getD j []=v[j]:=by rw[List.getD_eq_getElem?_getD,hl];rfl
   have e:avS v (j+1) k=zadd (avS v j k) (at0 (nums v[j]) k):=by rw[← e0];rfl
   have nx:=Cv (old:=avS v j) (new:=avS v (j+1)) hk
   rw[← nx]
   rw[e] at b ⊢
   unfold zle zadd at b
   simp only at b
   unfold cB
   simp only
   rw[if_pos (by rw[decide_eq_true_eq,hZ];omega),aR,Dq hk,Option.bind_some]
   try simp only
   rw[aR,Dv (by rw[hZ];omega),Option.bind_some]
   try simp only
   rw[show ((k:Int)).toNat=k by omega,w64 (by omega),w64 (by omega),wsucc (n:=1024) (by omega) (by decide)]
   rfl,trivial⟩) (fun _ _=>by
   unfold cB
   simp only
   rw[if_neg (by rw[decide_eq_true_eq,hZ];omega),xW])
 have k1:=key.1
 simp only[Int.natCast_zero] at k1
 rw[xT] at k1
 exact k1
theorem Kz:run (cG v) (List.replicate m (0,0),0)=some ((List.range m).map (avS v v.length)):=by
 have key:=gJ (step:=cG v) (st:=fun j (_:Unit)=>((List.range m).map (avS v j),(j:Int))) (g:=fun _ x=>x) (fin:=fun _=>(List.range m).map (avS v v.length)) v.length (fun _ _=>True) (b0:=()) trivial
  (fun j _ hj _=>⟨by
   obtain⟨G,gl⟩:=hv v[j] (List.getElem_mem hj)
   unfold cG
   simp only
   rw[if_pos (by rw[decide_eq_true_eq];omega),aR,List.getElem?_eq_getElem hj,Option.bind_some,Aq G,Option.bind_some,Lj hv lv lm hj,Option.bind_some,wsucc (n:=1024) (by omega) (by decide)],trivial⟩) (fun _ _=>by
   unfold cG
   simp only
   rw[if_neg (by rw[decide_eq_true_eq];omega)])
 have k1:=key.1
 simp only[Int.natCast_zero] at k1
 rw[Eg]
 exact k1
theorem Ku:run (bY v) ((List.range m).map (avS v v.length),0)=some ((List.range m).map (avR v)):=by
 have key:=gJ (step:=bY v) (st:=fun k (_:Unit)=>(mx (avS v v.length) (avR v) m k,(k:Int))) (g:=fun _ x=>x) (fin:=fun _=>(List.range m).map (avR v)) m (fun _ _=>True) (b0:=()) trivial
  (fun k _ hk _=>⟨by
   have f:=(Lz hv lv k).2
   unfold bY
   simp only
   rw[if_pos (by rw[decide_eq_true_eq,zV];omega),aR,Dq hk,Option.bind_some]
   try simp only
   rw[f.1,Option.bind_some,f.2,Option.bind_some,show ((k:Int)).toNat=k by omega,← Cv (old:=avS v v.length) (new:=avR v) hk,wsucc (n:=1024) (by omega) (by decide)],trivial⟩) (fun _ _=>by
   unfold bY
   simp only
   rw[if_neg (by rw[decide_eq_true_eq,zV];omega),xW])
 have k1:=key.1
 simp only[Int.natCast_zero] at k1
 rw[xT] at k1
 exact k1
end
theorem Me(x:Option (List (Nat×Nat)×Int)):(x.bind fun (a,b)=>some (a,b))=x:=by cases x<;>rfl
noncomputable def avE(v:List (List (Nat×Nat))):Int:=if v.length=0 then 10 else if 32<v.length then 8 else match walk (eAf (v.getD 0 [])) (fun _=>(.inr ():Int ⊕ Unit)) () v with
 | .inl e=>e
 | .inr _=>0
noncomputable def avV(v:List (List (Nat×Nat))):List (Nat×Nat)×Int:=if avE v≠0 then ([],avE v) else rec ((List.range (v.getD 0 []).length).map (avR v))
theorem uR{v:List (List (Nat×Nat))}(h:avE v=0):(1≤v.length∧v.length≤32)∧∀ l∈v,GoodL l∧l.length=(v.getD 0 []).length:=by
 unfold avE at h
 split at h
 ·cases h
 ·split at h
  ·cases h
  ·refine⟨by omega,fun l hl=>?_⟩
   rcases tX (v.getD 0 []) v with⟨w1,w2⟩|⟨e,w1,w2⟩
   ·have:=w2 l hl
    unfold eA at this
    split at this
    ·rename_i h;exact absurd this h
    ·rename_i h
     split at this
     ·cases this
     ·rename_i h2
      exact⟨tY (Classical.not_not.1 h),Classical.not_not.1 h2⟩
   ·rw[w1] at h
    exact absurd h w2
theorem iL{v:List (List (Nat×Nat))}(h:1≤v.length):v[0]?=some (v.getD 0 []):=by
 rw[List.getD_eq_getElem?_getD,List.getElem?_eq_getElem (show 0<v.length by omega)]
 rfl
theorem Lp(v:List (List (Nat×Nat)))(lv:v.length≤1000):cQ (decide ((v.length:Int)=0)) 10 (decide ((v.length:Int)>32)) 8 (v.length:Int) v=some (avE v):=by
 unfold cQ aA avE
 by_cases h0:v.length=0
 ·rw[decide_eq_true (show (v.length:Int)=0 by omega),if_pos (show true=true from rfl),Option.bind_some,if_pos (by decide),if_pos h0]
 rw[decide_eq_false (show ¬(v.length:Int)=0 by omega),if_neg (by decide),Option.bind_some,if_neg (by decide),if_neg h0]
 by_cases h1:32<v.length
 ·rw[decide_eq_true (show (v.length:Int)>32 by omega),if_pos (show true=true from rfl),Option.bind_some,if_pos (by decide),if_pos h1]
 rw[decide_eq_false (show ¬(v.length:Int)>32 by omega),if_neg (by decide),Option.bind_some,if_neg (by decide),if_neg h1]
 obtain⟨r1,r2⟩:=Aa (iL (v:=v) (by omega)) (by omega)
 unfold fG
 rw[r1,Option.bind_some]
 rcases tX (v.getD 0 []) v with⟨w1,w2⟩|⟨e,w1,w2⟩
 ·rw[w1];rfl
 ·rw[w1]
  show (if decide (e≠0)=true then some e else some 0)=some e
  rw[if_pos (by simpa using w2)]
theorem Jw(m:Nat)(h:m≤1024):mkI 16 (m:Int) ((0,0):Int×Int)=some (List.replicate m (0,0)):=by
 unfold mkI
 rw[if_pos (by omega)]
 rfl
theorem Fs(v:List (List (Nat×Nat)))(lv:v.length≤1000):dC v=some (avV v):=by
 unfold dC aD gN avV
 rw[Option.bind_some]
 dsimp only
 rw[Option.bind_some]
 dsimp only
 rw[Option.bind_some]
 dsimp only
 rw[Lp v lv,Option.bind_some]
 by_cases h:avE v=0
 ·obtain⟨lv2,hv⟩:=uR h
  have lm:(v.getD 0 []).length≤1024:=(hv _ (List.mem_iff_getElem?.2 ⟨0,iL lv2.1⟩)).1.len.2
  rw[if_neg (by simpa using h),if_neg (by simpa using h),qY (iL lv2.1),Option.bind_some,Jw _ lm,Option.bind_some,Gf hv lv2 lm,Option.bind_some,Me]
  exact Hw _ (by simp only[List.length_map,List.length_range];omega)
 ·rw[if_pos (by simpa using h),if_pos h]
theorem Kk(v:List (List (Nat×Nat)))(lv:v.length≤1000):cZ v=some (avV v):=by
 unfold cZ avV
 by_cases h0:v.length=0
 ·have e:avE v=10:=by unfold avE;rw[if_pos h0]
  rw[if_pos (decide_eq_true (by omega)),e,if_pos (by decide)]
 rw[if_neg (by rw[decide_eq_true_eq];omega)]
 by_cases h1:32<v.length
 ·have e:avE v=8:=by unfold avE;rw[if_neg h0,if_pos h1]
  rw[if_pos (decide_eq_true (by omega)),e,if_pos (by decide)]
 rw[if_neg (by rw[decide_eq_true_eq];omega)]
 obtain⟨r1,r2⟩:=Aa (iL (v:=v) (by omega)) (by omega)
 rw[r2,Option.bind_some]
 have eE:avE v=match walk (eAf (v.getD 0 [])) (fun _=>(.inr ():Int ⊕ Unit)) () v with
  | .inl e=>e
  | .inr _=>0:=by unfold avE;rw[if_neg h0,if_neg h1]
 rcases tX (v.getD 0 []) v with⟨w1,w2⟩|⟨e,w1,w2⟩
 ·rw[w1] at eE
  have h:avE v=0:=eE
  obtain⟨lv2,hv⟩:=uR h
  have lm:(v.getD 0 []).length≤1024:=(hv _ (List.mem_iff_getElem?.2 ⟨0,iL lv2.1⟩)).1.len.2
  rw[w1,if_neg (by simpa using h)]
  dsimp only
  rw[qY (iL lv2.1),Option.bind_some,Jw _ lm,Option.bind_some,Kz hv lv2 lm,Option.bind_some,Ku hv lv2 lm,Option.bind_some,Me]
  refine Lc _ (by simp only[List.length_map,List.length_range];omega) (fun z hz=>?_)
  obtain⟨k,_,rfl⟩:=List.mem_map.1 hz
  exact Ll hv lv2 k
 ·rw[w1] at eE
  have h:avE v=e:=eE
  rw[w1,h,if_pos w2]
theorem Jo(v:List (List (Nat×Nat))):bB (avV v).1 (avV v).1=some true:=by
 unfold avV
 by_cases h:avE v=0
 ·obtain⟨lv2,hv⟩:=uR h
  have lm:(v.getD 0 []).length≤1024:=(hv _ (List.mem_iff_getElem?.2 ⟨0,iL lv2.1⟩)).1.len.2
  rw[if_neg (by simpa using h)]
  exact Ka _ (by simp only[List.length_map,List.length_range];omega)
 ·rw[if_pos h]
  exact sC _ (by simp) (fun p hp=>by simp at hp)
theorem Hv(v:List (List (Nat×Nat)))(lv:v.length≤1000):∃ x,dC v=some x∧cZ v=some x∧bB x.1 x.1=some true:=⟨_,Fs v lv,Kk v lv,Jo v⟩
theorem Bv:∀(v b:List (List (Nat×Nat))),∃ x,walk (fun (b:List (List (Nat×Nat))) (l:List (Nat×Nat))=>if eD l=some true then (.inl (b++[l]):List (List (Nat×Nat)) ⊕ (Bool ⊕ List (List (Nat×Nat)))) else .inr (.inl true)) (fun b=>.inr b) b v=x∧(x = .inl true∨x = .inr (b++v))
 | [],b=>⟨_,rfl,.inr (by simp[walk])⟩
 | l::v,b=>by
  refine⟨_,rfl,?_⟩
  simp only[walk]
  by_cases h:eD l=some true
  ·rw[if_pos h]
   simp only
   obtain⟨x,h1,h2⟩:=Bv v (b++[l])
   rw[h1]
   rcases h2 with h2|h2
   ·exact .inl h2
   ·exact .inr (by rw[h2];simp)
  ·rw[if_neg h]
   exact .inl rfl
theorem Bt(v:List (List (Nat×Nat)))(r:Int)(lv:v.length≤1000):∃ x,run (bC v r) (([]:List (List (Nat×Nat))),0)=some x∧run (bD v r) (([]:List (List (Nat×Nat))),0)=some x∧(x = .inl true∨x = .inr v):=by
 obtain⟨x,h1,h2⟩:=Bv v []
 refine⟨x,?_,?_,by simpa using h2⟩
 ·have key := gE (step := bC v r) (fun k b => (b, (k : Int))) (fun (b : List (List (Nat × Nat))) (l : List (Nat × Nat)) => if eD l = some true then (.inl (b ++ [l]) : List (List (Nat × Nat)) ⊕ (Bool ⊕ List (List (Nat × Nat)))) else .inr (.inl true)) (fun b => .inr b) (fun k b => b.length = k) v
    (fun k l b hz hb=>by
     have hk:=(List.getElem?_eq_some_iff.1 hz).1
     obtain⟨f,hf⟩:=Bi l
     constructor
     ·unfold bC
      simp only
      rw[if_pos (by rw[decide_eq_true_eq];omega),aR,hz,Option.bind_some,hf,Option.bind_some]
      cases f with
      | false =>
       rw[if_neg (by decide),if_neg (by simp)]
      | true =>
       have hl:l.length≤1026:=by have:=xK hf;omega
       have es:=Ar l r
       rw[if_pos (show true=true from rfl),if_pos (show (some true:Option Bool)=some true from rfl),wW l hl,Option.bind_some]
       unfold iP
       rw[if_pos (by simp;omega),Option.bind_some,Option.bind_some,xJ,Option.bind_some]
       try simp only
       rw[Option.bind_some,Ba,Option.bind_some]
       try simp only
       rw[if_neg (by simp),es.1,Option.bind_some,if_pos (show true=true from rfl),es.2,Option.bind_some,if_pos (show true=true from rfl),wsucc (n:=1024) (by omega) (by decide)]
     ·intro b' hb'
      split at hb'
      ·obtain rfl:=Sum.inl.inj hb'
       simp[hb]
      ·cases hb')
    (fun b hb=>by
     unfold bC
     simp only
     rw[if_neg (by rw[decide_eq_true_eq];omega)]) (b0:=[]) rfl
  rw[h1] at key
  exact key
 ·have key := gE (step := bD v r) (fun k b => (b, (k : Int))) (fun (b : List (List (Nat × Nat))) (l : List (Nat × Nat)) => if eD l = some true then (.inl (b ++ [l]) : List (List (Nat × Nat)) ⊕ (Bool ⊕ List (List (Nat × Nat)))) else .inr (.inl true)) (fun b => .inr b) (fun k b => b.length = k) v
    (fun k l b hz hb=>by
     have hk:=(List.getElem?_eq_some_iff.1 hz).1
     obtain⟨f,hf⟩:=Bi l
     constructor
     ·unfold bD
      simp only
      rw[if_pos (by rw[decide_eq_true_eq];omega),aR,hz,Option.bind_some,hf,Option.bind_some]
      cases f with
      | false =>
       rw[if_neg (by decide),if_neg (by simp)]
      | true =>
       have hl:l.length≤1026:=by have:=xK hf;omega
       have es:=Ar l r
       rw[if_pos (show true=true from rfl),if_pos (show (some true:Option Bool)=some true from rfl),wW l hl,Option.bind_some]
       unfold iP
       rw[if_pos (by simp;omega),Option.bind_some,Option.bind_some,xJ,Option.bind_some]
       try simp only
       rw[Option.bind_some,Ba,Option.bind_some]
       try simp only
       rw[if_neg (by simp),es.1,Option.bind_some,if_pos (show true=true from rfl),es.2,Option.bind_some,if_pos (show true=true from rfl),wsucc (n:=1024) (by omega) (by decide)]
     ·intro b' hb'
      split at hb'
      ·obtain rfl:=Sum.inl.inj hb'
       simp[hb]
      ·cases hb')
    (fun b hb=>by
     unfold bD
     simp only
     rw[if_neg (by rw[decide_eq_true_eq];omega)]) (b0:=[]) rfl
  rw[h1] at key
  exact key
theorem Cq(l:List (List (Nat×Nat)))(r:Int):fZ l r=some true:=by
 unfold fZ
 have main:l.length≤34→∃ x,run (bC l r) (([]:List (List (Nat×Nat))),0)=some x∧run (bD l r) (([]:List (List (Nat×Nat))),0)=some x∧(x = .inl true∨x = .inr l):=fun h=>Bt l r (by omega)
 have fin : ∀ h : l.length ≤ 34, ((dC l).bind fun (v47, v48) =>
         (cZ l).bind fun (v49,v50) =>
         if (decide (v48=v50))=true then
          ((bB v47 v49).bind fun v51 =>
          some (v51))
         else
          (some (false)))=some true:=fun h=>by
  obtain⟨⟨x1,x2⟩,a1,a2,a3⟩:=Hv l (by omega)
  simp only at a3
  rw[a1,a2]
  simp only[Option.bind_some]
  rw[a3]
  simp
 by_cases h1:(l.length:Int)>4
 ·rw[if_pos (decide_eq_true h1)]
  by_cases h2:(l.length:Int)≤32
  ·rw[if_pos (decide_eq_true h2)]
  rw[if_neg (by simpa using h2)]
  by_cases h3:(l.length:Int)>34
  ·rw[if_pos (decide_eq_true h3)]
  rw[if_neg (by simpa using h3)]
  obtain⟨x,e1,e2,e3⟩:=main (by omega)
  rw[e1,Option.bind_some]
  rcases e3 with rfl|rfl
  ·rfl
  ·exact fin (by omega)
 ·rw[if_neg (by simpa using h1)]
  have h3:¬(l.length:Int)>34:=by omega
  rw[if_neg (by simpa using h3)]
  obtain⟨x,e1,e2,e3⟩:=main (by omega)
  rw[e2,Option.bind_some]
  rcases e3 with rfl|rfl
  ·rfl
  ·exact fin (by omega)
end Go.Rex
namespace Go.Rex
open Go Go.ChangeShapes Go.WideShapes Go.ChangeAt Go.RowKit Go.Joins Go.Proofs
structure Arg(W:World)(v':Value)(p:TV)(bs:List Blk)(is:List Info)(av:Nat→Value):Prop where
 vr:∀(D:Nat→Prop) (m:NMap) n,(∀ j,j<bs.length→D (n+j))→(∀(j:Nat) i,is[j]?=some i→m (n+j)=i)→VR D m (av n) v'
 vl:∀(Fz:Nat→Prop) (h:List Blk) n,(∀ j,j<bs.length→Fz (n+j))→(∀(j:Nat) b,bs[j]?=some b→h[n+j]?=some b)→VL Fz h noL p (av n)
 ok:∀(D:Nat→Prop) (m:NMap) n,(∀ j,j<bs.length→D (n+j))→(∀(j:Nat) i,is[j]?=some i→m (n+j)=i)→∀(j:Nat) b,bs[j]?=some b→BlkOk D m W (n+j) b
 lt:∀(j:Nat) b i,bs[j]?=some b→is[j]?=some i→b ≠ .dead→i.block<W.heap.size
 len:is.length=bs.length
structure Args(W:World)(vs':List Value)(ps:List TV)(bs:List Blk)(is:List Info)(av:Nat→List Value):Prop where
 vr:∀(D:Nat→Prop) (m:NMap) n,(∀ j,j<bs.length→D (n+j))→(∀(j:Nat) i,is[j]?=some i→m (n+j)=i)→VRs D m (av n) vs'
 vl:∀(Fz:Nat→Prop) (h:List Blk) n,(∀ j,j<bs.length→Fz (n+j))→(∀(j:Nat) b,bs[j]?=some b→h[n+j]?=some b)→VLs Fz h noL ps (av n)
 ok:∀(D:Nat→Prop) (m:NMap) n,(∀ j,j<bs.length→D (n+j))→(∀(j:Nat) i,is[j]?=some i→m (n+j)=i)→∀(j:Nat) b,bs[j]?=some b→BlkOk D m W (n+j) b
 lt:∀(j:Nat) b i,bs[j]?=some b→is[j]?=some i→b ≠ .dead→i.block<W.heap.size
 len:is.length=bs.length
def nm(is:List Info):NMap:=fun n=>is.getD n ⟨0,0,0,0⟩
section
variable {W:World} {vs':List Value} {ps:List TV} {bs:List Blk} {is:List Info} {av:Nat→List Value}
end
theorem len1{α:Type}{l:List α}(h:l.length=1):∃ x0,l=[x0]:=by
 match l,h with
 | [x0],_=>exact⟨_,rfl⟩
theorem len2{α:Type}{l:List α}(h:l.length=2):∃ x0 x1,l=[x0,x1]:=by
 match l,h with
 | [x0,x1],_=>exact⟨_,_,rfl⟩
def Ju(c:Value):Prop:=lD c=true∧∀ D m,VR D m c c
theorem Gc(k:IntKind)(n:Int):Ju (.int k n):=⟨rfl,fun _ _=>.int _ _⟩
theorem Arg.atom{W:World}{v:Value}(h:Ju v):Arg W v (.v v) [] [] (fun _=>v):=
 ⟨fun _ _ _ _ _=>h.2 _ _,fun _ _ _ _ _=>.v _ _ h.1,fun _ _ _ _ _ j b h=>by simp at h,fun j b i h=>by simp at h,rfl⟩
theorem oS{α:Type}{Q:Nat→α→Prop}:∀ n,(∀ i,i<n→∃ x,Q i x)→∃ xs:List α,xs.length=n∧∀(i:Nat) x,xs[i]?=some x→Q i x
 | 0,_=>⟨[],rfl,fun i x h=>by simp at h⟩
 | n+1,h=>by
  obtain⟨xs,hl,hq⟩:=oS n (fun i hi=>h i (by omega))
  obtain⟨x,hx⟩:=h n (by omega)
  refine⟨xs++[x],by simp[hl],fun i y hy=>?_⟩
  rcases Nat.lt_or_ge i n with hi|hi
  ·rw[List.getElem?_append_left (by omega)] at hy
   exact hq i y hy
  ·rw[List.getElem?_append_right (by omega),hl] at hy
   have:i=n:=by
    rcases Nat.lt_or_ge 0 (i-n) with g|g
    ·rw[List.getElem?_eq_none (by simp;omega)] at hy;cases hy
    ·omega
   subst this
   simp at hy
   subst hy
   exact hx
section
variable {H:Type} {enc:TypeId×Value→H} {W:World} {base:Nat} {spare:Nat→Bool} {held:Bool}
variable {P:Program}
theorem Kq{t:TypeId}(ht:P.underlying t=some (.int .i64)){r:Reach}{b:Nat}{v:Value}(w:Cell.okWide P W r b t v):∃ n:Int,v = .int .i64 n:=by
 unfold Cell.okWide at w
 simp only[ht] at w
 unfold Cell.ok at w
 simp only[ht] at w
 cases v<;>first|exact⟨_,by rw[w.1]⟩|exact absurd w (by simp)
theorem open_int{t:TypeId}(ht:P.underlying t=some (.int .i64)){r:Reach}{b:Nat}{v:Value}(w:Value.okWide P W r b t v):∃ n:Int,v = .int .i64 n:=by
 unfold Value.okWide at w
 simp only[ht] at w
 exact Kq ht w
end
end Go.Rex
namespace Go.Rex
open Go Go.ChangeShapes Go.WideShapes Go.ChangeAt Go.RowKit Go.Joins Go.Proofs
structure NArg(W:World)(v':Value)(p:TV)(bs:Nat→List Blk)(is:List Info)(av:Nat→Value):Prop where
 vr:∀(D:Nat→Prop) (m:NMap) n,(∀ j,j<is.length→D (n+j))→(∀(j:Nat) i,is[j]?=some i→m (n+j)=i)→VR D m (av n) v'
 vl:∀(Fz:Nat→Prop) (h:List Blk) n,(∀ j,j<is.length→Fz (n+j))→(∀(j:Nat) b,(bs n)[j]?=some b→h[n+j]?=some b)→VL Fz h noL p (av n)
 ok:∀(D:Nat→Prop) (m:NMap) n,(∀ j,j<is.length→D (n+j))→(∀(j:Nat) i,is[j]?=some i→m (n+j)=i)→∀(j:Nat) b,(bs n)[j]?=some b→BlkOk D m W (n+j) b
 lt:∀ n (j:Nat) b i,(bs n)[j]?=some b→is[j]?=some i→b ≠ .dead→i.block<W.heap.size
 len:∀ n,(bs n).length=is.length
structure NArgs(W:World)(vs':List Value)(ps:List TV)(bs:Nat→List Blk)(is:List Info)(av:Nat→List Value):Prop where
 vr:∀(D:Nat→Prop) (m:NMap) n,(∀ j,j<is.length→D (n+j))→(∀(j:Nat) i,is[j]?=some i→m (n+j)=i)→VRs D m (av n) vs'
 vl:∀(Fz:Nat→Prop) (h:List Blk) n,(∀ j,j<is.length→Fz (n+j))→(∀(j:Nat) b,(bs n)[j]?=some b→h[n+j]?=some b)→VLs Fz h noL ps (av n)
 ok:∀(D:Nat→Prop) (m:NMap) n,(∀ j,j<is.length→D (n+j))→(∀(j:Nat) i,is[j]?=some i→m (n+j)=i)→∀(j:Nat) b,(bs n)[j]?=some b→BlkOk D m W (n+j) b
 lt:∀ n (j:Nat) b i,(bs n)[j]?=some b→is[j]?=some i→b ≠ .dead→i.block<W.heap.size
 len:∀ n,(bs n).length=is.length
theorem Arg.n{W:World}{v':Value}{p:TV}{bs:List Blk}{is:List Info}{av:Nat→Value}(a:Arg W v' p bs is av):NArg W v' p (fun _=>bs) is av:=
 ⟨fun D m n hD hm=>a.vr D m n (by rw[← a.len];exact hD) hm,fun Fz h n hF hh=>a.vl Fz h n (by rw[← a.len];exact hF) hh,fun D m n hD hm=>a.ok D m n (by rw[← a.len];exact hD) hm,fun _=>a.lt,fun _=>a.len.symm⟩
theorem NArgs.nil(W:World):NArgs W [] [] (fun _=>[]) [] (fun _=>[]):=
 ⟨fun _ _ _ _ _=>⟨rfl,fun i a a' h=>by simp at h⟩,fun _ _ _ _ _=>.nil,fun _ _ _ _ _ j b h=>by simp at h,fun _ j b i h=>by simp at h,fun _=>rfl⟩
theorem NArgs.cons{W:World}{v':Value}{p:TV}{bs bs2:Nat→List Blk}{is is2:List Info}{av:Nat→Value}{vs':List Value}{ps:List TV}{avs:Nat→List Value}
 (a:NArg W v' p bs is av) (az:NArgs W vs' ps bs2 is2 avs):NArgs W (v'::vs') (p::ps) (fun n=>bs n++bs2 (n+is.length)) (is++is2) (fun n=>av n::avs (n+is.length)):=by
 have cD:∀(D:Nat→Prop) n,(∀ j,j<(is++is2).length→D (n+j))→(∀ j,j<is.length→D (n+j))∧(∀ j,j<is2.length→D (n+is.length+j)):=by
  intro D n h
  refine⟨fun j hj=>h j (by simp;omega),fun j hj=>?_⟩
  have:=h (is.length+j) (by simp;omega)
  rwa [← Nat.add_assoc] at this
 have cI:∀(m:NMap) n,(∀(j:Nat) i,(is++is2)[j]?=some i→m (n+j)=i)→(∀(j:Nat) i,is[j]?=some i→m (n+j)=i)∧(∀(j:Nat) i,is2[j]?=some i→m (n+is.length+j)=i):=by
  intro m n h
  refine⟨fun j i hj=>h j i (by rw[List.getElem?_append_left (List.getElem?_eq_some_iff.1 hj).1];exact hj),fun j i hj=>?_⟩
  have:=h (is.length+j) i (by rw[List.getElem?_append_right (by omega),Nat.add_sub_cancel_left];exact hj)
  rwa [← Nat.add_assoc] at this
 refine⟨fun D m n hD hm=>?_,fun Fz h n hF hh=>?_,fun D m n hD hm j b hb=>?_,fun n j b i hb hi hd=>?_,fun n=>by simp[a.len,az.len]⟩
 ·have h1:=a.vr D m n (cD D n hD).1 (cI m n hm).1
  have h2:=az.vr D m (n+is.length) (cD D n hD).2 (cI m n hm).2
  refine⟨by simp[h2.len],fun i x x' hx hx'=>?_⟩
  cases i with
  | zero=>simp at hx hx';subst hx hx';exact h1
  | succ i=>simp at hx hx';exact h2.at' i x x' hx hx'
 ·refine .cons (a.vl Fz h n (cD Fz n hF).1 fun j b hb=>hh j b (by rw[List.getElem?_append_left (List.getElem?_eq_some_iff.1 hb).1];exact hb)) (az.vl Fz h (n+is.length) (cD Fz n hF).2 fun j b hb=>?_)
  have:=hh (is.length+j) b (by rw[List.getElem?_append_right (by rw[a.len];omega),a.len,Nat.add_sub_cancel_left];exact hb)
  rwa [← Nat.add_assoc] at this
 ·rcases Nat.lt_or_ge j is.length with hj|hj
  ·rw[List.getElem?_append_left (by rw[a.len];exact hj)] at hb
   exact a.ok D m n (cD D n hD).1 (cI m n hm).1 j b hb
  ·rw[List.getElem?_append_right (by rw[a.len];exact hj),a.len] at hb
   have:=az.ok D m (n+is.length) (cD D n hD).2 (cI m n hm).2 _ b hb
   rwa [show n+is.length+(j-is.length)=n+j by omega] at this
 ·rcases Nat.lt_or_ge j is.length with hj|hj
  ·rw[List.getElem?_append_left (by rw[a.len];exact hj)] at hb
   rw[List.getElem?_append_left hj] at hi
   exact a.lt n j b i hb hi hd
  ·rw[List.getElem?_append_right (by rw[a.len];exact hj),a.len] at hb
   rw[List.getElem?_append_right hj] at hi
   exact az.lt _ _ b i hb hi hd
section
variable {W:World} {vs':List Value} {ps:List TV} {bs:Nat→List Blk} {is:List Info} {av:Nat→List Value}
def gnm(is:List Info):NMap:=fun k=>if k<NG then gm k else is.getD (k-NG) ⟨0,0,0,0⟩
theorem Dn{is:List Info}{j:Nat}{i:Info}(h:is[j]?=some i):gnm is (NG+j)=i:=by
 unfold gnm
 rw[if_neg (by omega),Nat.add_sub_cancel_left,List.getD_eq_getElem?_getD,h]
 rfl
theorem rN:GH.length=NG:=rfl
theorem NArgs.rel(a:NArgs W vs' ps bs is av)(hw:GW W)(hs:NG≤W.heap.size):Rel W.heap.size (GH++bs NG).length (fun k=>k<(GH++bs NG).length) (gnm is) (GH++bs NG) W:=by
 have hl:=a.len NG
 have hn:(GH++bs NG).length=NG+is.length:=by rw[List.length_append,rN,hl]
 have old:∀ k,k<NG→gnm is k=gm k:=fun k hk=>if_pos hk
 have parts:∀ n b,n<(GH++bs NG).length→(GH++bs NG)[n]?=some b→(n<NG∧GH[n]?=some b)∨∃ j,n=NG+j∧(bs NG)[j]?=some b:=by
  intro n b hn' hb
  rcases Nat.lt_or_ge n NG with h|h
  ·rw[List.getElem?_append_left h] at hb;exact .inl ⟨h,hb⟩
  ·rw[List.getElem?_append_right h,rN] at hb;exact .inr ⟨n-NG,by omega,hb⟩
 have st:=Rel.start W hw hs
 have lt:∀ n b,n<(GH++bs NG).length→(GH++bs NG)[n]?=some b→b ≠ .dead→(gnm is n).block<W.heap.size:=by
  intro n b hn' hb hd
  rcases parts n b hn' hb with⟨h1,h2⟩|⟨j,rfl,h2⟩
  ·rw[old n h1];exact st.lt n b h1 h2 hd
  ·have hj:j<is.length:=by omega
   rw[Dn (List.getElem?_eq_getElem hj)]
   exact a.lt NG j b _ h2 (List.getElem?_eq_getElem hj) hd
 refine⟨Nat.le_refl _,fun _ h=>h,fun n b hn' hb=>?_,lt,fun n b hD hl=>absurd hD (by omega),fun n b hn' _ hb hd=>lt n b hn' hb hd,fun n b hD hl=>absurd hD (by omega),fun n n' b b' hD _ hl=>absurd hD (by omega),⟨fun g hg=>⟨?_,?_⟩,hs,hw⟩⟩
 ·rcases parts n b hn' hb with⟨h1,h2⟩|⟨j,rfl,h2⟩
  ·exact (st.ok n b h1 h2).mono (fun k hk=>by have hk':k<NG:=hk;show k<(GH++bs NG).length;omega) (fun k hk=>old k hk) (old n h1)
  ·exact a.ok (fun k=>k<(GH++bs NG).length) (gnm is) NG (fun j hj=>by omega) (fun j i hi=>Dn hi) j b h2
 ·show g<(GH++bs NG).length;omega
 ·rw[old g hg];exact xA g
theorem NArgs.vls(a:NArgs W vs' ps bs is av):VLs (fun k=>k<(GH++bs NG).length) (GH++bs NG) noL ps (av NG):=by
 have hn:(GH++bs NG).length=NG+is.length:=by rw[List.length_append,rN,a.len NG]
 exact a.vl _ _ NG (fun j hj=>by omega) (fun j b hb=>by rw[List.getElem?_append_right (by rw[rN];omega),rN,Nat.add_sub_cancel_left];exact hb)
theorem NArgs.fz(_a:NArgs W vs' ps bs is av):FZ (fun k=>k<(GH++bs NG).length) (GH++bs NG):=
 ⟨fun _ h=>h,fun g hg=>by
  have h1:g<GH.length:=hg
  exact⟨by rw[List.length_append];omega,List.getElem?_append_left h1⟩⟩
theorem NArgs.vrs(a:NArgs W vs' ps bs is av):VRs (fun k=>k<(GH++bs NG).length) (gnm is) (av NG) vs':=by
 have hn:(GH++bs NG).length=NG+is.length:=by rw[List.length_append,rN,a.len NG]
 exact a.vr _ _ NG (fun j hj=>by omega) (fun j i hi=>Dn hi)
theorem tZ{α:Type}{F:α→TV}:∀(vs':List Value),(∀ c∈vs',∃(x:α) (bs:Nat→List Blk) (is:List Info) (av:Nat→Value),NArg W c (F x) bs is av) →
 ∃(xs:List α) (bs:Nat→List Blk) (is:List Info) (av:Nat→List Value),xs.length=vs'.length∧NArgs W vs' (xs.map F) bs is av
 | [],_=>⟨[],_,_,_,rfl,NArgs.nil W⟩
 | c::t,h=>by
  obtain⟨xs,_,_,_,hl,a⟩:=tZ t (fun c hc=>h c (by simp[hc]))
  obtain⟨x,_,_,_,b⟩:=h c (by simp)
  exact⟨x::xs,_,_,_,by simp[hl],NArgs.cons b a⟩
end
section
variable {H:Type} {enc:TypeId×Value→H} {W:World} {base:Nat} {spare:Nat→Bool} {held:Bool}
theorem Ce{gb:Nat}{o:Nat}{s:Option Nat}{k:Nat}{v:Value}(h:W.cell? ⟨gb,o+k,s⟩=some v):s=none∧gb<W.heap.size:=by
 unfold World.cell? at h
 split at h
 ·rename_i hb
  refine⟨?_,?_⟩
  ·cases s with
   | none=>rfl
   | some s=>simp at h
  ·rcases Nat.lt_or_ge gb W.heap.size with hg|hg
   ·exact hg
   ·rw[Array.getElem?_eq_none hg] at hb
    cases hb
 ·cases h
theorem Ay{P:Program}{t te:TypeId}(ht:P.underlying t=some (.slice te)){es:Nat}(he:0<es)(hC:P.cellsOf te=es){v':Value}{fuel:Nat}{x:DataW H×List MemPlace}(h:DataW.trod enc P W base spare held fuel t [v']=some x) :
 v' = .slice none 0 0∨(∃ a c,v' = .slice (some a) 0 c)∨∃ gb o len cap n,v' = .slice (some ⟨gb,o,none⟩) len cap∧0<len∧len≤cap∧gb<W.heap.size ∧
  ∀ i,i<len→∃ cs y,cs.length=es∧DataW.trod enc P W base spare held n te cs=some y∧∀ j,j<es→W.cell? ⟨gb,o+i*es+j,none⟩=cs[j]?:=by
 rcases DataW.trod_slice ht h with⟨hv,_⟩|⟨a,len,cap,elems,rest,n,_,hv,_,hb,hlc,hcm,hel,hel2,_,_⟩
 ·exact .inl (by simpa using hv)
 ·obtain rfl:v' = .slice (some a) len cap:=by simpa using hv
  rcases Nat.eq_zero_or_pos len with h0|h0
  ·subst h0
   exact .inr (.inl ⟨a,cap,rfl⟩)
  ·obtain⟨gb,o,s⟩:=a
   have first:s=none∧gb<W.heap.size:=by
    have h1:=hel2 0 h0
    rw[List.getElem?_eq_getElem (by omega),Option.bind_eq_some_iff] at h1
    obtain⟨cs,hcs,htr⟩:=h1
    rw[hC] at hcs
    unfold World.cells? at hcs
    split at hcs
    ·have hlen:=mapM_some_length hcs
     simp at hlen
     have h2:=mapM_some_get hcs 0 0 (by simp[he])
     have e:((⟨gb,o,s⟩:Addr).add (0*es)).add 0=⟨gb,o+0,s⟩:=by simp[Addr.add]
     rw[e] at h2
     exact Ce (h2.trans (List.getElem?_eq_getElem (by omega)))
    ·cases hcs
   obtain⟨rfl,hgb⟩:=first
   refine .inr (.inr ⟨gb,o,len,cap,n,rfl,h0,hlc,hgb,fun i hi=>?_⟩)
   have h1:=hel2 i hi
   rw[List.getElem?_eq_getElem (by omega),Option.bind_eq_some_iff] at h1
   obtain⟨cs,hcs,htr⟩:=h1
   rw[hC] at hcs
   unfold World.cells? at hcs
   split at hcs
   ·have hlen:=mapM_some_length hcs
    simp at hlen
    refine⟨cs,_,hlen,htr,fun j hj=>?_⟩
    have:=mapM_some_get hcs j j (by simp[hj])
    have e:((⟨gb,o,none⟩:Addr).add (i*es)).add j=⟨gb,o+i*es+j,none⟩:=by
     unfold Addr.add
     split<;>split<;>simp_all
    rw[← e]
    exact this
   ·cases hcs
theorem open_lists{α:Type}{F:α→TV}{P:Program}{t te:TypeId}(ht:P.underlying t=some (.slice te))(hC:P.cellsOf te=1)
 (elem:∀ n c y,DataW.trod enc P W base spare held n te [c]=some y→∃(x:α) (bs:Nat→List Blk) (is:List Info) (av:Nat→Value),NArg W c (F x) bs is av)
 {v':Value} {fuel:Nat} {x:DataW H×List MemPlace} (h:DataW.trod enc P W base spare held fuel t [v']=some x):∃(xs:List α) (bs:Nat→List Blk) (is:List Info) (av:Nat→Value),NArg W v' (.list 1 (xs.map fun x=>[F x])) bs is av:=by
 rcases Ay ht (by decide) hC h with rfl|⟨a,c,rfl⟩|⟨gb,o,len,cap,n,rfl,h0,hlc,hgb,key⟩
 ·exact⟨[],fun _=>[],[],fun _=>.slice none 0 0,fun _ _ _ _ _=>.nilSlice 0 0,fun _ _ _ _ _=>.nillist _ _,fun _ _ _ _ _ j b h=>by simp at h,fun _ j b i h=>by simp at h,fun _=>rfl⟩
 ·exact⟨[],fun _=>[],[],fun _=>vag,fun _ _ _ _ _=>.vague a c,fun _ _ _ _ _=>.vague _ _,fun _ _ _ _ _ j b h=>by simp at h,fun _ j b i h=>by simp at h,fun _=>rfl⟩
 ·have key2 : ∀ i, i < len → ∃ c : Value, W.cell? ⟨gb, o + i, none⟩ = some c ∧ ∃ y, DataW.trod enc P W base spare held n te [c] = some y := fun i hi => by
    obtain⟨cs,y,hl,htr,hcell⟩:=key i hi
    obtain⟨c,rfl⟩:=len1 hl
    refine⟨c,?_,y,htr⟩
    have:=hcell 0 (by decide)
    simpa using this
  obtain⟨cs,hcl,hq⟩:=oS len key2
  obtain⟨xs,bs,is,avs,hxl,az⟩:=tZ (W:=W) (F:=F) cs (fun c hc=>by
   obtain⟨i,hi,rfl⟩:=List.mem_iff_getElem.1 hc
   obtain⟨_,y,hy⟩:=hq i _ (List.getElem?_eq_getElem hi)
   exact elem n _ y hy)
  subst hcl
  have sD:∀(D:Nat→Prop) n,(∀ j,j<is.length+1→D (n+j))→D n∧∀ j,j<is.length→D (n+1+j):=by
   intro D n hD
   refine⟨by simpa using hD 0 (by omega),fun j hj=>?_⟩
   have:=hD (j+1) (by omega)
   rwa [show n+1+j=n+(j+1) by omega]
  have sI:∀(m:NMap) n,(∀(j:Nat) i,((⟨gb,o,cap*1,1⟩:Info)::is)[j]?=some i→m (n+j)=i)→m n=⟨gb,o,cap*1,1⟩∧∀(j:Nat) i,is[j]?=some i→m (n+1+j)=i:=by
   intro m n hm
   refine⟨by simpa using hm 0 _ rfl,fun j i hi=>?_⟩
   have:=hm (j+1) i (by simpa using hi)
   rwa [show n+1+j=n+(j+1) by omega]
  refine⟨xs,fun n=>.cells 1 (avs (n+1))::bs (n+1),⟨gb,o,cap*1,1⟩::is,fun n=>.slice (some ⟨n,0,none⟩) xs.length xs.length,fun D m n hD hm=>?_,fun Fz h n hF hh=>?_,fun D m n hD hm j b hb=>?_,fun n j b i hb hi hd=>?_,fun n=>by simp[az.len]⟩
  ·have e:=(sI m n hm).1
   have:=VR.slice (D:=D) (m:=m) n 0 xs.length xs.length cap (sD D n (by simpa using hD)).1 (Nat.le_refl _) (by omega) (.inr (by rw[e];simp))
   rw[e] at this
   rw[hxl] at this ⊢
   exact this
  ·have hs := az.vl Fz h (n + 1) (sD Fz n (by simpa using hF)).2 (fun j b hb => by
     have:=hh (j+1) b (by simpa using hb)
     rwa [show n+1+j=n+(j+1) by omega])
   have hlen:=hs.len
   have hflat:(xs.map fun x=>[F x]).flatten=xs.map F:=by
    clear hlen hs az hxl
    induction xs with
    | nil=>rfl
    | cons a t ih=>simp[ih]
   have h0':=hh 0 (.cells 1 (avs (n+1))) rfl
   have:=VL.list (Fz:=Fz) (h:=h) noL 1 (xs.map fun x=>[F x]) n 0 xs.length (avs (n+1)) 1 (sD Fz n (by simpa using hF)).1 h0' (.inl rfl) (fun r hr=>by obtain⟨x,_,rfl⟩:=List.mem_map.1 hr;rfl) (by simp) (by simp only[List.length_map] at hlen ⊢;omega) (fun j p x hp hx=>by
    rw[hflat] at hp
    rw[Nat.zero_add] at hx
    exact hs.at' j p x hp hx)
   rw[List.length_map] at this
   exact this
  ·cases j with
   | zero =>
    obtain rfl:=Option.some.inj hb
    have e:=(sI m n hm).1
    have hv:=az.vr D m (n+1) (sD D n (by simpa using hD)).2 (sI m n hm).2
    rw[Nat.add_zero]
    refine⟨by rw[e],fun i v hi=>?_⟩
    obtain⟨v',h1,h2⟩:=hv.at hi
    refine⟨v',?_,h2⟩
    rw[e]
    exact (hq i v' h1).1
   | succ j =>
    have:=az.ok D m (n+1) (sD D n (by simpa using hD)).2 (sI m n hm).2 j b (by simpa using hb)
    rwa [show n+1+j=n+(j+1) by omega] at this
  ·cases j with
   | zero =>
    obtain rfl:=Option.some.inj hi
    exact hgb
   | succ j=>exact az.lt _ j b i (by simpa using hb) (by simpa using hi) hd
end
theorem NArgs.append{W:World}{vs1:List Value}{ps1:List TV}{bs bs2:Nat→List Blk}{is is2:List Info}{av avs:Nat→List Value}{vs':List Value}{ps:List TV}
 (a:NArgs W vs1 ps1 bs is av) (az:NArgs W vs' ps bs2 is2 avs):NArgs W (vs1++vs') (ps1++ps) (fun n=>bs n++bs2 (n+is.length)) (is++is2) (fun n=>av n++avs (n+is.length)):=by
 have cD:∀(D:Nat→Prop) n,(∀ j,j<(is++is2).length→D (n+j))→(∀ j,j<is.length→D (n+j))∧(∀ j,j<is2.length→D (n+is.length+j)):=by
  intro D n h
  refine⟨fun j hj=>h j (by simp;omega),fun j hj=>?_⟩
  have:=h (is.length+j) (by simp;omega)
  rwa [← Nat.add_assoc] at this
 have cI:∀(m:NMap) n,(∀(j:Nat) i,(is++is2)[j]?=some i→m (n+j)=i)→(∀(j:Nat) i,is[j]?=some i→m (n+j)=i)∧(∀(j:Nat) i,is2[j]?=some i→m (n+is.length+j)=i):=by
  intro m n h
  refine⟨fun j i hj=>h j i (by rw[List.getElem?_append_left (List.getElem?_eq_some_iff.1 hj).1];exact hj),fun j i hj=>?_⟩
  have:=h (is.length+j) i (by rw[List.getElem?_append_right (by omega),Nat.add_sub_cancel_left];exact hj)
  rwa [← Nat.add_assoc] at this
 refine⟨fun D m n hD hm=>?_,fun Fz h n hF hh=>?_,fun D m n hD hm j b hb=>?_,fun n j b i hb hi hd=>?_,fun n=>by simp[a.len,az.len]⟩
 ·exact (a.vr D m n (cD D n hD).1 (cI m n hm).1).append (az.vr D m (n+is.length) (cD D n hD).2 (cI m n hm).2)
 ·refine (a.vl Fz h n (cD Fz n hF).1 fun j b hb=>hh j b (by rw[List.getElem?_append_left (List.getElem?_eq_some_iff.1 hb).1];exact hb)).append (az.vl Fz h (n+is.length) (cD Fz n hF).2 fun j b hb=>?_)
  have:=hh (is.length+j) b (by rw[List.getElem?_append_right (by rw[a.len];omega),a.len,Nat.add_sub_cancel_left];exact hb)
  rwa [← Nat.add_assoc] at this
 ·rcases Nat.lt_or_ge j is.length with hj|hj
  ·rw[List.getElem?_append_left (by rw[a.len];exact hj)] at hb
   exact a.ok D m n (cD D n hD).1 (cI m n hm).1 j b hb
  ·rw[List.getElem?_append_right (by rw[a.len];exact hj),a.len] at hb
   have:=az.ok D m (n+is.length) (cD D n hD).2 (cI m n hm).2 _ b hb
   rwa [show n+is.length+(j-is.length)=n+j by omega] at this
 ·rcases Nat.lt_or_ge j is.length with hj|hj
  ·rw[List.getElem?_append_left (by rw[a.len];exact hj)] at hb
   rw[List.getElem?_append_left hj] at hi
   exact a.lt n j b i hb hi hd
  ·rw[List.getElem?_append_right (by rw[a.len];exact hj),a.len] at hb
   rw[List.getElem?_append_right hj] at hi
   exact az.lt _ _ b i hb hi hd
theorem uG{W:World}{α:Type}{F:α→List TV}:∀(rows:List (List Value)),(∀ r∈rows,∃(x:α) (bs:Nat→List Blk) (is:List Info) (av:Nat→List Value),NArgs W r (F x) bs is av) →
 ∃(xs:List α) (bs:Nat→List Blk) (is:List Info) (av:Nat→List Value),xs.length=rows.length∧NArgs W rows.flatten (xs.map F).flatten bs is av
 | [],_=>⟨[],_,_,_,rfl,NArgs.nil W⟩
 | r::t,h=>by
  obtain⟨xs,_,_,_,hl,a⟩:=uG t (fun c hc=>h c (by simp[hc]))
  obtain⟨x,_,_,_,b⟩:=h r (by simp)
  exact⟨x::xs,_,_,_,by simp[hl],NArgs.append b a⟩
theorem Am{α:Type}{es:Nat}:∀(rows:List (List α)) (_:∀ r∈rows,r.length=es) (i j:Nat),j<es→rows.flatten[i*es+j]?=(rows[i]?).bind (·[j]?)
 | [],_,i,j,_=>by simp
 | r::t,h,0,j,hj=>by
  have:=h r (by simp)
  rw[Nat.zero_mul,Nat.zero_add,List.flatten_cons,List.getElem?_append_left (by omega)]
  rfl
 | r::t,h,i+1,j,hj=>by
  have hr:=h r (by simp)
  rw[List.flatten_cons,List.getElem?_append_right (by rw[Nat.add_mul];omega),show (i+1)*es+j-r.length=i*es+j by rw[Nat.add_mul];omega]
  exact Am t (fun r hr=>h r (by simp[hr])) i j hj
section
variable {H:Type} {enc:TypeId×Value→H} {W:World} {base:Nat} {spare:Nat→Bool} {held:Bool}
theorem open_rowsN{α:Type}{F:α→List TV}{es:Nat}(he:0<es)(hF:∀ x,(F x).length=es){P:Program}{t te:TypeId}(ht:P.underlying t=some (.slice te))(hC:P.cellsOf te=es)
 (elem:∀ n cs y,cs.length=es→DataW.trod enc P W base spare held n te cs=some y→∃(x:α) (bs:Nat→List Blk) (is:List Info) (av:Nat→List Value),NArgs W cs (F x) bs is av)
 {v':Value} {fuel:Nat} {x:DataW H×List MemPlace} (h:DataW.trod enc P W base spare held fuel t [v']=some x):∃(xs:List α) (bs:Nat→List Blk) (is:List Info) (av:Nat→Value),NArg W v' (.list es (xs.map F)) bs is av:=by
 rcases Ay ht he hC h with rfl|⟨a,c,rfl⟩|⟨gb,o,len,cap,n,rfl,h0,hlc,hgb,key⟩
 ·exact⟨[],fun _=>[],[],fun _=>.slice none 0 0,fun _ _ _ _ _=>.nilSlice 0 0,fun _ _ _ _ _=>.nillist _ _,fun _ _ _ _ _ j b h=>by simp at h,fun _ j b i h=>by simp at h,fun _=>rfl⟩
 ·exact⟨[],fun _=>[],[],fun _=>vag,fun _ _ _ _ _=>.vague a c,fun _ _ _ _ _=>.vague _ _,fun _ _ _ _ _ j b h=>by simp at h,fun _ j b i h=>by simp at h,fun _=>rfl⟩
 ·obtain⟨rows,hrl,hq⟩:=oS len key
  have hw:∀ r∈rows,r.length=es:=fun r hr=>by
   obtain⟨i,hi,rfl⟩:=List.mem_iff_getElem.1 hr
   obtain⟨y,h1,_⟩:=hq i _ (List.getElem?_eq_getElem hi)
   exact h1
  obtain⟨xs,bs,is,avs,hxl,az⟩:=uG (W:=W) (F:=F) rows (fun c hc=>by
   obtain⟨i,hi,rfl⟩:=List.mem_iff_getElem.1 hc
   obtain⟨y,h1,h2,_⟩:=hq i _ (List.getElem?_eq_getElem hi)
   exact elem n _ y h1 h2)
  have hcell:∀ i v,rows.flatten[i]?=some v→W.cell? ⟨gb,o+i,none⟩=some v:=fun i v hv=>by
   have e:i=i/es*es+i%es:=by rw[Nat.mul_comm];exact (Nat.div_add_mod i es).symm
   rw[e,Am rows hw _ _ (Nat.mod_lt _ he)] at hv
   obtain⟨r,hr,hv⟩:=Option.bind_eq_some_iff.1 hv
   obtain⟨y,h1,h2,h3⟩:=hq _ _ hr
   have:=h3 (i%es) (Nat.mod_lt _ he)
   rw[hv] at this
   rw[← this]
   congr 2
   omega
  subst hrl
  have sD:∀(D:Nat→Prop) n,(∀ j,j<is.length+1→D (n+j))→D n∧∀ j,j<is.length→D (n+1+j):=by
   intro D n hD
   refine⟨by simpa using hD 0 (by omega),fun j hj=>?_⟩
   have:=hD (j+1) (by omega)
   rwa [show n+1+j=n+(j+1) by omega]
  have sI:∀(m:NMap) n,(∀(j:Nat) i,((⟨gb,o,cap*es,es⟩:Info)::is)[j]?=some i→m (n+j)=i)→m n=⟨gb,o,cap*es,es⟩∧∀(j:Nat) i,is[j]?=some i→m (n+1+j)=i:=by
   intro m n hm
   refine⟨by simpa using hm 0 _ rfl,fun j i hi=>?_⟩
   have:=hm (j+1) i (by simpa using hi)
   rwa [show n+1+j=n+(j+1) by omega]
  refine⟨xs,fun n=>.cells es (avs (n+1))::bs (n+1),⟨gb,o,cap*es,es⟩::is,fun n=>.slice (some ⟨n,0,none⟩) xs.length xs.length,fun D m n hD hm=>?_,fun Fz h n hF' hh=>?_,fun D m n hD hm j b hb=>?_,fun n j b i hb hi hd=>?_,fun n=>by simp[az.len]⟩
  ·have e:=(sI m n hm).1
   have:=VR.slice (D:=D) (m:=m) n 0 xs.length xs.length cap (sD D n (by simpa using hD)).1 (Nat.le_refl _) (by omega) (.inr (by rw[e];simp))
   rw[e] at this
   rw[hxl] at this ⊢
   exact this
  ·have hs := az.vl Fz h (n + 1) (sD Fz n (by simpa using hF')).2 (fun j b hb => by
     have:=hh (j+1) b (by simpa using hb)
     rwa [show n+1+j=n+(j+1) by omega])
   have hlen:=hs.len
   have hfl:((xs.map F).flatten).length=xs.length*es:=by
    clear hlen hs az hxl
    induction xs with
    | nil=>simp
    | cons a t ih=>simp only[List.map_cons,List.flatten_cons,List.length_append,hF,ih,List.length_cons,Nat.add_mul];omega
   have h0':=hh 0 (.cells es (avs (n+1))) rfl
   have:=VL.list (Fz:=Fz) (h:=h) noL es (xs.map F) n 0 xs.length (avs (n+1)) es (sD Fz n (by simpa using hF')).1 h0' (.inl rfl) (fun r hr=>by obtain⟨x,_,rfl⟩:=List.mem_map.1 hr;exact hF x) (by simp) (by simp only[List.length_map] at hlen ⊢;omega) (fun j p x hp hx=>by
    rw[Nat.zero_add] at hx
    exact hs.at' j p x hp hx)
   rw[List.length_map] at this
   exact this
  ·cases j with
   | zero =>
    obtain rfl:=Option.some.inj hb
    have e:=(sI m n hm).1
    have hv:=az.vr D m (n+1) (sD D n (by simpa using hD)).2 (sI m n hm).2
    rw[Nat.add_zero]
    refine⟨by rw[e],fun i v hi=>?_⟩
    obtain⟨v',h1,h2⟩:=hv.at hi
    refine⟨v',?_,h2⟩
    rw[e]
    exact hcell i v' h1
   | succ j =>
    have:=az.ok D m (n+1) (sD D n (by simpa using hD)).2 (sI m n hm).2 j b (by simpa using hb)
    rwa [show n+1+j=n+(j+1) by omega] at this
  ·cases j with
   | zero =>
    obtain rfl:=Option.some.inj hi
    exact hgb
   | succ j=>exact az.lt _ j b i (by simpa using hb) (by simpa using hi) hd
end
theorem sV(k:FloatKind)(b:Nat):Ju (.float k b):=⟨rfl,fun _ _=>.float _ _ _ .refl⟩
theorem Cr{H:Type}{enc:TypeId×Value→H}{P:Program}{w:World}{base:Nat}{spare:Nat→Bool}{held:Bool}{fuel:Nat}{t:TypeId}{cs:List Value}{x:DataW H×List MemPlace}{k:FloatKind}(ht:P.underlying t=some (.float k))(h:DataW.trod enc P w base spare held fuel t cs=some x):∃ b,cs=[.float k b]:=by
 cases fuel with
 | zero=>simp[DataW.trod] at h
 | succ n =>
  unfold DataW.trod at h
  rw[ht] at h
  split at h<;>simp_all
section
variable {H:Type} {enc:TypeId×Value→H} {W:World} {base:Nat} {spare:Nat→Bool} {held:Bool} {P:Program} {k0:FloatKind}
def AF(k0:FloatKind)(cs:List Value):Prop:=∀ c∈cs,∃ b:Nat,c = .float k0 b
theorem AF.list{cs:List Value}(h:AF k0 cs):∃ l:List Nat,cs=l.map (.float k0):=by
 induction cs with
 | nil=>exact⟨[],rfl⟩
 | cons c t ih =>
  obtain⟨n,rfl⟩:=h c (by simp)
  obtain⟨l,rfl⟩:=ih fun c hc=>h c (by simp[hc])
  exact⟨n::l,rfl⟩
theorem Ht{te:TypeId}(ht:P.underlying te=some (.float k0)){fuel:Nat}{cs:List Value}{x:DataW H×List MemPlace}(h:DataW.trod enc P W base spare held fuel te cs=some x):AF k0 cs:=by
 obtain⟨n,rfl⟩:=Cr ht h
 exact fun c hc=>⟨n,by simpa using hc⟩
theorem Mm{t e:TypeId}{m k:Nat}(ht:P.underlying t=some (.array m e))(hk:P.cellsOf e=k)(hk0:0<k)(hc:P.cellsOf t=m*k)(he:∀ n cs y,DataW.trod enc P W base spare held n e cs=some y→AF k0 cs)
 {fuel:Nat} {cs:List Value} {x:DataW H×List MemPlace} (h:DataW.trod enc P W base spare held fuel t cs=some x):AF k0 cs:=by
 obtain⟨xs,n,_,_,hl,hx,hi⟩:=DataW.trod_array ht h
 intro c hcm
 obtain⟨j,hj,rfl⟩:=List.mem_iff_getElem.1 hcm
 rw[hl,hc] at hj
 have hd:j/k<m:=(Nat.div_lt_iff_lt_mul hk0).2 hj
 have h1:=hi _ hd
 rw[List.getElem?_eq_getElem (by omega),hk] at h1
 refine he _ _ _ h1 _ ?_
 refine List.mem_of_getElem? (i:=j%k) ?_
 rw[List.getElem?_take,if_pos (Nat.mod_lt _ hk0),List.getElem?_drop,Nat.mul_comm,Nat.div_add_mod,List.getElem?_eq_getElem]
end
end Go.Rex
