/- What these functions return: facts on lists and numbers. -/
import Derived.Test.YtplnankdicpenaaRexG10
import Derived.Test.YtplnankdicpenaaS
import Derived.Test.YtplnankdicpenaaRexG11
import Derived.ProofKit
import Derived.OpenShut
import Derived.ShutString
import Derived.ChangeOld
import Derived.Below
import Derived.Lib.SmallJoins
import Derived.ChangeShapes
import Derived.ChangeArms
import Derived.WideShapes
set_option linter.unusedSimpArgs false
set_option linter.unusedVariables false
set_option linter.defProp false
set_option linter.unusedSectionVars false
namespace Go.Rex
open Go.RowKit
structure FOk(f:Ieee.Format)(q:Nat):Prop where
 lp:f.leastPlace = -(q:Int)
 le:f.fractionBits+1≤q
 inf:(q+2)*f.binade≤f.infRung
 sgn:f.infRung<f.signWeight
def fq:FloatKind→Nat
 | .f32=>149
 | .f64=>1074
def fb:FloatKind→Nat
 | .f32=>23
 | .f64=>52
theorem fok(k:FloatKind):FOk k.format (fq k):=by
 cases k<;>exact⟨by decide,by decide,by decide +kernel,by decide +kernel⟩
theorem aB4(k:FloatKind):k.format.fractionBits=fb k:=by cases k<;>rfl
theorem Lw(n:Nat)(neg:Bool):Ieee.Toward.cut .even neg n 0=n:=by
 simp[Ieee.Toward.cut,Nat.mod_one]
theorem shl(m s:Nat):m <<< s=m*2^s:=Nat.shiftLeft_eq m s
theorem Ct{m:Nat}(hm:m≠0)(s:Nat):(m*2^s).log2=m.log2+s:=by
 rw[Nat.log2_eq_iff (by have:=Nat.two_pow_pos s;exact Nat.mul_ne_zero hm (by omega))]
 have h1:=(Nat.log2_eq_iff hm).1 rfl
 constructor
 ·rw[Nat.pow_add];exact Nat.mul_le_mul_right _ h1.1
 ·rw[show m.log2+s+1=m.log2+1+s by omega,Nat.pow_add];exact Nat.mul_lt_mul_of_pos_right h1.2 (Nat.two_pow_pos s)
theorem mD{m:Nat}(hm:m≠0)(neg:Bool){s d:Nat}(hd:d≤s)(way:Ieee.Toward):way.cut neg (m*2^s) d=m*2^(s-d):=by
 have hg:min d ((m*2^s).log2+2)=d:=by rw[Ct hm];omega
 have e:m*2^s=2^d*(m*2^(s-d)):=by
  rw[Nat.mul_comm (2^d),Nat.mul_assoc,← Nat.pow_add,Nat.sub_add_cancel hd]
 have hp:=Nat.two_pow_pos d
 unfold Ieee.Toward.cut
 rw[hg,shl,Nat.one_mul,e]
 dsimp only
 rw[Nat.mul_div_cancel_left _ hp,Nat.mul_mod_right]
 have:(2^d==0)=false:=by simp
 cases way<;>simp[this]
theorem wU(neg:Bool){d:Nat}(way:Ieee.Toward):way.cut neg 0 d=0:=by
 unfold Ieee.Toward.cut
 have hp:0<1 <<< min d ((0:Nat).log2+2):=by rw[shl,Nat.one_mul];exact Nat.two_pow_pos _
 have:(1 <<< min d ((0:Nat).log2+2)==0)=false:=by rw[beq_eq_false_iff_ne];omega
 cases way<;>simp[this]
theorem log2_lt{m b:Nat}(hm:m≠0)(h:m<2^(b+1)):m.log2≤b:=by
 have:=(Nat.log2_lt hm).2 h
 omega
theorem Lz{f:Ieee.Format}{q:Nat}(ok:FOk f q){m:Nat}(hm:m≠0)(hl:m<2^(f.fractionBits+1))(neg:Bool)(s:Nat) :
 f.nearest neg (m*2^s) (-(s:Int))=f.word neg ((q+m.log2-f.fractionBits)*f.binade+m*2^(f.fractionBits-m.log2)):=by
 have hL:=log2_lt hm hl
 have hle:=ok.le
 unfold Ieee.Format.nearest
 rw[if_neg (by have:=Nat.two_pow_pos s;exact Nat.mul_ne_zero hm (by omega)),Ct hm,ok.lp]
 have e1:max (-(s:Int)+((m.log2+s:Nat):Int)-(f.fractionBits:Int)) (-(q:Int))=(m.log2:Int)-f.fractionBits:=by omega
 rw[e1]
 have kept:Ieee.Toward.even.cut neg ((m*2^s) <<< (-(s:Int)-((m.log2:Int)-f.fractionBits)).toNat) ((m.log2:Int)-f.fractionBits - -(s:Int)).toNat=m*2^(f.fractionBits-m.log2):=by
  rcases Nat.lt_or_ge (f.fractionBits-m.log2) s with h|h
  ·have a1:(-(s:Int)-((m.log2:Int)-f.fractionBits)).toNat=0:=by omega
   rw[a1,shl,Nat.pow_zero,Nat.mul_one,mD hm neg (by omega)]
   congr 2;omega
  ·have a1:(-(s:Int)-((m.log2:Int)-f.fractionBits)).toNat=f.fractionBits-m.log2-s:=by omega
   have a2:((m.log2:Int)-f.fractionBits - -(s:Int)).toNat=0:=by omega
   rw[a1,a2,Lw,shl,Nat.mul_assoc,← Nat.pow_add]
   congr 2;omega
 dsimp only
 rw[kept]
 have a3:((m.log2:Int)-f.fractionBits - -(q:Int)).toNat=q+m.log2-f.fractionBits:=by omega
 rw[a3]
 have hk:m*2^(f.fractionBits-m.log2)<2*f.binade:=by
  have h1:=(Nat.log2_eq_iff hm).1 rfl
  have h2:=Nat.mul_lt_mul_of_pos_right h1.2 (Nat.two_pow_pos (f.fractionBits-m.log2))
  rw[← Nat.pow_add] at h2
  rw[show m.log2+1+(f.fractionBits-m.log2)=f.fractionBits+1 by omega] at h2
  unfold Ieee.Format.binade
  rw[Nat.pow_succ] at h2
  omega
 have hi:=ok.inf
 have hq:(q+m.log2-f.fractionBits)*f.binade≤q*f.binade:=Nat.mul_le_mul_right _ (by omega)
 rw[Nat.add_mul] at hi
 rw[Nat.min_eq_left (by omega)]
def digs(f:Ieee.Format)(q m:Nat):Nat:=if m=0 then q else f.fractionBits-m.log2
theorem Tl{f:Ieee.Format}{q:Nat}(ok:FOk f q){m:Nat}(hl:m<2^(f.fractionBits+1))(neg:Bool):f.read (f.nearest neg m 0) = .number neg (m*2^digs f q m) (-(digs f q m:Int)):=by
 have hle:=ok.le
 have hsg:=ok.sgn
 have hinf:=ok.inf
 have hbp:0<f.binade:=Nat.two_pow_pos _
 have wd:∀ r,r<f.signWeight→(f.word neg r/f.signWeight%2==1)=neg∧f.word neg r%f.signWeight=r:=by
  intro r hr
  unfold Ieee.Format.word
  cases neg
  ·simp[Nat.div_eq_of_lt hr,Nat.mod_eq_of_lt hr]
  ·have hs:0<f.signWeight:=by omega
   simp only[if_true]
   rw[Nat.add_div_left _ hs,Nat.div_eq_of_lt hr,Nat.add_mod_left,Nat.mod_eq_of_lt hr]
   simp
 rw[Nat.add_mul] at hinf
 have hq0:2*f.binade≤f.infRung:=by omega
 by_cases hm:m=0
 ·subst hm
  have:f.nearest neg 0 0=f.word neg 0:=by unfold Ieee.Format.nearest;simp
  rw[this]
  unfold Ieee.Format.read
  simp only[(wd 0 (by omega)).1,(wd 0 (by omega)).2]
  rw[if_pos hbp,ok.lp]
  simp[digs]
 ·have h0:=Lz ok hm hl neg 0
  simp only[Nat.pow_zero,Nat.mul_one,Int.natCast_zero,Int.neg_zero] at h0
  rw[h0]
  have hL:=log2_lt hm hl
  have h1:=(Nat.log2_eq_iff hm).1 rfl
  have hk:m*2^(f.fractionBits-m.log2)<2*f.binade:=by
   have h2:=Nat.mul_lt_mul_of_pos_right h1.2 (Nat.two_pow_pos (f.fractionBits-m.log2))
   rw[← Nat.pow_add] at h2
   rw[show m.log2+1+(f.fractionBits-m.log2)=f.fractionBits+1 by omega] at h2
   unfold Ieee.Format.binade
   rw[Nat.pow_succ] at h2
   omega
  have hk2:f.binade≤m*2^(f.fractionBits-m.log2):=by
   have h2:=Nat.mul_le_mul_right (2^(f.fractionBits-m.log2)) h1.1
   rw[← Nat.pow_add] at h2
   rw[show m.log2+(f.fractionBits-m.log2)=f.fractionBits by omega] at h2
   exact h2
  generalize hK:m*2^(f.fractionBits-m.log2)=K at *
  obtain⟨j,hj⟩:∃ j,K=f.binade+j:=⟨K-f.binade,by omega⟩
  subst hj
  have hjb:j<f.binade:=by omega
  have hq:(q+m.log2-f.fractionBits)*f.binade≤q*f.binade:=Nat.mul_le_mul_right _ (by omega)
  have hr:(q+m.log2-f.fractionBits)*f.binade+(f.binade+j)<f.infRung:=by omega
  have hrs:(q+m.log2-f.fractionBits)*f.binade+(f.binade+j)<f.signWeight:=by omega
  unfold Ieee.Format.read
  simp only[(wd _ hrs).1,(wd _ hrs).2]
  rw[if_neg (by omega),if_pos hr]
  have e1:(q+m.log2-f.fractionBits)*f.binade+(f.binade+j)=f.binade*(q+m.log2-f.fractionBits+1)+j:=by
   rw[Nat.mul_add,Nat.mul_comm];omega
  rw[e1,Nat.mul_add_mod,Nat.mod_eq_of_lt hjb,Nat.mul_add_div hbp,Nat.div_eq_of_lt hjb,ok.lp]
  unfold digs
  rw[if_neg hm,hK]
  congr 1
  omega
def sg(s:Bool)(m:Nat):Int:=if s then -(m:Int) else m
theorem vH(s:Bool)(m u:Nat):Ieee.signed s m u=sg s m*2^u:=by
 unfold Ieee.signed sg
 rw[shl]
 cases s<;>simp[Int.neg_mul]
def fz(k:FloatKind)(s:Bool)(m:Nat):Nat:=k.encode (.number s m 0)
def ffit(k:FloatKind)(m:Nat):Prop:=m<2^(fb k+1)
def dg(k:FloatKind)(m:Nat):Nat:=digs k.format (fq k) m
theorem Zy{k:FloatKind}{s:Bool}{m:Nat}(h:ffit k m):k.format.read (fz k s m) = .number s (m*2^dg k m) (-(dg k m:Int)):=
 Tl (fok k) (by rw[aB4];exact h) s
theorem Qg(s:Bool)(m n:Nat):sg s (m*n)=sg s m*n:=by cases s<;>simp[sg,Int.neg_mul]
theorem wS(s:Bool)(m:Nat):(sg s m).natAbs=m:=by cases s<;>simp[sg]
theorem aBD{op:BinOp}{k:FloatKind}{a b r:Nat}(h:farith0 op k a b=some r):farith op k a b=some r:=by
 unfold farith arN
 rw[h]
 rfl
end Go.Rex
open Go Go.Rex
namespace Go.Rex
set_option maxRecDepth 100000
theorem dbl:Ieee.double.fractionBits=52∧Ieee.double.leastPlace = -1074∧Ieee.double.binade=2^52∧Ieee.double.infRung=2047*Ieee.double.binade∧Ieee.double.signWeight=2048*Ieee.double.binade:=by decide +kernel
theorem Ke{m:Nat}(hm:m≠0)(hl:m<2^53)(neg:Bool)(a:Nat){e p:Int}(hp:p=e-a)(h1:-1074≤e+m.log2-52)(h2:e+m.log2≤1023) :
 Ieee.double.nearest neg (m*2^a) p=Ieee.double.word neg ((1074+e+m.log2-52).toNat*Ieee.double.binade+m*2^(52-m.log2)):=by
 subst hp
 have hL:=log2_lt hm hl
 unfold Ieee.Format.nearest
 rw[if_neg (by have:=Nat.two_pow_pos a;exact Nat.mul_ne_zero hm (by omega)),Ct hm,dbl.1,dbl.2.1]
 have e1:max (e-(a:Int)+((m.log2+a:Nat):Int)-((52:Nat):Int)) (-1074)=e+(m.log2:Int)-52:=by omega
 rw[e1]
 have kept:Ieee.Toward.even.cut neg ((m*2^a) <<< (e-(a:Int)-(e+(m.log2:Int)-52)).toNat) (e+(m.log2:Int)-52-(e-(a:Int))).toNat=m*2^(52-m.log2):=by
  rcases Nat.lt_or_ge (52-m.log2) a with h|h
  ·have a1:(e-(a:Int)-(e+(m.log2:Int)-52)).toNat=0:=by omega
   rw[a1,shl,Nat.pow_zero,Nat.mul_one,mD hm neg (by omega)]
   congr 2;omega
  ·have a1:(e-(a:Int)-(e+(m.log2:Int)-52)).toNat=52-m.log2-a:=by omega
   have a2:(e+(m.log2:Int)-52-(e-(a:Int))).toNat=0:=by omega
   rw[a1,a2,Lw,shl,Nat.mul_assoc,← Nat.pow_add]
   congr 2;omega
 dsimp only
 rw[kept]
 have a3:(e+(m.log2:Int)-52 - -1074).toNat=(1074+e+m.log2-52).toNat:=by omega
 rw[a3]
 have hk:m*2^(52-m.log2)<2*Ieee.double.binade:=by
  have h1:=(Nat.log2_eq_iff hm).1 rfl
  have h2:=Nat.mul_lt_mul_of_pos_right h1.2 (Nat.two_pow_pos (52-m.log2))
  rw[← Nat.pow_add] at h2
  rw[show m.log2+1+(52-m.log2)=53 by omega] at h2
  rw[dbl.2.2.1]
  omega
 rw[dbl.2.2.2.1]
 generalize Ieee.double.binade=B at hk ⊢
 rw[Nat.min_eq_left (by
  have:(1074+e+(m.log2:Int)-52).toNat≤2045:=by omega
  have:=Nat.mul_le_mul_right B this
  omega)]
theorem wd(neg:Bool)(r:Nat)(hr:r<Ieee.double.signWeight):(Ieee.double.word neg r/Ieee.double.signWeight%2==1)=neg∧Ieee.double.word neg r%Ieee.double.signWeight=r:=by
 unfold Ieee.Format.word
 cases neg
 ·simp[Nat.div_eq_of_lt hr,Nat.mod_eq_of_lt hr]
 ·have hs:0<Ieee.double.signWeight:=by omega
  simp only[if_true]
  rw[Nat.add_div_left _ hs,Nat.div_eq_of_lt hr,Nat.add_mod_left,Nat.mod_eq_of_lt hr]
  simp
theorem Rh{m:Nat}(hm:m≠0)(hl:m<2^53)(neg:Bool){e:Int}(h1:-1074≤e+m.log2-52)(h2:e+m.log2≤1023) :
 Ieee.double.read (Ieee.double.nearest neg m e) = .number neg (m*2^(52-m.log2)) (e-((52-m.log2:Nat):Int)):=by
 have h0:=Ke hm hl neg 0 (e:=e) (p:=e) (by simp) h1 h2
 rw[Nat.pow_zero,Nat.mul_one] at h0
 rw[h0]
 have hL:=log2_lt hm hl
 have hh:=(Nat.log2_eq_iff hm).1 rfl
 have hB:=dbl.2.2.1
 have hk:m*2^(52-m.log2)<2*Ieee.double.binade:=by
  have h2:=Nat.mul_lt_mul_of_pos_right hh.2 (Nat.two_pow_pos (52-m.log2))
  rw[← Nat.pow_add] at h2
  rw[show m.log2+1+(52-m.log2)=53 by omega] at h2
  rw[hB]
  omega
 have hk2:Ieee.double.binade≤m*2^(52-m.log2):=by
  have h2:=Nat.mul_le_mul_right (2^(52-m.log2)) hh.1
  rw[← Nat.pow_add] at h2
  rw[show m.log2+(52-m.log2)=52 by omega] at h2
  rw[hB]
  exact h2
 have hB0:0<Ieee.double.binade:=by rw[hB];decide
 generalize hK:m*2^(52-m.log2)=K at *
 obtain⟨j,hj⟩:∃ j,K=Ieee.double.binade+j:=⟨K-Ieee.double.binade,by omega⟩
 subst hj
 obtain⟨q,hq⟩:∃ q:Nat,(1074+e+(m.log2:Int)-52).toNat=q:=⟨_,rfl⟩
 rw[hq]
 have hq2:q≤2045:=by omega
 have hqb:=Nat.mul_le_mul_right Ieee.double.binade hq2
 have hr:q*Ieee.double.binade+(Ieee.double.binade+j)<Ieee.double.signWeight:=by
  rw[dbl.2.2.2.2]
  omega
 unfold Ieee.Format.read
 simp only[(wd neg _ hr).1,(wd neg _ hr).2]
 rw[dbl.2.2.2.1,dbl.2.1]
 generalize Ieee.double.binade=B at *
 rw[if_neg (by omega),if_pos (by omega)]
 have e1:q*B+(B+j)=B*(q+1)+j:=by rw[Nat.mul_add,Nat.mul_comm];omega
 have hjb:j<B:=by omega
 rw[e1,Nat.mul_add_mod,Nat.mod_eq_of_lt hjb,Nat.mul_add_div hB0,Nat.div_eq_of_lt hjb]
 congr 1
 omega
theorem zS(neg:Bool)(p:Int):Ieee.double.nearest neg 0 p=Ieee.double.word neg 0:=by
 unfold Ieee.Format.nearest
 simp
theorem Ql(neg:Bool):Ieee.double.read (Ieee.double.word neg 0) = .number neg 0 (-1074):=by
 cases neg<;>decide +kernel
def NV(s:Bool)(m:Nat)(e:Int)(x:Int):Prop:=(0≤e∧sg s m*2^e.toNat=x)∨(e<0∧sg s m=x*2^(-e).toNat)
theorem mA(a b:Nat):(2:Int)^(a+b)=2^a*2^b:=Int.pow_add ..
theorem NV.at{s:Bool}{m:Nat}{e x:Int}(h:NV s m e x){b:Int}(hb:b≤e)(hb0:b≤0):sg s m*2^(e-b).toNat=x*2^(-b).toNat:=by
 rcases h with⟨h0,h1⟩|⟨h0,h1⟩
 ·rw[show (e-b).toNat=e.toNat+(-b).toNat by omega,mA,← Int.mul_assoc,h1]
 ·rw[h1,show (-b).toNat=(-e).toNat+(e-b).toNat by omega,mA,Int.mul_assoc]
theorem NV.of{s:Bool}{m:Nat}{e x b:Int}(hb:b≤e)(hb0:b≤0)(h:sg s m*2^(e-b).toNat=x*2^(-b).toNat):NV s m e x:=by
 have hp:∀ k:Nat,(0:Int)<2^k:=fun k=>Int.pow_pos (by decide)
 by_cases he:0≤e
 ·left
  refine⟨he,?_⟩
  rw[show (e-b).toNat=e.toNat+(-b).toNat by omega,mA,← Int.mul_assoc] at h
  exact Int.eq_of_mul_eq_mul_right (Int.ne_of_gt (hp _)) h
 ·right
  refine⟨by omega,?_⟩
  rw[show (-b).toNat=(-e).toNat+(e-b).toNat by omega,mA,← Int.mul_assoc] at h
  exact Int.eq_of_mul_eq_mul_right (Int.ne_of_gt (hp _)) h
theorem Fu(a b:Int)(k:Nat):compare (a*2^k) (b*2^k)=compare a b:=by
 have hp:(0:Int)<2^k:=Int.pow_pos (by decide)
 have key:∀ a b:Int,a*2^k<b*2^k↔a<b:=fun a b=>Int.mul_lt_mul_right hp
 simp only[compare,compareOfLessAndEq,key]
 have:(a*2^k=b*2^k)↔a=b:=Int.mul_eq_mul_right_iff (by omega)
 simp only[this]
theorem qA{s t:Bool}{m n:Nat}{i j b:Int}(hi:b≤i)(hj:b≤j):Ieee.Datum.order (.number s m i) (.number t n j)=some (compare (sg s m*2^(i-b).toNat) (sg t n*2^(j-b).toNat)):=by
 simp only[Ieee.Datum.order,vH]
 congr 1
 rw[show (i-b).toNat=(i-min i j).toNat+(min i j-b).toNat by omega,show (j-b).toNat=(j-min i j).toNat+(min i j-b).toNat by omega,mA,mA,← Int.mul_assoc,← Int.mul_assoc,Fu]
theorem pW{s t:Bool}{m n:Nat}{i j x y:Int}(h:NV s m i x)(g:NV t n j y):Ieee.Datum.order (.number s m i) (.number t n j)=some (compare x y):=by
 have hb:min (min i j) 0≤i∧min (min i j) 0≤j∧min (min i j) 0≤0:=by omega
 rw[qA hb.1 hb.2.1,h.at hb.1 hb.2.2,g.at hb.2.1 hb.2.2,Fu]
theorem Vr{s t:Bool}{m n:Nat}{i j y:Int}(g:NV t n j y)(h:Ieee.Datum.order (.number s m i) (.number t n j)=some .eq):NV s m i y:=by
 have hb:min (min i j) 0≤i∧min (min i j) 0≤j∧min (min i j) 0≤0:=by omega
 rw[qA hb.1 hb.2.1,g.at hb.2.1 hb.2.2,Option.some.injEq,Int.compare_eq_eq] at h
 exact NV.of hb.1 hb.2.2 h
theorem NV.shift{s:Bool}{m:Nat}{e x:Int}(a:Nat):NV s (m*2^a) (e-a) x↔NV s m e x:=by
 have hb:min (e-a) 0≤e∧min (e-a) 0≤e-a∧min (e-a) 0≤0:=by omega
 have key:sg s (m*2^a)*2^(e-a-min (e-a) 0).toNat=sg s m*2^(e-min (e-a) 0).toNat:=by
  rw[Qg,Int.mul_assoc,Int.natCast_pow]
  congr 1
  show (2:Int)^a*2^_=_
  rw[← mA]
  congr 1
  omega
 constructor
 ·intro h
  exact NV.of hb.1 hb.2.2 (by rw[← key];exact h.at hb.2.1 hb.2.2)
 ·intro h
  exact NV.of hb.2.1 hb.2.2 (by rw[key];exact h.at hb.1 hb.2.2)
end Go.Rex
open Go Go.Rex
namespace Go.Rex
set_option maxRecDepth 100000
def MOk(m:Nat)(e:Int):Prop:=(m=0∧e = -149)∨(m≠0∧m<2^24∧-149≤e∧e≤104)
theorem sng:Ieee.single.leastPlace = -149∧Ieee.single.binade=2^23∧Ieee.single.infRung=255*2^23:=by decide +kernel
theorem Hb(b:Nat):(∃ s t,Ieee.single.read b = .nan s t)∨(∃ s,Ieee.single.read b = .infinity s)∨(∃ s m e,Ieee.single.read b = .number s m e∧MOk m e):=by
 unfold Ieee.Format.read
 simp only[sng.1,sng.2.1,sng.2.2]
 generalize b%Ieee.single.signWeight=r
 generalize (b/Ieee.single.signWeight%2==1)=s
 split
 ·rename_i h
  refine .inr (.inr ⟨_,_,_,rfl,?_⟩)
  by_cases h0:r=0
  ·exact .inl ⟨h0,rfl⟩
  ·exact .inr ⟨h0,by omega,by omega,by omega⟩
 ·split
  ·refine .inr (.inr ⟨_,_,_,rfl,.inr ⟨by omega,?_,by omega,by omega⟩⟩)
   have:=Nat.mod_lt r (show 0<2^23 by decide)
   omega
  ·split
   ·exact .inr (.inl ⟨_,rfl⟩)
   ·exact .inl ⟨_,_,rfl⟩
theorem Fv{m:Nat}(hm:m≠0)(hl:m<2^53)(neg:Bool)(a:Nat){e p:Int}(hp:p=e-a)(h1:-1074≤e+m.log2-52)(h2:e+m.log2≤1023):Ieee.double.nearest neg (m*2^a) p=Ieee.double.nearest neg m e:=by
 rw[Ke hm hl neg a hp h1 h2]
 have:=Ke hm hl neg 0 (e:=e) (p:=e) (by simp) h1 h2
 rw[Nat.pow_zero,Nat.mul_one] at this
 exact this.symm
theorem Tz(s:Bool)(m:Nat)(e:Int):∃ r,Ieee.double.nearest s m e=Ieee.double.word s r∧r≤Ieee.double.infRung:=by
 unfold Ieee.Format.nearest
 split
 ·exact⟨0,rfl,Nat.zero_le _⟩
 ·exact⟨_,rfl,Nat.min_le_right _ _⟩
theorem Rg{m:Nat}{e:Int}(h:m≠0∧m<2^24∧-149≤e∧e≤104):-1074≤e+m.log2-52∧e+m.log2≤1023∧m<2^53:=by
 have:m.log2≤23:=log2_lt h.1 h.2.1
 exact⟨by omega,by omega,by omega⟩
structure Dbl(s:Bool)(m:Nat)(e:Int)(v M:Nat)(E:Int):Prop where
 nr:v=Ieee.double.nearest s m e
 rd:Ieee.double.read v = .number s M E
 nv:∀ x,NV s M E x↔NV s m e x
 lt:M<2^53
 hi:E≤104
 sh:(m=0∧M=0∧E = -1074)∨∃ t:Nat,m≠0∧M=m*2^t∧E=e-t
theorem Ep{s:Bool}{m:Nat}{e:Int}(h:MOk m e):∃ M E,Dbl s m e (Ieee.double.nearest s m e) M E:=by
 rcases h with⟨rfl,rfl⟩|h
 ·refine⟨0,-1074,rfl,by rw[zS];exact Ql s,fun x=>?_,by decide,by decide,.inl ⟨rfl,rfl,rfl⟩⟩
  have e0:sg s 0=0:=by cases s<;>rfl
  have hp:∀ k:Nat,(2:Int)^k≠0:=fun k=>Int.ne_of_gt (Int.pow_pos (by decide))
  unfold NV
  simp only[e0,Int.zero_mul]
  constructor
  ·rintro (⟨h,_⟩|⟨_,h⟩)
   ·omega
   ·right
    refine⟨by decide,?_⟩
    rcases Int.mul_eq_zero.1 h.symm with h|h
    ·rw[h,Int.zero_mul]
    ·exact absurd h (hp _)
  ·rintro (⟨h,_⟩|⟨_,h⟩)
   ·omega
   ·right
    refine⟨by decide,?_⟩
    rcases Int.mul_eq_zero.1 h.symm with h|h
    ·rw[h,Int.zero_mul]
    ·exact absurd h (hp _)
 ·obtain⟨h1,h2,h3⟩:=Rg h
  have hlog:m.log2≤23:=log2_lt h.1 h.2.1
  refine⟨m*2^(52-m.log2),e-((52-m.log2:Nat):Int),rfl,Rh h.1 h3 s h1 h2,fun x=>NV.shift _,?_,by omega,.inr ⟨52-m.log2,h.1,rfl,rfl⟩⟩
  have hh:=(Nat.log2_eq_iff h.1).1 rfl
  have h2:=Nat.mul_lt_mul_of_pos_right hh.2 (Nat.two_pow_pos (52-m.log2))
  rw[← Nat.pow_add] at h2
  rw[show m.log2+1+(52-m.log2)=53 by omega] at h2
  exact h2
theorem sX{k:FloatKind}{b:Nat}{s:Bool}{m:Nat}{e:Int}(h:k.format.read b = .number s m e):hZ k b=false:=by
 cases hq:hZ k b with
 | false=>rfl
 | true =>
  obtain⟨s',t,e'⟩:=lG hq
  rw[h] at e'
  cases e'
theorem xY{b:Nat}{s:Bool}{m:Nat}{e:Int}(hr:Ieee.single.read b = .number s m e)(h:MOk m e):f2f .f32 b .f64=some (Ieee.double.nearest s m e):=by
 obtain⟨M,E,hd⟩:=Ep (s:=s) h
 have hn:hZ .f32 b=false:=sX (k:=.f32) hr
 unfold f2f
 rw[if_neg (by decide),hn,if_neg (by decide)]
 have hr':FloatKind.f32.decode b = .number s m e:=hr
 rw[hr']
 simp only
 have e1:FloatKind.f64.encode (.number s m e)=Ieee.double.nearest s m e:=rfl
 rw[e1]
 have e2:FloatKind.f64.decode (Ieee.double.nearest s m e) = .number s M E:=hd.rd
 rw[e2]
 rfl
theorem Ks{v:Nat}{s:Bool}{M:Nat}{E:Int}(h:Ieee.double.read v = .number s M E):trI .zero v=some (Ieee.double.nearest s (Ieee.Toward.cut .zero s (M <<< E.toNat) (-E).toNat) 0):=by
 unfold trI
 rw[sX (k:=.f64) h,if_neg (by decide)]
 have h':FloatKind.f64.decode v = .number s M E:=h
 rw[h']
 rfl
theorem Aj{s:Bool}{m:Nat}{e x:Int}(h:NV s m e x):sg s x.natAbs=x:=by
 have key:∀(a:Nat) (y:Int),sg s a=y→sg s y.natAbs=y:=fun a y h=>by rw[← h,wS]
 have hp:∀ k:Nat,(0:Int)<2^k:=fun k=>Int.pow_pos (by decide)
 rcases h with⟨_,h⟩|⟨_,h⟩
 ·have:sg s (m*2^e.toNat)=x:=by rw[Qg,← h,Int.natCast_pow];rfl
  exact key _ _ this
 ·have h2 : 0 ≤ sg s 1 * x := by
    have h3:sg s m=sg s 1*(m:Int):=by cases s<;>simp[sg]
    have h4:(0:Int)≤sg s 1*(x*2^(-e).toNat):=by rw[← h,h3];cases s<;>simp[sg]
    rw[← Int.mul_assoc] at h4
    by_cases hn:sg s 1*x<0
    ·have:=Int.mul_neg_of_neg_of_pos hn (hp (-e).toNat)
     omega
    ·omega
  cases s
  ·simp[sg] at h2 ⊢;omega
  ·simp[sg] at h2 ⊢;omega
theorem Gp{s:Bool}{m:Nat}{e:Int}{v M:Nat}{E x:Int}(h:MOk m e)(hd:Dbl s m e v M E)(hx:NV s m e x):trI .zero v=some v:=by
 rw[Ks hd.rd]
 congr 1
 rcases hd.sh with⟨h0,h1,h2⟩|⟨t,hm,h1,h2⟩
 ·subst h0 h1 h2
  rw[show (0:Nat) <<< (-1074:Int).toNat=0 by rw[shl];simp,wU,zS,hd.nr,zS]
 ·rcases h with⟨h0,_⟩|hk
  ·exact absurd h0 hm
  obtain⟨k1,k2,k3⟩:=Rg hk
  have hlog:m.log2≤23:=log2_lt hk.1 hk.2.1
  subst h1 h2
  rw[hd.nr]
  rcases hx with⟨he,hx⟩|⟨he,hx⟩
  ·have hq : Ieee.Toward.cut .zero s ((m * 2 ^ t) <<< (e - (t : Int)).toNat) (-(e - (t : Int))).toNat = m * 2 ^ e.toNat := by
     rw[shl,Nat.mul_assoc,← Nat.pow_add,mD hm s (by omega)]
     congr 2
     omega
   rw[hq]
   exact Fv hm k3 s e.toNat (by omega) k1 k2
  ·have hX : m = x.natAbs * 2 ^ (-e).toNat := by
     have:=congrArg Int.natAbs hx
     rw[wS,Int.natAbs_mul,Int.natAbs_pow] at this
     exact this
   have hX0:x.natAbs≠0:=by
    intro h
    rw[h,Nat.zero_mul] at hX
    exact hm hX
   have hXl:x.natAbs≤m:=by rw[hX];exact Nat.le_mul_of_pos_right _ (Nat.two_pow_pos _)
   have hXlog:x.natAbs.log2≤23:=log2_lt hX0 (by omega)
   have hq:Ieee.Toward.cut .zero s ((m*2^t) <<< (e-(t:Int)).toNat) (-(e-(t:Int))).toNat=x.natAbs:=by
    rw[show (e-(t:Int)).toNat=0 by omega,shl,Nat.pow_zero,Nat.mul_one,hX,Nat.mul_assoc,← Nat.pow_add,mD hX0 s (by omega)]
    rw[show (-e).toNat+t-(-(e-(t:Int))).toNat=0 by omega]
    simp
   rw[hq]
   have:=Fv hX0 (by omega) s (-e).toNat (e:=0) (p:=e) (by omega) (by omega) (by omega)
   rw[← hX] at this
   exact this.symm
theorem Dl{q:Nat}(hq:q<2^53)(s:Bool):∃ n j,Ieee.double.read (Ieee.double.nearest s q 0) = .number s n j∧NV s n j (sg s q):=by
 by_cases h0:q=0
 ·subst h0
  refine⟨0,-1074,by rw[zS];exact Ql s,.inr ⟨by decide,?_⟩⟩
  rw[show sg s 0=0 by cases s<;>rfl,Int.zero_mul]
 ·have hl:=log2_lt h0 hq
  refine⟨_,_,Rh h0 hq s (by omega) (by omega),(NV.shift _).2 (.inl ⟨by decide,?_⟩)⟩
  simp
theorem Yd{s:Bool}{m:Nat}{e:Int}{v M:Nat}{E:Int}(h:MOk m e)(hd:Dbl s m e v M E)(hx:∀ x,¬ NV s m e x):∃ w,trI .zero v=some w∧fcmp .eql .f64 v w=false:=by
 have hE:E<0:=by
  rcases hd.sh with⟨h0,h1,h2⟩|⟨t,hm,h1,h2⟩
  ·omega
  ·by_cases he:0≤e
   ·exact absurd (.inl ⟨he,rfl⟩) (hx _)
   ·omega
 have hq:Ieee.Toward.cut .zero s (M <<< E.toNat) (-E).toNat<2^53:=by
  rw[show E.toNat=0 by omega,shl,Nat.pow_zero,Nat.mul_one]
  unfold Ieee.Toward.cut
  simp only[Bool.toNat_false,Nat.add_zero]
  exact Nat.lt_of_le_of_lt (Nat.div_le_self _ _) hd.lt
 obtain⟨n,j,hr,hn⟩:=Dl hq s
 refine⟨_,Ks hd.rd,?_⟩
 unfold fcmp
 have ho:FloatKind.f64.format.order v (Ieee.double.nearest s (Ieee.Toward.cut .zero s (M <<< E.toNat) (-E).toNat) 0)=Ieee.Datum.order (.number s M E) (.number s n j):=by
  show Ieee.Datum.order (Ieee.double.read v) (Ieee.double.read _)=_
  rw[hd.rd,hr]
 simp only[ho]
 rw[beq_eq_false_iff_ne]
 intro he
 exact hx _ ((hd.nv _).1 (Vr hn he))
end Go.Rex
namespace Go.Rex
open Go Go.Rex
set_option maxRecDepth 100000
theorem ord64{a b:Nat}{s t:Bool}{m n:Nat}{i j:Int}(h:Ieee.double.read a = .number s m i)(g:Ieee.double.read b = .number t n j):FloatKind.f64.format.order a b=Ieee.Datum.order (.number s m i) (.number t n j):=by
 show Ieee.Datum.order (Ieee.double.read a) (Ieee.double.read b)=_
 rw[h,g]
theorem ord32{a b:Nat}{s t:Bool}{m n:Nat}{i j:Int}(h:Ieee.single.read a = .number s m i)(g:Ieee.single.read b = .number t n j):FloatKind.f32.format.order a b=Ieee.Datum.order (.number s m i) (.number t n j):=by
 show Ieee.Datum.order (Ieee.single.read a) (Ieee.single.read b)=_
 rw[h,g]
theorem yM{v:Nat}{s:Bool}{M:Nat}{E:Int}(h:Ieee.double.read v = .number s M E):fcmp .eql .f64 v v=true∧fcmp .neq .f64 v v=false:=by
 have:FloatKind.f64.format.order v v=some .eq:=by
  rw[ord64 h h,qA (Int.le_refl _) (Int.le_refl _)]
  congr 1
  exact Int.compare_eq_eq.2 rfl
 unfold fcmp
 simp only[this]
 exact⟨rfl,rfl⟩
theorem Xr{s:Bool}{r M:Nat}{E:Int}(hr:r<Ieee.double.signWeight)(h:Ieee.double.read (Ieee.double.word s r) = .number s M E):Ieee.double.read r = .number false M E:=by
 have h1:=wd s r hr
 have h2:(r/Ieee.double.signWeight%2==1)=false∧r%Ieee.double.signWeight=r:=by
  rw[Nat.div_eq_of_lt hr,Nat.mod_eq_of_lt hr]
  exact⟨rfl,rfl⟩
 unfold Ieee.Format.read at h ⊢
 simp only[h1.1,h1.2] at h
 simp only[h2.1,h2.2]
 split at h
 ·rename_i q
  rw[if_pos q]
  cases h
  rfl
 ·rename_i q
  rw[if_neg q]
  split at h
  ·rename_i q2
   rw[if_pos q2]
   cases h
   rfl
  ·split at h<;>cases h
theorem Ut:Ieee.double.read 9218868437227405311 = .number false (2^53-1) 971:=by decide +kernel
theorem aAh{r M:Nat}{E:Int}(h:Ieee.double.read r = .number false M E)(hM:M<2^53)(hE:E≤104):fcmp .gtr .f64 r 9218868437227405311=false:=by
 have:FloatKind.f64.format.order r 9218868437227405311≠some .gt:=by
  rw[ord64 h Ut,qA (b:=E) (Int.le_refl _) (by omega)]
  intro hc
  rw[Option.some.injEq,Int.compare_eq_gt] at hc
  have h0:(E-E).toNat=0:=by omega
  rw[h0] at hc
  simp only[sg,Bool.false_eq_true,if_false,Int.pow_zero,Int.mul_one] at hc
  have h2:(1:Int)≤2^(971-E).toNat:=by have:=Int.pow_pos (m:=(971-E).toNat) (show (0:Int)<2 by decide);omega
  have h3:=Int.mul_le_mul_of_nonneg_left h2 (show (0:Int)≤((2^53-1:Nat):Int) by decide)
  rw[Int.mul_one] at h3
  have h4:((2^53-1:Nat):Int)=9007199254740991:=by decide
  rw[h4] at h3 hc
  omega
 unfold fcmp
 simp only
 rw[beq_eq_false_iff_ne]
 exact this
theorem Zi(s:Bool)(r:Nat)(hr:r<2^63):(wZ .andNot .u64 ((Ieee.double.word s r:Nat):Int) 9223372036854775808).toNat=r:=by
 have hw:Ieee.double.word s r<2^64∧Ieee.double.word s r%2^63=r:=by
  unfold Ieee.Format.word
  have e:Ieee.double.signWeight=2^63:=by decide +kernel
  rw[e]
  cases s
  ·simp only[Bool.false_eq_true,if_false]
   omega
  ·simp only[if_true]
   omega
 generalize Ieee.double.word s r=v at hw ⊢
 unfold wZ
 have hb:IntKind.u64.bits=64:=rfl
 have hwrap:∀ n:Int,IntKind.u64.wrap n=n%2^64:=fun n=>rfl
 simp only[hwrap]
 show (((BitVec.ofInt 64 (v:Int) &&& ~~~ BitVec.ofInt 64 9223372036854775808).toNat:Int)%2^64).toNat=r
 have h1:(BitVec.ofInt 64 (v:Int) &&& ~~~ BitVec.ofInt 64 9223372036854775808).toNat=v%2^63:=by
  have h2:(~~~ BitVec.ofInt 64 9223372036854775808).toNat=2^63-1:=by decide
  have h3:(BitVec.ofInt 64 (v:Int)).toNat=v:=by
   rw[BitVec.toNat_ofInt]
   omega
  rw[BitVec.toNat_and,h2,h3,Nat.and_two_pow_sub_one_eq_mod]
 rw[h1,hw.2]
 omega
theorem Sn{s:Bool}{m:Nat}{e:Int}{v M:Nat}{E:Int}(hd:Dbl s m e v M E):nE v 0=some false:=by
 obtain⟨r,hr,hri⟩:=Tz s m e
 rw[← hd.nr] at hr
 have hs:r<Ieee.double.signWeight:=by
  have:=dbl.2.2.2
  have h0:Ieee.double.infRung<Ieee.double.signWeight:=by decide +kernel
  omega
 have hs63:r<2^63:=by
  have e:Ieee.double.signWeight=2^63:=by decide +kernel
  rw[e] at hs
  exact hs
 have hn:=sX (k:=.f64) hd.rd
 have hrd:=hd.rd
 unfold nE yT fbits
 rw[hn]
 simp only[decide_true,if_true,Bool.false_eq_true,if_false,Option.bind_some]
 rw[hr,Zi s r hs63]
 rw[hr] at hrd
 rw[aAh (Xr hs hrd) hd.lt hd.hi]
theorem Cp{b:Nat}{s:Bool}{m:Nat}{e x:Int}(hr:Ieee.single.read b = .number s m e)(h:MOk m e)(hx:NV s m e x):cJ b=some true:=by
 obtain⟨M,E,hd⟩:=Ep (s:=s) h
 unfold cJ lV
 rw[xY hr h]
 simp only[Option.bind_some]
 rw[Gp h hd hx]
 simp only[Option.bind_some]
 rw[(yM hd.rd).1,Sn hd]
 simp
theorem Si{b:Nat}{s:Bool}{m:Nat}{e:Int}(hr:Ieee.single.read b = .number s m e)(h:MOk m e)(hx:∀ x,¬ NV s m e x):cJ b=some false:=by
 obtain⟨M,E,hd⟩:=Ep (s:=s) h
 obtain⟨w,h1,h2⟩:=Yd h hd hx
 unfold cJ lV
 rw[xY hr h]
 simp only[Option.bind_some]
 rw[h1]
 simp only[Option.bind_some]
 rw[h2]
 simp
theorem Vb{b:Nat}{s:Bool}{t:Nat}(hr:Ieee.single.read b = .nan s t):cJ b=some false∧f2f .f32 b .f64=some (qn .f64):=by
 have hn:hZ .f32 b=true:=Bl (k:=.f32) hr
 have hf:f2f .f32 b .f64=some (qn .f64):=by
  unfold f2f
  rw[if_neg (by decide),hn,if_pos rfl]
 refine⟨?_,hf⟩
 unfold cJ lV
 rw[hf]
 simp only[Option.bind_some]
 have e:trI .zero (qn .f64)=some (qn .f64):=by decide +kernel
 rw[e]
 simp only[Option.bind_some]
 have e2:fcmp .eql .f64 (qn .f64) (qn .f64)=false:=by decide +kernel
 rw[e2]
 simp
theorem Vy{b:Nat}{s:Bool}(hr:Ieee.single.read b = .infinity s):cJ b=some false∧f2f .f32 b .f64=some (FloatKind.f64.encode (.infinity s)):=by
 have hn:hZ .f32 b=false:=by
  cases hq:hZ .f32 b with
  | false=>rfl
  | true =>
   obtain⟨s',t,e'⟩:=lG hq
   have e':Ieee.single.read b = .nan s' t:=e'
   rw[hr] at e'
   cases e'
 have hf:f2f .f32 b .f64=some (FloatKind.f64.encode (.infinity s)):=by
  unfold f2f
  rw[if_neg (by decide),hn,if_neg (by decide)]
  have:FloatKind.f32.decode b = .infinity s:=hr
  rw[this]
 refine⟨?_,hf⟩
 unfold cJ
 rw[hf]
 simp only[Option.bind_some]
 cases s<;>decide +kernel
theorem Sk{s:Bool}{m:Nat}{e:Int}{v M:Nat}{E x:Int}(h:MOk m e)(hd:Dbl s m e v M E)(hx:NV s m e x):Ieee.Toward.cut .zero s (M <<< E.toNat) (-E).toNat=x.natAbs∧Ieee.double.nearest s x.natAbs 0=v:=by
 have key:=Gp h hd hx
 rw[Ks hd.rd] at key
 have key:=Option.some.inj key
 suffices hq:Ieee.Toward.cut .zero s (M <<< E.toNat) (-E).toNat=x.natAbs by
  rw[hq] at key
  exact⟨hq,key⟩
 clear key
 rcases hd.sh with⟨h0,h1,h2⟩|⟨t,hm,h1,h2⟩
 ·subst h0 h1 h2
  have e0:sg s 0=0:=by cases s<;>rfl
  have hx0:x=0:=by
   rcases hx with⟨_,hx⟩|⟨_,hx⟩
   ·rw[e0,Int.zero_mul] at hx;exact hx.symm
   ·rw[e0] at hx
    rcases Int.mul_eq_zero.1 hx.symm with h|h
    ·exact h
    ·exact absurd h (Int.ne_of_gt (Int.pow_pos (by decide)))
  rw[hx0,show (0:Nat) <<< (-1074:Int).toNat=0 by rw[shl];simp,wU]
  rfl
 ·subst h1 h2
  rcases hx with⟨he,hx⟩|⟨he,hx⟩
  ·rw[shl,Nat.mul_assoc,← Nat.pow_add,mD hm s (by omega)]
   have h3:=congrArg Int.natAbs hx
   rw[Int.natAbs_mul,wS,Int.natAbs_pow] at h3
   rw[← h3]
   show _=m*2^e.toNat
   congr 2
   omega
  ·have hX : m = x.natAbs * 2 ^ (-e).toNat := by
     have:=congrArg Int.natAbs hx
     rw[wS,Int.natAbs_mul,Int.natAbs_pow] at this
     exact this
   have hX0:x.natAbs≠0:=by
    intro h
    rw[h,Nat.zero_mul] at hX
    exact hm hX
   rw[show (e-(t:Int)).toNat=0 by omega,shl,Nat.pow_zero,Nat.mul_one,hX,Nat.mul_assoc,← Nat.pow_add,mD hX0 s (by omega)]
   rw[show (-e).toNat+t-(-(e-(t:Int))).toNat=0 by omega]
   simp
theorem Ta{s t:Bool}{m n:Nat}{i j y:Int}(g:NV t n j y)(h:Ieee.Datum.order (.number t n j) (.number s m i)=some .eq):NV s m i y:=by
 have hb:min (min i j) 0≤i∧min (min i j) 0≤j∧min (min i j) 0≤0:=by omega
 rw[qA hb.2.1 hb.1,g.at hb.2.1 hb.2.2,Option.some.injEq,Int.compare_eq_eq] at h
 exact NV.of hb.1 hb.2.2 h.symm
theorem Re:Ieee.double.read 14069741636278059008 = .number true 5000000000000000 1:=by decide +kernel
theorem Rx:Ieee.double.read 4846369599423283200 = .number false 5000000000000000 1:=by decide +kernel
theorem Gk{v:Nat}{s:Bool}{M:Nat}{E:Int}(h:Ieee.double.read v = .number s M E):farith .sub .f64 v v=some 0:=by
 refine aBD ?_
 show (((Ieee.double.read v).sum (Ieee.double.read v).opposite).map Ieee.double.write)=some 0
 rw[h]
 simp only[Ieee.Datum.opposite,Ieee.Datum.sum]
 have e:min E E=E:=by omega
 rw[e]
 have h0:(E-E).toNat=0:=by omega
 rw[h0]
 simp only[vH,Int.pow_zero,Int.mul_one]
 have hz:sg s M+sg (!s) M=0:=by cases s<;>simp[sg]<;>omega
 rw[hz]
 simp only[if_true,Option.map_some]
 have hs:(s&&!s)=false:=by cases s<;>rfl
 rw[hs]
 show some (Ieee.double.nearest false 0 E)=some 0
 rw[zS]
 rfl
theorem cmpI{x y:Int}:((some (compare x y)==some Ordering.gt||some (compare x y)==some Ordering.eq)=decide (y≤x))∧((some (compare x y)==some Ordering.lt||some (compare x y)==some Ordering.eq)=decide (x≤y))∧((some (compare x y)==some Ordering.lt)=decide (x<y))∧((some (compare x y)==some Ordering.gt)=decide (y<x))∧((some (compare x y)==some Ordering.eq)=decide (x=y)):=by
 simp only[compare,compareOfLessAndEq]
 rcases Int.lt_trichotomy x y with h|h|h
 ·rw[if_pos h]
  refine⟨?_,?_,?_,?_,?_⟩<;>simp<;>omega
 ·subst h
  rw[if_neg (Int.lt_irrefl _),if_pos rfl]
  refine⟨?_,?_,?_,?_,?_⟩<;>simp
 ·rw[if_neg (by omega),if_neg (by omega)]
  refine⟨?_,?_,?_,?_,?_⟩<;>simp<;>omega
theorem Ry{v:Nat}{s:Bool}{M:Nat}{E:Int}{q:Nat}(h:Ieee.double.read v = .number s M E)(hq:Ieee.Toward.cut .zero s (M <<< E.toNat) (-E).toNat=q)(hb:q<2^63):f2i .f64 v .i64=some (sg s q):=by
 unfold f2i
 have e:FloatKind.f64.decode v = .number s M E:=h
 rw[e]
 have e2:(Ieee.Datum.number s M E).toInt .zero=some (sg s q):=by
  unfold Ieee.Datum.toInt Ieee.Datum.integral
  simp only[hq,vH,Int.pow_zero,Int.mul_one]
 rw[e2]
 simp only
 have hm:IntKind.i64.min = -9223372036854775808∧IntKind.i64.max=9223372036854775807:=by decide
 rw[hm.1,hm.2,if_pos]
 cases s<;>simp only[sg,if_true,if_false,Bool.false_eq_true]<;>omega
theorem Tc{s:Bool}{m:Nat}{e:Int}{v M:Nat}{E x:Int}(h:MOk m e)(hd:Dbl s m e v M E)(hx:NV s m e x):gB v=some true:=by
 have hX:=(hd.nv x).2 hx
 have g1:fcmp .geq .f64 v 14069741636278059008=decide (-10000000000000000≤x):=by
  unfold fcmp
  simp only
  rw[ord64 hd.rd Re,pW hX (y:=-10000000000000000) (.inl ⟨by decide,by decide⟩)]
  exact cmpI.1
 have g2:fcmp .leq .f64 v 4846369599423283200=decide (x≤10000000000000000):=by
  unfold fcmp
  simp only
  rw[ord64 hd.rd Rx,pW hX (y:=10000000000000000) (.inl ⟨by decide,by decide⟩)]
  exact cmpI.2.1
 unfold gB
 rw[(yM hd.rd).2,Gk hd.rd]
 simp only[Bool.false_eq_true,if_false,Option.bind_some]
 have g0:fcmp .neq .f64 0 0=false:=by decide +kernel
 rw[g0,g1,g2]
 simp only[Bool.false_eq_true,if_false]
 by_cases c1:-10000000000000000≤x
 ·by_cases c2:x≤10000000000000000
  ·rw[if_pos (decide_eq_true c1),if_pos (decide_eq_true c2)]
   obtain⟨hq,hn⟩:=Sk h hd hx
   rw[Ry hd.rd hq (by omega),Aj hx]
   simp only[Option.bind_some]
   congr 1
   have hne:FloatKind.f64.nearest x=Ieee.double.nearest (decide (x<0)) x.natAbs 0:=rfl
   by_cases x0:x=0
   ·subst x0
    have e1:FloatKind.f64.nearest 0=Ieee.double.word false 0:=by rw[hne];exact zS _ _
    have r1:Ieee.double.read (FloatKind.f64.nearest 0) = .number false 0 (-1074):=by rw[e1];exact Ql false
    unfold fcmp
    simp only
    rw[ord64 r1 hd.rd,pW (x:=0) (.inr ⟨by decide,by rw[show sg false 0=0 from rfl,Int.zero_mul]⟩) hX]
    rfl
   ·have hs : decide (x < 0) = s := by
      have h1:=Aj hx
      cases s
      ·simp only[sg,Bool.false_eq_true,if_false] at h1
       exact decide_eq_false (by omega)
      ·simp only[sg,if_true] at h1
       exact decide_eq_true (by omega)
    rw[hne,hs,hn]
    exact (yM hd.rd).1
  ·rw[if_pos (decide_eq_true c1),if_neg (by simp;omega)]
 ·rw[if_neg (by simp;omega)]
theorem Uy{s:Bool}{m:Nat}{e:Int}{v M:Nat}{E:Int}(h:MOk m e)(hd:Dbl s m e v M E)(hx:∀ x,¬ NV s m e x):gB v=some false:=by
 have hE:E<0:=by
  rcases hd.sh with⟨h0,h1,h2⟩|⟨t,hm,h1,h2⟩
  ·omega
  ·by_cases he:0≤e
   ·exact absurd (.inl ⟨he,rfl⟩) (hx _)
   ·omega
 have hlt:=hd.lt
 have hp4:(4:Int)≤2^(1-E).toNat:=by
  rw[show (1-E).toNat=2+(-E-1).toNat by omega,mA]
  have:(1:Int)≤2^(-E-1).toNat:=by have:=Int.pow_pos (m:=(-E-1).toNat) (show (0:Int)<2 by decide);omega
  omega
 have hbig:=Int.mul_le_mul_of_nonneg_left hp4 (show (0:Int)≤5000000000000000 by decide)
 have h0:(E-E).toNat=0:=by omega
 have hsg:-(M:Int)≤sg s M∧sg s M≤M:=by cases s<;>simp[sg]<;>omega
 have g1:fcmp .geq .f64 v 14069741636278059008=true:=by
  unfold fcmp
  simp only
  rw[ord64 hd.rd Re,qA (b:=E) (Int.le_refl _) (by omega),cmpI.1,h0]
  refine decide_eq_true ?_
  have e1:sg true 5000000000000000 = -5000000000000000:=by decide
  rw[e1,Int.pow_zero,Int.mul_one,Int.neg_mul]
  omega
 have g2:fcmp .leq .f64 v 4846369599423283200=true:=by
  unfold fcmp
  simp only
  rw[ord64 hd.rd Rx,qA (b:=E) (Int.le_refl _) (by omega),cmpI.2.1,h0]
  refine decide_eq_true ?_
  have e1:sg false 5000000000000000=5000000000000000:=by decide
  rw[e1,Int.pow_zero,Int.mul_one]
  omega
 unfold gB
 rw[(yM hd.rd).2,Gk hd.rd]
 simp only[Bool.false_eq_true,if_false,Option.bind_some]
 have g0:fcmp .neq .f64 0 0=false:=by decide +kernel
 rw[g0,g1,g2]
 simp only[Bool.false_eq_true,if_false,if_true]
 have hq:Ieee.Toward.cut .zero s (M <<< E.toNat) (-E).toNat<2^53:=by
  rw[show E.toNat=0 by omega,shl,Nat.pow_zero,Nat.mul_one]
  unfold Ieee.Toward.cut
  simp only[Bool.toNat_false,Nat.add_zero]
  exact Nat.lt_of_le_of_lt (Nat.div_le_self _ _) hlt
 generalize hqq:Ieee.Toward.cut .zero s (M <<< E.toNat) (-E).toNat=q at hq
 rw[Ry hd.rd hqq (by omega)]
 simp only[Option.bind_some]
 congr 1
 have hne:FloatKind.f64.nearest (sg s q)=Ieee.double.nearest (decide (sg s q<0)) (sg s q).natAbs 0:=rfl
 rw[wS] at hne
 obtain⟨n,j,r1,r2⟩:=Dl hq (decide (sg s q<0))
 rw[← hne] at r1
 unfold fcmp
 simp only
 rw[beq_eq_false_iff_ne,ord64 r1 hd.rd]
 intro he
 exact hx _ ((hd.nv _).1 (Ta r2 he))
end Go.Rex
namespace Go.Rex
theorem w64{x:Int}(h:-9223372036854775808≤x∧x≤9223372036854775807):IntKind.i64.wrap x=x:=IntWalk.i64_in x (by omega)
theorem jW{σ ε:Type}{step:σ→Option (σ ⊕ ε)}(f:Nat→σ){n:Nat}{e:ε}(h:∀ k,k<n→step (f k)=some (.inl (f (k+1))))(hn:step (f n)=some (.inr e)):run step (f 0)=some e:=by
 suffices H:∀ j k,n-k=j→k≤n→run step (f k)=some e from H n 0 (by omega) (Nat.zero_le _)
 intro j
 induction j with
 | zero => intro k hj hk; obtain rfl : k = n := by omega
           exact mR hn
 | succ j ih=>intro k hj hk;rw[tL (h k (by omega))];exact ih (k+1) (by omega) (by omega)
theorem aE{α:Type}{xs:List α}{k:Nat}:bE xs (k:Int)=xs[k]?:=by
 unfold bE
 rw[if_pos (by omega),Int.toNat_natCast]
theorem yJ{α:Type}{xs:List α}{i:Int}{k:Nat}(h:i=(k:Int)):bE xs i=xs[k]?:=by subst h;exact aE
theorem Dc{α:Type}{b:Nat}{xs:List α}{y:α}(h:xs.length<2^40)(hb:b≤128):jD b xs [y]=some (xs++[y]):=by
 unfold jD
 rw[if_pos]
 refine⟨by simp;omega,?_⟩
 have h1:(xs.length+[y].length)*b≤2^40*128:=Nat.mul_le_mul (by simp;omega) hb
 omega
def walk{α β ε:Type}(f:β→α→β ⊕ ε)(fin:β→ε):β→List α→ε
 | b,[]=>fin b
 | b,x::t=>match f b x with
  | .inl b'=>walk f fin b' t
  | .inr e=>e
theorem Eo{α β σ ε:Type}{step:σ→Option (σ ⊕ ε)}(st:Nat→β→σ)(f:β→α→β ⊕ ε)(fin:β→ε)(Inv:Nat→β→Prop)(l:List α)
 (hs:∀(k:Nat) (x:α) (b:β),l[k]?=some x→Inv k b→step (st k b)=some (match f b x with|.inl b'=>.inl (st (k+1) b')|.inr e=>.inr e)∧∀ b',f b x = .inl b'→Inv (k+1) b')
 (he:∀ b,Inv l.length b→step (st l.length b)=some (.inr (fin b))) {b0:β} (h0:Inv 0 b0):run step (st 0 b0)=some (walk f fin b0 l):=by
 suffices H:∀(t:List α) (k:Nat) (b:β),l.drop k=t→k≤l.length→Inv k b→run step (st k b)=some (walk f fin b t) from H l 0 b0 rfl (Nat.zero_le _) h0
 intro t
 induction t with
 | nil =>
  intro k b hk hkl hI
  have:k=l.length:=by
   have:=congrArg List.length hk
   simp at this
   omega
  subst this
  exact mR (he b hI)
 | cons x t ih =>
  intro k b hk hkl hI
  have hx:l[k]?=some x:=by
   have:=congrArg (fun l=>l[0]?) hk
   simpa using this
  have hlt:=(List.getElem?_eq_some_iff.1 hx).1
  obtain⟨h1,h2⟩:=hs k x b hx hI
  have ht:l.drop (k+1)=t:=by
   have:=congrArg List.tail hk
   simpa using this
  cases hf:f b x with
  | inl b' =>
   rw[hf] at h1
   rw[tL h1,ih (k+1) b' ht (by omega) (h2 b' hf)]
   simp only[walk,hf]
  | inr e =>
   rw[hf] at h1
   rw[mR h1]
   simp only[walk,hf]
end Go.Rex
open Go Go.Rex
namespace Go.Rex
set_option maxRecDepth 100000
theorem wsucc{k:Nat}{n:Nat}(h:k≤n)(hn:n≤2^62):IntKind.i64.wrap ((k:Int)+1)=((k+1:Nat):Int):=by rw[w64 (by omega)];omega
def cT{ε:Type}(p:Nat→Option ε)(n:Nat):Option ε:=(List.range n).findSome? p
theorem firstOf_none{ε:Type}{p:Nat→Option ε}{n:Nat}:cT p n=none↔∀ k,k<n→p k=none:=by
 unfold cT
 rw[List.findSome?_eq_none_iff]
 constructor
 ·intro h k hk;exact h k (List.mem_range.2 hk)
 ·intro h k hk;exact h k (List.mem_range.1 hk)
theorem Ko{ε:Type}{p:Nat→Option ε}{n:Nat}:cT p (n+1)=match cT p n with|some e=>some e|none=>p n:=by
 unfold cT
 rw[List.range_succ,List.findSome?_append]
 cases h:List.findSome? p (List.range n) with
 | some e=>rfl
 | none=>simp
theorem Cn{ε δ:Type}{step:Int→Option (Int ⊕ (ε ⊕ δ))}{n:Nat}{p:Nat→Option ε}{r:δ}
 (h:∀ k:Nat,k<n→(∀ j,j<k→p j=none)→step (k:Int)=some (match p k with|none=>.inl ((k+1:Nat):Int)|some e=>.inr (.inl e))) (he:(∀ j,j<n→p j=none)→step (n:Int)=some (.inr (.inr r))):run step 0=some (match cT p n with|some e=>.inl e|none=>.inr r):=by
 suffices H:∀ m,m≤n→cT p m=none→run step 0=run step (m:Int) by
  cases hf:cT p n with
  | none =>
   simp only
   rw[H n (Nat.le_refl _) hf]
   exact mR (he (firstOf_none.1 hf))
  | some e =>
   simp only
   have:∃ m,m<n∧cT p m=none∧p m=some e:=by
    clear h he H
    induction n with
    | zero=>simp[cT] at hf
    | succ n ih =>
     rw[Ko] at hf
     cases hn:cT p n with
     | none=>rw[hn] at hf;exact⟨n,by omega,hn,hf⟩
     | some e'=>rw[hn] at hf;cases hf;obtain⟨m,h1,h2⟩:=ih hn;exact⟨m,by omega,h2⟩
   obtain⟨m,hm,h1,h2⟩:=this
   rw[H m (by omega) h1]
   have:=h m hm (firstOf_none.1 h1)
   rw[h2] at this
   exact mR this
 intro m
 induction m with
 | zero=>intro _ _;rfl
 | succ m ih =>
  intro hm hf
  have hf':=firstOf_none.1 hf
  rw[ih (by omega) (firstOf_none.2 fun k hk=>hf' k (by omega))]
  have:=h m (by omega) (fun j hj=>hf' j (by omega))
  rw[hf' m (by omega)] at this
  exact tL this
def iter{β:Type}(g:Nat→β→β):Nat→β→β
 | 0,b=>b
 | k+1,b=>g k (iter g k b)
theorem dD{β σ ε:Type}{step:σ→Option (σ ⊕ ε)}(st:Nat→β→σ)(g:Nat→β→β)(fin:β→ε)(n:Nat)(Inv:Nat→β→Prop){b0:β}(h0:Inv 0 b0)
 (hs:∀ k b,k<n→Inv k b→step (st k b)=some (.inl (st (k+1) (g k b)))∧Inv (k+1) (g k b)) (he:∀ b,Inv n b→step (st n b)=some (.inr (fin b))) :
 run step (st 0 b0)=some (fin (iter g n b0))∧∀ k,k≤n→Inv k (iter g k b0):=by
 have hI:∀ k,k≤n→Inv k (iter g k b0):=by
  intro k
  induction k with
  | zero=>intro _;exact h0
  | succ k ih=>intro hk;exact (hs k _ (by omega) (ih (by omega))).2
 refine⟨?_,hI⟩
 exact jW (fun k=>st k (iter g k b0)) (fun k hk=>(hs k _ hk (hI k (by omega))).1) (he _ (hI n (Nat.le_refl _)))
end Go.Rex
namespace Go.Rex
open Go Go.Rex
set_option maxRecDepth 100000
theorem aCt{s:Bool}{m:Nat}{e x:Int}(h:MOk m e)(hx:NV s m e x):Ieee.Toward.cut .zero s (m <<< e.toNat) (-e).toNat=x.natAbs:=by
 rcases h with⟨h0,h1⟩|⟨hm,-,-,-⟩
 ·subst h0 h1
  have e0:sg s 0=0:=by cases s<;>rfl
  have hx0:x=0:=by
   rcases hx with⟨_,hx⟩|⟨_,hx⟩
   ·rw[e0,Int.zero_mul] at hx;exact hx.symm
   ·rw[e0] at hx
    rcases Int.mul_eq_zero.1 hx.symm with h|h
    ·exact h
    ·exact absurd h (Int.ne_of_gt (Int.pow_pos (by decide)))
  rw[hx0,show (0:Nat) <<< (-149:Int).toNat=0 by rw[shl];simp,wU]
  rfl
 ·rcases hx with⟨he,hx⟩|⟨he,hx⟩
  ·rw[shl,show (-e).toNat=0 by omega,mD hm s (by omega)]
   have h3:=congrArg Int.natAbs hx
   rw[Int.natAbs_mul,wS,Int.natAbs_pow] at h3
   rw[← h3]
   rfl
  ·have hX : m = x.natAbs * 2 ^ (-e).toNat := by
     have:=congrArg Int.natAbs hx
     rw[wS,Int.natAbs_mul,Int.natAbs_pow] at this
     exact this
   have hX0:x.natAbs≠0:=by
    intro h
    rw[h,Nat.zero_mul] at hX
    exact hm hX
   rw[show e.toNat=0 by omega,shl,Nat.pow_zero,Nat.mul_one,hX,mD hX0 s (Nat.le_refl _)]
   simp
def SV(b:Nat)(x:Int):Prop:=∃ s m e,Ieee.single.read b = .number s m e∧MOk m e∧NV s m e x
structure RS(b:Nat)(o:Option Int):Prop where
 val:∃ v,f2f .f32 b .f64=some v∧gB v=some o.isSome∧∀ x,o=some x→fcmp .gtr .f64 v 4674736138332667904=decide (32767<x)∧fcmp .lss .f64 v 13898108175187443712=decide (x < -32767)
theorem Pv{b:Nat}{s:Bool}{m:Nat}{e:Int}(h:Ieee.single.read b = .number s m e):MOk m e:=by
 rcases Hb b with⟨s',t,h1⟩|⟨s',h1⟩|⟨s',m',e',h1,h2⟩
 ·rw[h] at h1;cases h1
 ·rw[h] at h1;cases h1
 ·rw[h] at h1
  injection h1 with a1 a2 a3
  subst a2 a3
  exact h2
theorem Zx{b:Nat}{s:Bool}{n u:Nat}(h:Ieee.single.read b = .number s (n*2^u) (-(u:Int))):SV b (sg s n):=by
 refine⟨s,_,_,h,Pv h,?_⟩
 by_cases hu:u=0
 ·subst hu
  left
  refine⟨by omega,?_⟩
  simp
 ·right
  refine⟨by omega,?_⟩
  rw[Qg,Int.natCast_pow,show (-(-(u:Int))).toNat=u by omega]
  rfl
theorem aBV{s:Bool}{n:Nat}(h:ffit .f32 n):SV (fz .f32 s n) (sg s n):=Zx (Zy (k:=.f32) h)
theorem Zo{x:Int}(h:x.natAbs<2^24):SV (FloatKind.f32.nearest x) x:=by
 have h1:=aBV (s:=decide (x<0)) (n:=x.natAbs) h
 have e:sg (decide (x<0)) x.natAbs=x:=by
  unfold sg
  by_cases q:x<0
  ·simp only[q,decide_true,if_true];omega
  ·simp only[q,decide_false,Bool.false_eq_true,if_false];omega
 rw[e] at h1
 exact h1
theorem aAa{b:Nat}{x y:Int}(h:SV b x)(g:SV b y):x=y:=by
 obtain⟨s,m,e,h1,h2,h3⟩:=h
 obtain⟨s',m',e',g1,g2,g3⟩:=g
 rw[h1] at g1
 injection g1 with a1 a2 a3
 subst a1 a2 a3
 rcases h3 with⟨p,q⟩|⟨p,q⟩<;>rcases g3 with⟨p',q'⟩|⟨p',q'⟩
 ·omega
 ·omega
 ·omega
 ·have hp:(0:Int)<2^(-e).toNat:=Int.pow_pos (by decide)
  exact Int.eq_of_mul_eq_mul_right (Int.ne_of_gt hp) (q.symm.trans q')
theorem tS(b:Nat):iR b=cJ b:=by
 unfold iR cJ
 rfl
theorem Zt{b:Nat}{x:Int}(h:SV b x)(hb:-4611686018427387904≤x∧x≤4611686018427387904):f2i .f32 b .i64=some x:=by
 obtain⟨s,m,e,hr,h,hx⟩:=h
 unfold f2i
 have e1:FloatKind.f32.decode b = .number s m e:=hr
 rw[e1]
 have e2:(Ieee.Datum.number s m e).toInt .zero=some x:=by
  unfold Ieee.Datum.toInt Ieee.Datum.integral
  simp only[aCt h hx,vH,Int.pow_zero,Int.mul_one,Aj hx]
 rw[e2]
 simp only
 have hm:IntKind.i64.min = -9223372036854775808∧IntKind.i64.max=9223372036854775807:=by decide
 rw[hm.1,hm.2,if_pos (by omega)]
theorem read_b:Ieee.single.read 1266679808 = .number false 8388608 1∧Ieee.single.read 3414163456 = .number true 8388608 1∧Op.negFloat .f32 1266679808=3414163456∧Ieee.double.read 4715268809856909312 = .number false 4503599627370496 (-28)∧Ieee.double.read 13938640846711685120 = .number true 4503599627370496 (-28):=by decide +kernel
theorem nv_b:NV false 8388608 1 16777216∧NV true 8388608 1 (-16777216)∧NV false 4503599627370496 (-28) 16777216∧NV true 4503599627370496 (-28) (-16777216):=
 ⟨.inl ⟨by decide,by decide⟩,.inl ⟨by decide,by decide⟩,.inr ⟨by decide,by decide⟩,.inr ⟨by decide,by decide⟩⟩
theorem Na{b:Nat}{x:Int}(h:SV b x):aV b 1266679808=some (decide (-16777216≤x∧x≤16777216)):=by
 obtain⟨s,m,e,h1,h2,h3⟩:=h
 unfold aV
 rw[read_b.2.2.1]
 have g1:fcmp .leq .f32 3414163456 b=decide (-16777216≤x):=by
  unfold fcmp
  simp only
  rw[ord32 read_b.2.1 h1,pW nv_b.2.1 h3]
  exact cmpI.2.1
 have g2:fcmp .leq .f32 b 1266679808=decide (x≤16777216):=by
  unfold fcmp
  simp only
  rw[ord32 h1 read_b.1,pW h3 nv_b.1]
  exact cmpI.2.1
 rw[g1,g2]
 by_cases c:-16777216≤x
 ·rw[if_pos (decide_eq_true c)]
  congr 1
  rw[decide_eq_decide]
  omega
 ·rw[if_neg (by simpa using c)]
  congr 1
  symm
  rw[decide_eq_false_iff_not]
  omega
theorem Fp(b c:Nat):∃ r,aV b c=some r:=by
 unfold aV
 split<;>exact⟨_,rfl⟩
structure RW(b:Nat)(o:Option Int):Prop where
 ws:iR b=some o.isSome
 val:∃ v,f2f .f32 b .f64=some v∧gB v=some o.isSome∧∀ x,o=some x→fcmp .gtr .f64 v 4715268809856909312=decide (16777216<x)∧fcmp .lss .f64 v 13938640846711685120=decide (x < -16777216)
theorem Pi(b:Nat):RW b none∨∃ x,SV b x∧RW b (some x):=by
 rcases Hb b with⟨s,t,h⟩|⟨s,h⟩|⟨s,m,e,h,hm⟩
 ·obtain⟨h1,h2⟩:=Vb h
  exact .inl ⟨(tS b).trans h1,⟨_,h2,by decide +kernel,fun x hx=>by cases hx⟩⟩
 ·obtain⟨h1,h2⟩:=Vy h
  exact .inl ⟨(tS b).trans h1,⟨_,h2,by cases s<;>decide +kernel,fun x hx=>by cases hx⟩⟩
 ·obtain⟨M,E,hd⟩:=Ep (s:=s) hm
  by_cases hx:∃ x,NV s m e x
  ·obtain⟨x,hx⟩:=hx
   refine .inr ⟨x,⟨s,m,e,h,hm,hx⟩,(tS b).trans (Cp h hm hx),⟨_,xY h hm,Tc hm hd hx,fun y hy=>?_⟩⟩
   cases hy
   have hX:=(hd.nv x).2 hx
   constructor
   ·unfold fcmp
    simp only
    rw[ord64 hd.rd read_b.2.2.2.1,pW hX nv_b.2.2.1]
    exact cmpI.2.2.2.1
   ·unfold fcmp
    simp only
    rw[ord64 hd.rd read_b.2.2.2.2,pW hX nv_b.2.2.2]
    exact cmpI.2.2.1
  ·have hx:∀ x,¬ NV s m e x:=fun x h=>hx ⟨x,h⟩
   exact .inl ⟨(tS b).trans (Si h hm hx),⟨_,xY h hm,Uy hm hd hx,fun x hx=>by cases hx⟩⟩
open Classical in
noncomputable def wv(b:Nat):Option Int:=if h:∃ x,SV b x then some (Classical.choose h) else none
theorem Ma{b:Nat}{x:Int}(h:SV b x):wv b=some x:=by
 have hx:∃ x,SV b x:=⟨x,h⟩
 unfold wv
 rw[dif_pos hx,aAa (Classical.choose_spec hx) h]
theorem Ln{b:Nat}{x:Int}(h:wv b=some x):SV b x:=by
 unfold wv at h
 split at h
 ·rename_i hx
  obtain rfl:=Option.some.inj h
  exact Classical.choose_spec hx
 ·cases h
theorem Qt{b:Nat}:RW b (wv b):=by
 rcases Pi b with h|⟨x,h1,h2⟩
 ·have : wv b = none := by
    cases hw:wv b with
    | none=>rfl
    | some x =>
     have sv:=Ln hw
     obtain⟨s,m,e,g1,g2,g3⟩:=sv
     have:=(tS b).trans (Cp g1 g2 g3)
     rw[h.ws] at this
     exact absurd (Option.some.inj this) (by decide)
  rw[this];exact h
 ·rw[Ma h1];exact h2
def sm24(x:Int):Bool:=decide (-16777216≤x∧x≤16777216)
noncomputable def cE(p:Nat×Nat):Int:=match wv p.1,wv p.2 with
 | some x,some y=>if sm24 x=true∧sm24 y=true then 0 else 2
 | _,_=>27
theorem fe9(a:Bool)(x:Int)(b:Bool)(y:Int)(hx:x≠0):aL a x b y=some (if a=true then x else if b=true then y else 0):=by
 unfold aL aA
 cases a
 ·cases b
  ·rfl
  ·by_cases hy:y=0<;>simp[hy]
 ·simp[hx]
theorem Qh(a b:Nat):lJ a b=some (cE (a,b)):=by
 have ra:=Qt (b:=a)
 have rb:=Qt (b:=b)
 obtain⟨sa,hsa⟩:=Fp a 1266679808
 obtain⟨sb,hsb⟩:=Fp b 1266679808
 unfold lJ cE aC
 rw[ra.ws,rb.ws,hsa,hsb]
 simp only[Option.bind_some]
 cases ha:wv a with
 | none =>
  simp only[Option.isSome_none,Bool.false_eq_true,if_false]
  cases sa<;>simp only[Bool.false_eq_true,if_false,if_true]<;>rw[fe9 _ _ _ _ (by decide)]<;>rfl
 | some x =>
  have h1:=Na (Ln ha)
  rw[hsa] at h1
  have h1:=Option.some.inj h1
  cases hb:wv b with
  | none =>
   simp only[Option.isSome_none,Option.isSome_some,Bool.false_eq_true,if_false,if_true,Bool.not_false]
   cases sa<;>simp only[Bool.false_eq_true,if_false,if_true]<;>rw[fe9 _ _ _ _ (by decide)]<;>rfl
  | some y =>
   have h2:=Na (Ln hb)
   rw[hsb] at h2
   have h2:=Option.some.inj h2
   simp only[Option.isSome_some,if_true,Bool.not_true]
   rw[h1,h2]
   unfold sm24
   by_cases c1:-16777216≤x∧x≤16777216<;>by_cases c2:-16777216≤y∧y≤16777216
   ·rw[decide_eq_true c1,decide_eq_true c2,if_pos rfl,fe9 _ _ _ _ (by decide)];rfl
   ·rw[decide_eq_true c1,decide_eq_false c2,if_pos rfl,fe9 _ _ _ _ (by decide)];rfl
   ·rw[decide_eq_false c1,decide_eq_true c2,if_neg (by decide),fe9 _ _ _ _ (by decide)];rfl
   ·rw[decide_eq_false c1,decide_eq_false c2,if_neg (by decide),fe9 _ _ _ _ (by decide)];rfl
noncomputable def rZ(l:List (Nat×Nat))(k:Nat):Option Int:=match l[k]? with
 | some p=>if cE p=0 then none else some (cE p)
 | none=>none
noncomputable def lE(l:List (Nat×Nat)):Int:=if l.length=0 then 10 else if 1024<l.length then 8 else (cT (rZ l) l.length).getD 0
theorem Yy(l:List (Nat×Nat))(hl:l.length≤1024):run (bL (l.length:Int) l) 0=some (match cT (rZ l) l.length with|some e=>.inl e|none=>.inr ()):=by
 have H:∀ k:Nat,k<l.length→bL (l.length:Int) l (k:Int)=some (match rZ l k with|none=>.inl ((k+1:Nat):Int)|some e=>.inr (.inl e)):=by
  intro k hk
  have hg:l[k]?=some l[k]:=List.getElem?_eq_getElem hk
  unfold bL fN rZ
  rw[if_pos (by rw[decide_eq_true_eq];omega),aE,hg]
  simp only[Option.bind_some]
  rw[Qh]
  simp only[Option.bind_some]
  by_cases h:cE (l[k].1,l[k].2)=0
  ·have h':cE l[k]=0:=h
   rw[if_neg (by simpa using h),if_pos h',wsucc (n:=1024) (by omega) (by decide)]
  ·have h':cE l[k]≠0:=h
   rw[if_pos (by simpa using h),if_neg h']
 have h:=Cn (step:=bL (l.length:Int) l) (p:=rZ l) (n:=l.length) (r:=()) (fun k hk hb=>by
  have h1:=H k hk
  cases hs:rZ l k<;>rw[hs] at h1<;>exact h1) (fun _=>by
  unfold bL
  rw[if_neg (by rw[decide_eq_true_eq];omega)])
 rw[h]
 cases cT (rZ l) l.length<;>rfl
theorem Do{l:List (Nat×Nat)}{n:Nat}{e:Int}(h:cT (rZ l) n=some e):e≠0:=by
 unfold cT at h
 obtain⟨k,_,hk⟩:=List.exists_of_findSome?_eq_some h
 unfold rZ at hk
 split at hk
 ·split at hk
  ·cases hk
  ·rename_i hz
   have:=Option.some.inj hk
   rw[← this];exact hz
 ·cases hk
theorem pC(l:List (Nat×Nat)):aT l=some (lE l):=by
 unfold aT aC lQ gX aA lE
 simp only[Option.bind_some]
 by_cases h0:l.length=0
 ·rw[if_pos h0]
  have e:decide ((l.length:Int)=0)=true:=by rw[decide_eq_true_eq];omega
  rw[e];rfl
 ·rw[if_neg h0]
  have e:decide ((l.length:Int)=0)=false:=by rw[decide_eq_false_iff_not];omega
  rw[e]
  by_cases h1:1024<l.length
  ·rw[if_pos h1]
   have e:decide ((l.length:Int)>1024)=true:=by rw[decide_eq_true_eq];omega
   rw[e];rfl
  ·rw[if_neg h1]
   have e:decide ((l.length:Int)>1024)=false:=by rw[decide_eq_false_iff_not];omega
   rw[e]
   simp only[Bool.false_eq_true,if_false,Option.bind_some,ne_eq,not_true_eq_false,decide_false]
   unfold jP
   rw[Yy l (by omega)]
   cases hf:cT (rZ l) l.length with
   | none=>rfl
   | some e =>
    have:=Do hf
    simp[this]
theorem Mz(l:List (Nat×Nat)):iN l=some (lE l):=by
 unfold iN lE
 by_cases h0:l.length=0
 ·rw[if_pos h0,if_pos (by rw[decide_eq_true_eq];omega)]
 rw[if_neg h0,if_neg (by rw[decide_eq_true_eq];omega)]
 by_cases h1:1024<l.length
 ·rw[if_pos h1,if_pos (by rw[decide_eq_true_eq];omega)]
 rw[if_neg h1,if_neg (by rw[decide_eq_true_eq];omega)]
 have H:∀ k:Nat,k<l.length→iZ l (k:Int)=some (match rZ l k with|none=>.inl ((k+1:Nat):Int)|some e=>.inr (.inl e)):=by
  intro k hk
  have hg:l[k]?=some l[k]:=List.getElem?_eq_getElem hk
  have ra:=Qt (b:=l[k].1)
  have rb:=Qt (b:=l[k].2)
  obtain⟨va,a1,a2,a3⟩:=ra.val
  obtain⟨vb,b1,b2,b3⟩:=rb.val
  unfold iZ rZ
  rw[if_pos (by rw[decide_eq_true_eq];omega),aE,hg]
  simp only[Option.bind_some]
  rw[a1]
  simp only[Option.bind_some]
  rw[b1]
  simp only[Option.bind_some]
  rw[a2]
  simp only[Option.bind_some]
  unfold cE
  rw[wsucc (n:=1024) (by omega) (by decide)]
  cases ha:wv l[k].1 with
  | none=>simp
  | some x =>
   rw[ha] at a3
   simp only[Option.isSome_some,if_true]
   rw[b2]
   simp only[Option.bind_some]
   cases hb:wv l[k].2 with
   | none=>simp
   | some y =>
    rw[hb] at b3
    obtain⟨c1,c2⟩:=a3 x rfl
    obtain⟨d1,d2⟩:=b3 y rfl
    simp only[Option.isSome_some,if_true]
    rw[c1,c2,d1,d2]
    have hE:¬((-16777216≤x∧x≤16777216)∧(-16777216≤y∧y≤16777216))→(if sm24 x=true∧sm24 y=true then (0:Int) else 2)=2:=fun h=>if_neg (by unfold sm24;simp only[decide_eq_true_eq];exact h)
    have hE0:((-16777216≤x∧x≤16777216)∧(-16777216≤y∧y≤16777216))→(if sm24 x=true∧sm24 y=true then (0:Int) else 2)=0:=fun h=>if_pos (by unfold sm24;simp only[decide_eq_true_eq];exact h)
    by_cases p1:16777216<x
    ·rw[if_pos (decide_eq_true p1),hE (by omega)];rfl
    rw[if_neg (by simpa using p1)]
    by_cases p2:x < -16777216
    ·rw[if_pos (decide_eq_true p2),hE (by omega)];rfl
    rw[if_neg (by simpa using p2)]
    by_cases p3:16777216<y
    ·rw[if_pos (decide_eq_true p3),hE (by omega)];rfl
    rw[if_neg (by simpa using p3)]
    by_cases p4:y < -16777216
    ·rw[if_pos (decide_eq_true p4),hE (by omega)];rfl
    rw[if_neg (by simpa using p4),hE0 (by omega)];rfl
 have h:=Cn (step:=iZ l) (p:=rZ l) (n:=l.length) (r:=()) (fun k hk hb=>by
  have h1:=H k hk
  cases hs:rZ l k<;>rw[hs] at h1<;>exact h1) (fun _=>by
  unfold iZ
  rw[if_neg (by rw[decide_eq_true_eq];omega)])
 rw[h]
 cases cT (rZ l) l.length<;>rfl
noncomputable def num(p:Nat×Nat):Int×Int:=((wv p.1).getD 0,(wv p.2).getD 0)
noncomputable def nums(l:List (Nat×Nat)):List (Int×Int):=l.map num
def small(z:Int×Int):Prop:=(-16777216≤z.1∧z.1≤16777216)∧(-16777216≤z.2∧z.2≤16777216)
instance (z:Int×Int):Decidable (small z):=by unfold small;exact inferInstance
def PV(p:Nat×Nat)(z:Int×Int):Prop:=SV p.1 z.1∧SV p.2 z.2
structure GoodL(l:List (Nat×Nat)):Prop where
 len:0<l.length∧l.length≤1024
 val:∀ p∈l,PV p (num p)∧small (num p)
theorem Zg{p:Nat×Nat}(h:cE p=0):PV p (num p)∧small (num p):=by
 unfold cE at h
 unfold num PV small
 cases ha:wv p.1 with
 | none=>rw[ha] at h;exact absurd h (by simp)
 | some x =>
  cases hb:wv p.2 with
  | none=>rw[ha,hb] at h;exact absurd h (by simp)
  | some y =>
   rw[ha,hb] at h
   simp only at h
   split at h
   ·rename_i hc
    unfold sm24 at hc
    simp only[decide_eq_true_eq] at hc
    exact⟨⟨Ln ha,Ln hb⟩,hc⟩
   ·exact absurd h (by decide)
theorem qJ{l:List (Nat×Nat)}(h:lE l=0):GoodL l:=by
 unfold lE at h
 by_cases h0:l.length=0
 ·rw[if_pos h0] at h;exact absurd h (by decide)
 rw[if_neg h0] at h
 by_cases h1:1024<l.length
 ·rw[if_pos h1] at h;exact absurd h (by decide)
 rw[if_neg h1] at h
 refine⟨⟨by omega,by omega⟩,fun p hp=>?_⟩
 cases hf:cT (rZ l) l.length with
 | some e=>rw[hf] at h;exact absurd h (Do hf)
 | none =>
  obtain⟨k,hk⟩:=List.mem_iff_getElem?.1 hp
  have hkl:=(List.getElem?_eq_some_iff.1 hk).1
  have:=firstOf_none.1 hf k hkl
  unfold rZ at this
  rw[hk] at this
  simp only at this
  split at this
  ·rename_i hz;exact Zg hz
  ·cases this
theorem dE(l:List (Nat×Nat)):(nums l).length=l.length:=by unfold nums;simp
theorem Kl{l:List (Nat×Nat)}{k:Nat}(hk:k<l.length):(nums l)[k]?=some (num l[k]):=by
 unfold nums
 rw[List.getElem?_map,List.getElem?_eq_getElem hk]
 rfl
theorem uW{b:Nat}{x:Int}(h:SV b x)(hb:-16777216≤x∧x≤16777216):f2i .f32 b .i64=some x:=Zt h (by omega)
theorem nB{l:List (Nat×Nat)}(G:GoodL l):aY l=some (nums l):=by
 have hle:=G.len
 have key:=dD (step:=cH l) (st:=fun k (b:List (Int×Int))=>(b,(k:Int))) (g:=fun k b=>b++[num (l.getD k (0,0))]) (fin:=fun b=>b) l.length
  (fun k b=>b=(nums l).take k) (b0:=[]) (by simp) (fun k b hk hb=>by
   subst hb
   have hg:l[k]?=some l[k]:=List.getElem?_eq_getElem hk
   have hd:l.getD k (0,0)=l[k]:=by rw[List.getD_eq_getElem?_getD,hg];rfl
   have hv:=G.val l[k] (List.getElem_mem hk)
   rw[hd]
   refine⟨?_,by rw[List.take_add_one,Kl hk];rfl⟩
   unfold cH gQ
   simp only
   rw[if_pos (by rw[decide_eq_true_eq];omega),aE,hg]
   simp only[Option.bind_some]
   rw[uW hv.1.1 hv.2.1,uW hv.1.2 hv.2.2]
   simp only[Option.bind_some,jD]
   rw[if_pos (by simp;omega),wsucc (n:=1024) (by omega) (by decide)]
   rfl) (fun b hb=>by
   unfold cH
   simp only
   rw[if_neg (by rw[decide_eq_true_eq];omega)])
 have hI:=key.2 l.length (Nat.le_refl _)
 have hr:=key.1
 rw[hI,List.take_of_length_le (by rw[dE];omega)] at hr
 unfold aY
 simp only[Int.natCast_zero] at hr
 rw[hr]
 rfl
theorem Lq{l:List (Nat×Nat)}(G:GoodL l):fC l=some (nums l):=by
 have h:=nB G
 unfold fC
 unfold aY at h
 have e:pM l=cH l:=by
  funext ⟨v3,v4⟩
  unfold pM cH gQ
  simp only
  by_cases c:decide (v4<(l.length:Int))=true
  ·rw[if_pos c,if_pos c]
   cases bE l v4 with
   | none=>rfl
   | some p =>
    simp only[Option.bind_some]
    cases f2i .f32 p.1 .i64 with
    | none=>rfl
    | some x =>
     simp only[Option.bind_some]
     cases f2i .f32 p.2 .i64<;>rfl
  ·rw[if_neg c,if_neg c]
 rw[e]
 exact h
noncomputable def eW(z:Int×Int):Nat×Nat:=(FloatKind.f32.nearest z.1,FloatKind.f32.nearest z.2)
theorem rG{x:Int}(h:-16777216≤x∧x≤16777216):SV (FloatKind.f32.nearest x) x:=by
 by_cases h1:x=16777216
 ·subst h1
  have e:FloatKind.f32.nearest 16777216=1266679808:=by decide +kernel
  rw[e]
  exact⟨_,_,_,read_b.1,Pv read_b.1,nv_b.1⟩
 by_cases h2:x = -16777216
 ·subst h2
  have e:FloatKind.f32.nearest (-16777216)=3414163456:=by decide +kernel
  rw[e]
  exact⟨_,_,_,read_b.2.1,Pv read_b.2.1,nv_b.2.1⟩
 have h24:(16777216:Nat)=2^24:=by decide
 exact Zo (by rw[← h24];omega)
theorem Jc{z:Int×Int}(h:small z):PV (eW z) z:=⟨rG h.1,rG h.2⟩
theorem Yx{p:Nat×Nat}{z:Int×Int}(h:PV p z):num p=z:=by
 unfold num
 rw[Ma h.1,Ma h.2]
 rfl
theorem Vt{z:Int×Int}(h:small z):num (eW z)=z:=Yx (Jc h)
theorem Du(x:Int):fL x 16777216=some (decide (-16777216≤x∧x≤16777216)):=by
 unfold fL
 rw[w64 (x:=0-16777216) (by omega)]
 by_cases c:-16777216≤x
 ·rw[if_pos (by rw[decide_eq_true_eq];omega)]
  congr 1
  rw[decide_eq_decide]
  omega
 ·rw[if_neg (by rw[decide_eq_true_eq];omega)]
  congr 1
  symm
  rw[decide_eq_false_iff_not]
  omega
theorem Sy(z:Int×Int):(gS z.1 z.2 16777216).bind (fun (v6,v7)=>(aA v6 v7).bind fun v8=>some v8)=some (if small z then 0 else 8):=by
 unfold gS aC aA small
 rw[Du,Du]
 simp only[Option.bind_some]
 by_cases c1:-16777216≤z.1∧z.1≤16777216<;>by_cases c2:-16777216≤z.2∧z.2≤16777216<;>simp[c1,c2]
def mZ(w:List (Int×Int))(k:Nat):Option Int:=match w[k]? with
 | some z=>if small z then none else some 8
 | none=>none
noncomputable def rec(w:List (Int×Int)):List (Nat×Nat)×Int:=if ∀ z∈w,small z then (w.map eW,0) else ([],8)
theorem big_none{w:List (Int×Int)}:cT (mZ w) w.length=none↔∀ z∈w,small z:=by
 rw[firstOf_none]
 constructor
 ·intro h z hz
  obtain⟨k,hk⟩:=List.mem_iff_getElem?.1 hz
  have:=h k (List.getElem?_eq_some_iff.1 hk).1
  unfold mZ at this
  rw[hk] at this
  simp only at this
  split at this
  ·assumption
  ·cases this
 ·intro h k hk
  unfold mZ
  rw[List.getElem?_eq_getElem hk]
  simp only
  rw[if_pos (h _ (List.getElem_mem hk))]
theorem Ws{w:List (Int×Int)}{n:Nat}{e:Int}(h:cT (mZ w) n=some e):e=8:=by
 unfold cT at h
 obtain⟨k,_,hk⟩:=List.exists_of_findSome?_eq_some h
 unfold mZ at hk
 split at hk
 ·split at hk
  ·cases hk
  ·exact (Option.some.inj hk).symm
 ·cases hk
theorem Uo(w:List (Int×Int))(hw:w.length≤4096):run (dT w) (([]:List (Nat×Nat)),0)=some (w.map eW):=by
 have key:=dD (step:=dT w) (st:=fun k (b:List (Nat×Nat))=>(b,(k:Int))) (g:=fun k b=>b++[eW (w.getD k (0,0))]) (fin:=fun b=>b) w.length
  (fun k b=>b=(w.map eW).take k) (b0:=[]) (by simp) (fun k b hk hb=>by
   subst hb
   have hg:w[k]?=some w[k]:=List.getElem?_eq_getElem hk
   have hd:w.getD k (0,0)=w[k]:=by rw[List.getD_eq_getElem?_getD,hg];rfl
   rw[hd]
   refine⟨?_,by rw[List.take_add_one,List.getElem?_map,hg];rfl⟩
   unfold dT
   simp only
   rw[if_pos (by rw[decide_eq_true_eq];omega),aE,hg]
   simp only[Option.bind_some,jD]
   rw[if_pos (by simp;omega),wsucc (n:=4096) (by omega) (by decide)]
   rfl) (fun b hb=>by
   unfold dT
   simp only
   rw[if_neg (by rw[decide_eq_true_eq];omega)])
 have hI:=key.2 w.length (Nat.le_refl _)
 have hr:=key.1
 rw[hI,List.take_of_length_le (by simp)] at hr
 simp only[Int.natCast_zero] at hr
 exact hr
theorem uK(w:List (Int×Int))(hw:w.length≤4096):bR w=some (rec w):=by
 have H:∀ k:Nat,k<w.length→bY (w.length:Int) w (k:Int)=some (match mZ w k with|none=>.inl ((k+1:Nat):Int)|some e=>.inr (.inl e)):=by
  intro k hk
  have hg:w[k]?=some w[k]:=List.getElem?_eq_getElem hk
  unfold bY fZ mZ
  rw[if_pos (by rw[decide_eq_true_eq];omega),aE,hg]
  simp only[Option.bind_some]
  have:=Sy w[k]
  rw[this]
  simp only[Option.bind_some]
  by_cases h:small w[k]
  ·rw[if_pos h,if_pos h,if_neg (by decide),wsucc (n:=4096) (by omega) (by decide)]
  ·rw[if_neg h,if_neg h,if_pos (by decide)]
 have h:=Cn (step:=bY (w.length:Int) w) (p:=mZ w) (n:=w.length) (r:=()) (fun k hk hb=>by
  have h1:=H k hk
  cases hs:mZ w k<;>rw[hs] at h1<;>exact h1) (fun _=>by
  unfold bY
  rw[if_neg (by rw[decide_eq_true_eq];omega)])
 unfold bR lT jL rec
 simp only[Option.bind_some]
 rw[h]
 cases hf:cT (mZ w) w.length with
 | none =>
  rw[if_pos (big_none.1 hf)]
  simp only[Option.bind_some]
  rw[if_neg (by decide),Uo w hw]
  rfl
 | some e =>
  obtain rfl:=Ws hf
  rw[if_neg (fun h=>by rw[big_none.2 h] at hf;cases hf)]
  rfl
theorem size24{x:Int}(h:-4611686018427387904≤x∧x≤4611686018427387904):∃ y,rS x=some y∧(y>16777216↔¬(-16777216≤x∧x≤16777216)):=by
 refine⟨_,rfl,?_⟩
 rw[w64 (x:=0-x) (by omega)]
 split<;>omega
def mid(z:Int×Int):Prop:=(-4611686018427387904≤z.1∧z.1≤4611686018427387904)∧(-4611686018427387904≤z.2∧z.2≤4611686018427387904)
theorem Kh(w:List (Int×Int))(hw:w.length≤4096)(hm:∀ z∈w,mid z):gP w=some (rec w):=by
 let F:Nat→List (Nat×Nat):=fun k=>(w.map eW).take k
 have H:∀ k:Nat,k<w.length→dL w (F k,(k:Int))=some (match mZ w k with|none=>.inl (F (k+1),((k+1:Nat):Int))|some e=>.inr (.inl ())):=by
  intro k hk
  have hg:w[k]?=some w[k]:=List.getElem?_eq_getElem hk
  have m:=hm w[k] (List.getElem_mem hk)
  obtain⟨a,a1,a2⟩:=size24 m.1
  obtain⟨b,b1,b2⟩:=size24 m.2
  have hF:F (k+1)=F k++[eW w[k]]:=by
   show (w.map eW).take (k+1)=_
   rw[List.take_add_one,List.getElem?_map,hg];rfl
  unfold dL mZ
  simp only
  rw[if_pos (by rw[decide_eq_true_eq];omega),aE,hg]
  simp only[Option.bind_some]
  rw[a1]
  simp only[Option.bind_some]
  rw[b1]
  simp only[Option.bind_some]
  by_cases c1:a>16777216
  ·rw[if_pos (decide_eq_true c1),if_neg (fun h=>(a2.1 c1) h.1)]
  rw[if_neg (by simpa using c1)]
  by_cases c2:b>16777216
  ·rw[if_pos (decide_eq_true c2),if_neg (fun h=>(b2.1 c2) h.2)]
  rw[if_neg (by simpa using c2)]
  have hs:small w[k]:=⟨Classical.not_not.1 (fun h=>c1 (a2.2 h)),Classical.not_not.1 (fun h=>c2 (b2.2 h))⟩
  rw[if_pos hs,hF]
  unfold jD
  rw[if_pos (by
   have:(F k).length≤k:=by show ((w.map eW).take k).length≤k;simp;omega
   simp;omega),wsucc (n:=4096) (by omega) (by decide)]
  rfl
 unfold gP wM rec
 cases hf:cT (mZ w) w.length with
 | none =>
  rw[if_pos (big_none.1 hf)]
  have key:=dD (step:=dL w) (st:=fun k (b:Unit)=>(F k,(k:Int))) (g:=fun k b=>b) (fin:=fun b=>(.inr (w.map eW):Unit ⊕ List (Nat×Nat))) w.length (fun k b=>True) (b0:=()) trivial
   (fun k b hk _=>⟨by rw[H k hk,firstOf_none.1 hf k hk],trivial⟩) (fun b _=>by
    unfold dL
    simp only
    rw[if_neg (by rw[decide_eq_true_eq];omega)]
    show some (Sum.inr (Sum.inr ((w.map eW).take w.length)))=_
    rw[List.take_of_length_le (by simp)])
  have k1:run (dL w) (([]:List (Nat×Nat)),0)=some (.inr (w.map eW)):=by
   have:=key.1
   simpa [F] using this
  rw[k1]
  rfl
 | some e =>
  rw[if_neg (fun h=>by rw[big_none.2 h] at hf;cases hf)]
  have h1:∃ k,k<w.length∧mZ w k≠none:=by
   unfold cT at hf
   obtain⟨k,h1,hk⟩:=List.exists_of_findSome?_eq_some hf
   exact⟨k,List.mem_range.1 h1,by rw[hk];simp⟩
  obtain⟨k,k1,k2⟩:=h1
  have hex:∃ m,m<w.length∧mZ w m≠none∧∀ j,j<m→mZ w j=none:=by
   induction k using Nat.strongRecOn with
   | ind k ih =>
    by_cases h:∃ j,j<k∧mZ w j≠none
    ·obtain⟨j,j1,j2⟩:=h
     exact ih j j1 (by omega) j2
    ·exact⟨k,k1,k2,fun j hj=>Classical.not_not.1 (fun q=>h ⟨j,hj,q⟩)⟩
  obtain⟨m,m1,m2,m3⟩:=hex
  have key:=dD (step:=dL w) (st:=fun k (b:Unit)=>(F k,(k:Int))) (g:=fun k b=>b) (fin:=fun b=>(.inl ():Unit ⊕ List (Nat×Nat))) m (fun k b=>True) (b0:=()) trivial
   (fun k b hk _=>⟨by rw[H k (by omega),m3 k hk],trivial⟩) (fun b _=>by
    have:=H m m1
    cases hb:mZ w m with
    | none=>exact absurd hb m2
    | some e=>rw[hb] at this;exact this)
  have k1:run (dL w) (([]:List (Nat×Nat)),0)=some (.inl ()):=by
   have:=key.1
   simpa [F] using this
  rw[k1]
  rfl
theorem Uv{b:Nat}{x:Int}(h:SV b x):∃ v,f2f .f32 b .f64=some v∧fbits .f64 v=some ((v:Nat):Int):=by
 obtain⟨s,m,e,h1,h2,h3⟩:=h
 obtain⟨M,E,hd⟩:=Ep (s:=s) h2
 refine⟨_,xY h1 h2,?_⟩
 have hn:=sX (k:=.f64) hd.rd
 unfold fbits
 rw[if_neg (by rw[hn];decide)]
theorem Sg(l:List (Nat×Nat))(hl:l.length≤4096)(h:∀ p∈l,∃ z,PV p z):aQ l l=some true:=by
 unfold aQ
 rw[if_neg (by simp)]
 have:run (eF l l) 0=some (.inr ()):=by
  refine jW (fun k=>(k:Int)) (n:=l.length) (fun k hk=>?_) ?_
  ·obtain⟨z,z1,z2⟩:=h l[k] (List.getElem_mem hk)
   obtain⟨a,a1,a2⟩:=Uv z1
   obtain⟨b,b1,b2⟩:=Uv z2
   unfold eF nR
   rw[if_pos (by rw[decide_eq_true_eq];omega),aE,List.getElem?_eq_getElem hk]
   simp only[Option.bind_some,a1,b1,a2,b2,decide_true,if_true]
   rw[wsucc (n:=4096) (by omega) (by decide)]
  ·unfold eF
   rw[if_neg (by rw[decide_eq_true_eq];omega)]
 rw[this]
 rfl
def zmul(a b:Int×Int):Int×Int:=(a.1*b.1-a.2*b.2,a.1*b.2+a.2*b.1)
def zadd(a b:Int×Int):Int×Int:=(a.1+b.1,a.2+b.2)
def zsub(a b:Int×Int):Int×Int:=(a.1-b.1,a.2-b.2)
def zsum(f:Nat→Int×Int):Nat→Int×Int
 | 0=>(0,0)
 | n+1=>zadd (zsum f n) (f n)
def zle(B:Int)(z:Int×Int):Prop:=(-B≤z.1∧z.1≤B)∧(-B≤z.2∧z.2≤B)
theorem xQ{f:Nat→Int×Int}{B:Int}:∀ {n:Nat},(∀ k,k<n→zle B (f k))→zle (n*B) (zsum f n)
 | 0,_=>by simp[zsum,zle]
 | n+1,h=>by
  have ih:=xQ (f:=f) (n:=n) (fun k hk=>h k (by omega))
  have h1:=h n (by omega)
  unfold zle at *
  simp only[zsum,zadd]
  have e:((n+1:Nat):Int)*B=n*B+B:=by rw[Int.natCast_add,Int.add_mul];simp
  rw[e]
  omega
theorem rL{f g:Nat→Int×Int}:∀ {n:Nat},(∀ k,k<n→f k=g k)→zsum f n=zsum g n
 | 0,_=>rfl
 | n+1,h=>by
  simp only[zsum]
  rw[rL (fun k hk=>h k (by omega)),h n (by omega)]
theorem qN{x y:Int}(hx:-16777216≤x∧x≤16777216)(hy:-16777216≤y∧y≤16777216):-281474976710656≤x*y∧x*y≤281474976710656:=by
 have h1:(x*y).natAbs=x.natAbs*y.natAbs:=Int.natAbs_mul x y
 have h2:x.natAbs*y.natAbs≤16777216*16777216:=Nat.mul_le_mul (by omega) (by omega)
 omega
theorem Bz{a b:Int×Int}(ha:small a)(hb:small b):zle 562949953421312 (zmul a b):=by
 have h1:=qN ha.1 hb.1
 have h2:=qN ha.2 hb.2
 have h3:=qN ha.1 hb.2
 have h4:=qN ha.2 hb.1
 unfold zle zmul
 simp only
 omega
theorem Ef{a b:Int×Int}(ha:small a)(hb:small b):bB a.1 a.2 b.1 b.2=some (zmul a b)∧nU a.1 a.2 b.1 b.2=some (zmul a b):=by
 have h1:=qN ha.1 hb.1
 have h2:=qN ha.2 hb.2
 have h3:=qN ha.1 hb.2
 have h4:=qN ha.2 hb.1
 unfold bB nU zmul
 rw[w64 (x:=a.1*b.1) (by omega),w64 (x:=a.2*b.2) (by omega),w64 (x:=a.1*b.2) (by omega),w64 (x:=a.2*b.1) (by omega),w64 (by omega),w64 (by omega)]
 exact⟨rfl,rfl⟩
def at0(w:List (Int×Int))(k:Nat):Int×Int:=w.getD k (0,0)
theorem cS{w:List (Int×Int)}{k:Nat}(hk:k<w.length):w[k]?=some (at0 w k):=by
 unfold at0
 rw[List.getD_eq_getElem?_getD,List.getElem?_eq_getElem hk]
 rfl
theorem cA{w:List (Int×Int)}(h:∀ z∈w,small z)(k:Nat):small (at0 w k):=by
 unfold at0
 by_cases hk:k<w.length
 ·rw[List.getD_eq_getElem?_getD,List.getElem?_eq_getElem hk]
  exact h _ (List.getElem_mem hk)
 ·rw[List.getD_eq_getElem?_getD,List.getElem?_eq_none (by omega)]
  unfold small
  simp
def cvT(a b:List (Int×Int))(k i:Nat):Int×Int:=if i≤k∧k-i<b.length then zmul (at0 a i) (at0 b (k-i)) else (0,0)
def cvS(a b:List (Int×Int))(i k:Nat):Int×Int:=zsum (cvT a b k) i
def cvI(a b:List (Int×Int))(i j k:Nat):Int×Int:=if i≤k∧k-i<j then zadd (cvS a b i k) (zmul (at0 a i) (at0 b (k-i))) else cvS a b i k
def cvL(a b:List (Int×Int))(i j:Nat):List (Int×Int):=(List.range (a.length+b.length-1)).map (cvI a b i j)
section
variable {a b:List (Int×Int)}
theorem aBu(ha:∀ z∈a,small z)(hb:∀ z∈b,small z)(k i:Nat):zle 562949953421312 (cvT a b k i):=by
 unfold cvT
 split
 ·exact Bz (cA ha i) (cA hb _)
 ·unfold zle;simp
theorem aA7(ha:∀ z∈a,small z)(hb:∀ z∈b,small z){i:Nat}(k:Nat)(hi:i≤1024):zle 576460752303423488 (cvS a b i k):=by
 have h:=xQ (f:=cvT a b k) (B:=562949953421312) (n:=i) (fun j _=>aBu ha hb k j)
 have h2:(i:Int)*562949953421312≤1024*562949953421312:=Int.mul_le_mul_of_nonneg_right (by omega) (by decide)
 unfold cvS
 unfold zle at *
 omega
theorem yF(i j:Nat):(cvL a b i j).length=a.length+b.length-1:=by unfold cvL;simp
theorem Cz(i j:Nat){k:Nat}(hk:k<a.length+b.length-1):(cvL a b i j)[k]?=some (cvI a b i j k):=by
 unfold cvL
 rw[List.getElem?_map,List.getElem?_range hk]
 rfl
theorem Vp(i j:Nat)(hj:j<b.length):(cvL a b i j).set (i+j) (zadd (cvS a b i (i+j)) (zmul (at0 a i) (at0 b j)))=cvL a b i (j+1):=by
 apply List.ext_getElem?
 intro k
 rw[List.getElem?_set,yF]
 by_cases hk:k<a.length+b.length-1
 ·rw[Cz i (j+1) hk]
  by_cases q:i+j=k
  ·subst q
   rw[if_pos rfl,if_pos hk]
   unfold cvI
   rw[if_pos (by omega),Nat.add_sub_cancel_left]
  ·rw[if_neg q,Cz i j hk]
   unfold cvI
   by_cases c:i≤k∧k-i<j
   ·rw[if_pos c,if_pos (by omega)]
   ·rw[if_neg c,if_neg (by omega)]
 ·have hn:∀ j,(cvL a b i j)[k]?=none:=fun j=>List.getElem?_eq_none (by rw[yF];omega)
  rw[hn,hn]
  by_cases q:i+j=k
  ·rw[if_pos q,if_neg (by omega)]
  ·rw[if_neg q]
theorem Md(i:Nat):cvL a b i b.length=cvL a b (i+1) 0:=by
 unfold cvL
 apply List.map_congr_left
 intro k _
 have e:cvS a b (i+1) k=zadd (cvS a b i k) (cvT a b k i):=rfl
 unfold cvI
 rw[if_neg (show ¬(i+1≤k∧k-(i+1)<0) by omega),e]
 unfold cvT
 by_cases c:i≤k∧k-i<b.length
 ·rw[if_pos c,if_pos c]
 ·rw[if_neg c,if_neg c]
  unfold zadd
  simp
theorem Mg:cvL a b 0 0=List.replicate (a.length+b.length-1) (0,0):=by
 apply List.ext_getElem?
 intro k
 by_cases hk:k<a.length+b.length-1
 ·rw[Cz 0 0 hk,List.getElem?_replicate,if_pos hk]
  unfold cvI cvS
  rw[if_neg (by omega)]
  rfl
 ·rw[List.getElem?_eq_none (by rw[yF];omega),List.getElem?_eq_none (by simp;omega)]
theorem Ms(ha:∀ z∈a,small z)(hb:∀ z∈b,small z)(la:0<a.length∧a.length≤1024)(lb:0<b.length∧b.length≤1024){i:Nat}(hi:i<a.length) :
 run (eZ b (i:Int) (at0 a i).1 (at0 a i).2) (cvL a b i 0,0)=some (cvL a b (i+1) 0)∧run (iY a b (i:Int)) (cvL a b i 0,0)=some (cvL a b (i+1) 0):=by
 have sa:=cA ha i
 have step:∀ j:Nat,j<b.length→eZ b (i:Int) (at0 a i).1 (at0 a i).2 (cvL a b i j,(j:Int))=some (.inl (cvL a b i (j+1),((j+1:Nat):Int)))∧iY a b (i:Int) (cvL a b i j,(j:Int))=some (.inl (cvL a b i (j+1),((j+1:Nat):Int))):=by
  intro j hj
  have hij:i+j<a.length+b.length-1:=by omega
  have hg:bE (cvL a b i j) ((i:Int)+j)=some (cvS a b i (i+j)):=by
   rw[show (i:Int)+j=((i+j:Nat):Int) by omega,aE,Cz i j hij]
   unfold cvI
   rw[if_neg (by omega)]
  have sb:=cA hb j
  have t:=Ef sa sb
  have b1:=aA7 ha hb (i:=i) (i+j) (by omega)
  have b2:=Bz sa sb
  have hs:=Vp (a:=a) i j hj
  have hw:IntKind.i64.wrap ((i:Int)+(j:Int))=(i:Int)+j:=by rw[w64 (by omega)]
  have hn:((i:Int)+j).toNat=i+j:=by omega
  unfold zle at b1 b2
  constructor
  ·unfold eZ
   simp only
   rw[if_pos (by rw[decide_eq_true_eq];omega),aE,cS hj]
   simp only[Option.bind_some]
   rw[hw,hg]
   simp only[Option.bind_some]
   rw[t.1]
   simp only[Option.bind_some]
   unfold bS
   simp only[Option.bind_some]
   rw[w64 (by omega),w64 (by omega),wsucc (n:=1024) (by omega) (by decide),hn]
   exact congrArg (fun l=>some (Sum.inl (l,((j+1:Nat):Int)))) hs
  ·unfold iY
   simp only
   rw[if_pos (by rw[decide_eq_true_eq];omega),aE,cS hi]
   simp only[Option.bind_some]
   rw[aE,cS hj]
   simp only[Option.bind_some]
   rw[t.2]
   simp only[Option.bind_some]
   rw[hw,hg]
   simp only[Option.bind_some]
   rw[w64 (by omega),w64 (by omega),wsucc (n:=1024) (by omega) (by decide),hn]
   exact congrArg (fun l=>some (Sum.inl (l,((j+1:Nat):Int)))) hs
 constructor
 ·have key := dD (step := eZ b (i : Int) (at0 a i).1 (at0 a i).2) (st := fun j (_ : Unit) => (cvL a b i j, (j : Int))) (g := fun _ x => x) (fin := fun _ => cvL a b (i + 1) 0) b.length (fun _ _ => True) (b0 := ()) trivial
    (fun j _ hj _=>⟨(step j hj).1,trivial⟩) (fun _ _=>by
     unfold eZ
     simp only
     rw[if_neg (by rw[decide_eq_true_eq];omega),Md])
  exact key.1
 ·have key := dD (step := iY a b (i : Int)) (st := fun j (_ : Unit) => (cvL a b i j, (j : Int))) (g := fun _ x => x) (fin := fun _ => cvL a b (i + 1) 0) b.length (fun _ _ => True) (b0 := ()) trivial
    (fun j _ hj _=>⟨(step j hj).2,trivial⟩) (fun _ _=>by
     unfold iY
     simp only
     rw[if_neg (by rw[decide_eq_true_eq];omega),Md])
  exact key.1
def cv(a b:List (Int×Int)):List (Int×Int):=cvL a b a.length 0
theorem Ty(ha:∀ z∈a,small z)(hb:∀ z∈b,small z)(la:0<a.length∧a.length≤1024)(lb:0<b.length∧b.length≤1024):nV a b=some (cv a b)∧run (kQ a b) (List.replicate (a.length+b.length-1) (0,0),0)=some (cv a b):=by
 constructor
 ·have key := dD (step := jA a b) (st := fun i (_ : Unit) => (cvL a b i 0, (i : Int))) (g := fun _ x => x) (fin := fun _ => cv a b) a.length (fun _ _ => True) (b0 := ()) trivial
    (fun i _ hi _=>⟨by
     unfold jA
     simp only
     rw[if_pos (by rw[decide_eq_true_eq];omega),aE,cS hi]
     simp only[Option.bind_some]
     rw[(Ms ha hb la lb hi).1]
     simp only[Option.bind_some]
     rw[wsucc (n:=1024) (by omega) (by decide)],trivial⟩) (fun _ _=>by
     unfold jA
     simp only
     rw[if_neg (by rw[decide_eq_true_eq];omega)]
     rfl)
  have k1:=key.1
  simp only[Int.natCast_zero] at k1
  unfold nV mkI
  rw[w64 (x:=(a.length:Int)+b.length) (by omega),w64 (by omega),if_pos (by omega)]
  simp only[Option.bind_some]
  rw[show ((a.length:Int)+b.length-1).toNat=a.length+b.length-1 by omega,← Mg,k1]
  rfl
 ·have key := dD (step := kQ a b) (st := fun i (_ : Unit) => (cvL a b i 0, (i : Int))) (g := fun _ x => x) (fin := fun _ => cv a b) a.length (fun _ _ => True) (b0 := ()) trivial
    (fun i _ hi _=>⟨by
     unfold kQ
     simp only
     rw[if_pos (by rw[decide_eq_true_eq];omega),(Ms ha hb la lb hi).2]
     simp only[Option.bind_some]
     rw[wsucc (n:=1024) (by omega) (by decide)],trivial⟩) (fun _ _=>by
     unfold kQ
     simp only
     rw[if_neg (by rw[decide_eq_true_eq];omega)]
     rfl)
  have k1:=key.1
  simp only[Int.natCast_zero] at k1
  rw[← Mg]
  exact k1
end
theorem jG{l:List (Nat×Nat)}(G:GoodL l):∀ z∈nums l,small z:=by
 intro z hz
 unfold nums at hz
 obtain⟨p,hp,rfl⟩:=List.mem_map.1 hz
 exact (G.val p hp).2
noncomputable def swV(l c:List (Nat×Nat)):List (Nat×Nat)×Int:=if lE l≠0 then ([],lE l) else if lE c≠0 then ([],lE c) else if 1024<l.length+c.length-1 then ([],8) else rec (cv (nums l) (nums c))
theorem aCg(l c:List (Nat×Nat))(b:Bool)(e:Int):eJ l c b e=some (if lE l≠0 then lE l else if lE c≠0 then lE c else if b=true then e else 0):=by
 unfold eJ aA
 rw[pC,pC]
 simp only[Option.bind_some]
 by_cases h1:lE l=0
 ·by_cases h2:lE c=0
  ·cases b
   ·simp[h1,h2]
   ·by_cases he:e=0<;>simp[h1,h2,he]
  ·simp[h1,h2]
 ·simp[h1]
theorem Nz(l c:List (Nat×Nat))(hl:l.length≤1026)(hc:c.length≤1026):fG l c=some (swV l c):=by
 unfold fG cK aC swV
 simp only[Option.bind_some]
 rw[aCg]
 simp only[Option.bind_some]
 by_cases h1:lE l=0
 ·by_cases h2:lE c=0
  ·have G1:=qJ h1
   have G2:=qJ h2
   have g1:=G1.len
   have g2:=G2.len
   have n1:¬ lE l≠0:=by simpa using h1
   have n2:¬ lE c≠0:=by simpa using h2
   rw[if_neg n1,if_neg n2,if_neg n1,if_neg n2,w64 (x:=(l.length:Int)+c.length) (by omega),w64 (x:=(l.length:Int)+c.length-1) (by omega)]
   by_cases h3:1024<l.length+c.length-1
   ·have e:decide ((l.length:Int)+c.length-1>1024)=true:=by rw[decide_eq_true_eq];omega
    rw[if_pos h3,e]
    rfl
   ·have e:decide ((l.length:Int)+c.length-1>1024)=false:=by rw[decide_eq_false_iff_not];omega
    rw[if_neg h3,e,nB G1,nB G2]
    simp only[Option.bind_some]
    rw[(Ty (jG G1) (jG G2) (by rw[dE];omega) (by rw[dE];omega)).1]
    simp only[Option.bind_some]
    rw[uK _ (by unfold cv;rw[yF,dE,dE];omega)]
    rfl
  ·simp[h1,h2]
 ·simp[h1]
end Go.Rex
namespace Go.Rex
open Go Go.Rex
set_option maxRecDepth 100000
theorem Qa(f:Nat→Int×Int):∀ n:Nat,zsum f n=zsum (fun t=>f (n-1-t)) n
 | 0=>rfl
 | n+1=>by
  have head:∀(g:Nat→Int×Int) (m:Nat),zsum g (m+1)=zadd (g 0) (zsum (fun t=>g (t+1)) m):=by
   intro g m
   induction m with
   | zero=>simp[zsum,zadd]
   | succ m ih =>
    rw[zsum,ih]
    simp only[zsum,zadd]
    ext<;>simp only<;>omega
  rw[head (fun t=>f (n+1-1-t)) n]
  simp only[zsum]
  rw[Qa f n]
  have e:zsum (fun t=>f (n+1-1-(t+1))) n=zsum (fun t=>f (n-1-t)) n:=rL (fun k hk=>by rw[show n+1-1-(k+1)=n-1-k by omega])
  rw[e,show n+1-1-0=n by omega]
  simp only[zadd]
  ext<;>simp only<;>omega
def lM(u:Int×Int):Prop:=u=(1,0)∨u=(0,1)∨u=(-1,0)∨u=(0,-1)
def zconj(u:Int×Int):Int×Int:=(u.1,-u.2)
def dvT(c x:List (Int×Int))(k j:Nat):Int×Int:=zmul (at0 x (k-1-j)) (at0 c (j+1))
def dvN(r c x:List (Int×Int))(k:Nat):Int×Int:=zmul (zsub (at0 r k) (zsum (dvT c x k) (min k (c.length-1)))) (zconj (at0 c 0))
def dvL(r c:List (Int×Int)):Nat→List (Int×Int)
 | 0=>[]
 | k+1=>dvL r c k++[dvN r c (dvL r c k) k]
def Bk(a b:Int×Int):Int×Int:=(IntKind.i64.wrap (IntKind.i64.wrap (a.1*b.1)-IntKind.i64.wrap (a.2*b.2)),IntKind.i64.wrap (IntKind.i64.wrap (a.1*b.2)+IntKind.i64.wrap (a.2*b.1)))
def Ur(a b:Int×Int):Int×Int:=(IntKind.i64.wrap (a.1-b.1),IntKind.i64.wrap (a.2-b.2))
def ziter(f:Nat→Int×Int)(z:Int×Int):Nat→Int×Int
 | 0=>z
 | n+1=>Ur (ziter f z n) (f n)
def dwN(r c x:List (Int×Int))(k:Nat):Int×Int:=Bk (ziter (fun t=>Bk (at0 x (k-min k (c.length-1)+t)) (at0 c (min k (c.length-1)-t))) (at0 r k) (min k (c.length-1))) (zconj (at0 c 0))
def dwL(r c:List (Int×Int)):Nat→List (Int×Int)
 | 0=>[]
 | k+1=>dwL r c k++[dwN r c (dwL r c k) k]
theorem Ce(r c:List (Int×Int)):∀ k,(dwL r c k).length=k
 | 0=>rfl
 | k+1=>by simp[dwL,Ce r c k]
theorem Wc{a b:Int×Int}(ha:small a)(hb:small b):Bk a b=zmul a b:=by
 have:=(Ef ha hb).1
 unfold bB at this
 exact Option.some.inj this
theorem Lv{f:Nat→Int×Int}{z:Int×Int}(hz:small z):∀ {n:Nat},n≤1024→(∀ t,t<n→zle 562949953421312 (f t))→ziter f z n=zsub z (zsum f n)
 | 0,_,_=>by simp[ziter,zsum,zsub]
 | n+1,hn,h=>by
  have ih:=Lv hz (f:=f) (n:=n) (by omega) (fun t ht=>h t (by omega))
  have b:=xQ (f:=f) (B:=562949953421312) (n:=n) (fun t ht=>h t (by omega))
  have b2:=h n (by omega)
  have h2:(n:Int)*562949953421312≤1024*562949953421312:=Int.mul_le_mul_of_nonneg_right (by omega) (by decide)
  simp only[ziter,zsum]
  rw[ih]
  unfold Ur zsub zadd
  unfold zle at b b2
  unfold small at hz
  simp only
  rw[w64 (by omega),w64 (by omega)]
  ext<;>simp only<;>omega
theorem El{u:Int×Int}(h:lM u):small u∧small (zconj u)∧zle 1 (zconj u):=by
 rcases h with rfl|rfl|rfl|rfl<;>refine⟨?_,?_,?_⟩<;>simp[small,zconj,zle]
theorem Sl{z u:Int×Int}(hz:zle 4611686018427387904 z)(hu:lM u):Bk z (zconj u)=zmul z (zconj u):=by
 unfold zle at hz
 unfold Bk zmul zconj
 rcases hu with rfl|rfl|rfl|rfl<;>simp only[Int.mul_one,Int.mul_zero,Int.mul_neg,Int.neg_zero,Int.neg_neg]
 ·rw[w64 (x:=z.1) (by omega),w64 (x:=(0:Int)) (by omega),w64 (x:=z.2) (by omega),w64 (by omega),w64 (by omega)]
 ·rw[w64 (x:=-z.2) (by omega),w64 (x:=(0:Int)) (by omega),w64 (x:=-z.1) (by omega),w64 (by omega),w64 (by omega)]
 ·rw[w64 (x:=-z.1) (by omega),w64 (x:=(0:Int)) (by omega),w64 (x:=-z.2) (by omega),w64 (by omega),w64 (by omega)]
 ·rw[w64 (x:=z.2) (by omega),w64 (x:=(0:Int)) (by omega),w64 (x:=z.1) (by omega),w64 (by omega),w64 (by omega)]
section
variable {r c:List (Int×Int)}
theorem Tp{x:List (Int×Int)}(hc:∀ z∈c,small z)(hx:∀ z∈x,small z)(lc:c.length≤1024)(k:Nat):zle 576460752303423488 (zsum (dvT c x k) (min k (c.length-1))):=by
 have b:=xQ (f:=dvT c x k) (B:=562949953421312) (n:=min k (c.length-1)) (fun t _=>Bz (cA hx _) (cA hc _))
 have h2:((min k (c.length-1):Nat):Int)*562949953421312≤1024*562949953421312:=Int.mul_le_mul_of_nonneg_right (by omega) (by decide)
 unfold zle at *
 omega
theorem Ul{x:List (Int×Int)}(hr:∀ z∈r,small z)(hc:∀ z∈c,small z)(hx:∀ z∈x,small z)(lc:c.length≤1024)(hu:lM (at0 c 0))(k:Nat):dwN r c x k=dvN r c x k:=by
 unfold dwN dvN
 have e:(fun t=>Bk (at0 x (k-min k (c.length-1)+t)) (at0 c (min k (c.length-1)-t)))=fun t=>zmul (at0 x (k-min k (c.length-1)+t)) (at0 c (min k (c.length-1)-t)):=by
  funext t
  exact Wc (cA hx _) (cA hc _)
 rw[e,Lv (cA hr k) (by omega) (fun t _=>Bz (cA hx _) (cA hc _))]
 have e2:zsum (fun t=>zmul (at0 x (k-min k (c.length-1)+t)) (at0 c (min k (c.length-1)-t))) (min k (c.length-1))=zsum (dvT c x k) (min k (c.length-1)):=by
  rw[Qa (dvT c x k)]
  refine rL (fun t ht=>?_)
  unfold dvT
  rw[show k-1-(min k (c.length-1)-1-t)=k-min k (c.length-1)+t by omega,show min k (c.length-1)-1-t+1=min k (c.length-1)-t by omega]
 rw[e2]
 have b:=Tp (k:=k) hc hx lc
 have b2:=cA hr k
 refine Sl ?_ hu
 unfold zle zsub small at *
 simp only
 omega
theorem Ys(hr:∀ z∈r,small z)(hc:∀ z∈c,small z)(lc:c.length≤1024)(hu:lM (at0 c 0)):∀ {k:Nat},(∀ z∈dvL r c k,small z)→dwL r c k=dvL r c k∧dwL r c (k+1)=dvL r c (k+1)
 | 0,h=>⟨rfl,by simp only[dwL,dvL];rw[Ul hr hc (fun z hz=>by simp at hz) lc hu]⟩
 | k+1,h=>by
  have h':∀ z∈dvL r c k,small z:=fun z hz=>h z (by simp only[dvL,List.mem_append];exact .inl hz)
  have ih:=Ys hr hc lc hu h'
  refine⟨ih.2,?_⟩
  show dwL r c (k+1)++[dwN r c (dwL r c (k+1)) (k+1)]=dvL r c (k+1)++[dvN r c (dvL r c (k+1)) (k+1)]
  rw[ih.2,Ul hr hc h lc hu]
theorem aBn(hc0:0<c.length∧c.length≤1024)(lr:r.length≤2048):run (eN c (at0 c 0).1 (-(at0 c 0).2) r) (([]:List (Int×Int)),0)=some (dwL r c r.length):=by
 have inner : ∀ k : Nat, k < r.length → run (eV c (dwL r c k) (k : Int)) ((at0 r k).1, (at0 r k).2, ((k - min k (c.length - 1) : Nat) : Int)) =
     some (ziter (fun t=>Bk (at0 (dwL r c k) (k-min k (c.length-1)+t)) (at0 c (min k (c.length-1)-t))) (at0 r k) (min k (c.length-1))):=by
  intro k hk
  let M:=min k (c.length-1)
  let f:=fun t=>Bk (at0 (dwL r c k) (k-M+t)) (at0 c (M-t))
  have key:=dD (step:=eV c (dwL r c k) (k:Int)) (st:=fun t (z:Int×Int)=>(z.1,z.2,((k-M+t:Nat):Int))) (g:=fun t z=>Ur z (f t)) (fin:=fun z=>z) M (fun t z=>z=ziter f (at0 r k) t) (b0:=at0 r k) rfl
   (fun t z ht hz=>by
    subst hz
    refine⟨?_,rfl⟩
    have h1:k-M+t<(dwL r c k).length:=by rw[Ce];omega
    have h2:M-t<c.length:=by omega
    unfold eV bB kJ
    simp only
    rw[if_pos (by rw[decide_eq_true_eq];omega),aE,cS h1]
    simp only[Option.bind_some]
    rw[w64 (x:=(k:Int)-((k-M+t:Nat):Int)) (by omega),show (k:Int)-((k-M+t:Nat):Int)=((M-t:Nat):Int) by omega,aE,cS h2]
    simp only[Option.bind_some]
    rw[wsucc (n:=4096) (by omega) (by decide)]
    rfl) (fun z hz=>by
    unfold eV
    simp only
    rw[if_neg (by rw[decide_eq_true_eq];omega)])
  have hI:=key.2 M (Nat.le_refl _)
  have hr:=key.1
  rw[hI] at hr
  exact hr
 have key:=dD (step:=eN c (at0 c 0).1 (-(at0 c 0).2) r) (st:=fun k (_:Unit)=>(dwL r c k,(k:Int))) (g:=fun _ x=>x) (fin:=fun _=>dwL r c r.length) r.length (fun _ _=>True) (b0:=()) trivial
  (fun k _ hk _=>⟨by
   unfold eN
   simp only
   rw[if_pos (by rw[decide_eq_true_eq];omega),aE,cS hk]
   simp only[Option.bind_some]
   have e:(if IntKind.i64.wrap (IntKind.i64.wrap ((k:Int)+1)-(c.length:Int))>0 then IntKind.i64.wrap (IntKind.i64.wrap ((k:Int)+1)-(c.length:Int)) else 0)=((k-min k (c.length-1):Nat):Int):=by
    rw[w64 (x:=(k:Int)+1) (by omega),w64 (by omega)]
    split<;>omega
   rw[e,inner k hk]
   simp only[Option.bind_some]
   unfold bB jD
   simp only[Option.bind_some]
   rw[if_pos (by rw[Ce];simp;omega),wsucc (n:=4096) (by omega) (by decide)]
   rfl,trivial⟩) (fun _ _=>by
   unfold eN
   simp only
   rw[if_neg (by rw[decide_eq_true_eq];omega)])
 have k1:=key.1
 simp only[Int.natCast_zero] at k1
 exact k1
end
end Go.Rex
namespace Go.Rex
open Go Go.Rex
set_option maxRecDepth 100000
instance (u:Int×Int):Decidable (lM u):=by unfold lM;exact inferInstance
theorem Ve{u:Int×Int}(hu:small u):(u.1*u.1+u.2*u.2=1)↔lM u:=by
 have e1:u.1*u.1=(u.1.natAbs:Int)*u.1.natAbs:=Int.natAbs_mul_self.symm
 have e2:u.2*u.2=(u.2.natAbs:Int)*u.2.natAbs:=Int.natAbs_mul_self.symm
 constructor
 ·intro h
  rw[e1,e2] at h
  have h1:u.1.natAbs≤1:=by
   rcases Nat.lt_or_ge 1 u.1.natAbs with g|g
   ·have:(2:Int)*2≤(u.1.natAbs:Int)*u.1.natAbs:=Int.mul_le_mul (by omega) (by omega) (by decide) (by omega)
    have:(0:Int)≤(u.2.natAbs:Int)*u.2.natAbs:=Int.mul_nonneg (by omega) (by omega)
    omega
   ·exact g
  have h2:u.2.natAbs≤1:=by
   rcases Nat.lt_or_ge 1 u.2.natAbs with g|g
   ·have:(2:Int)*2≤(u.2.natAbs:Int)*u.2.natAbs:=Int.mul_le_mul (by omega) (by omega) (by decide) (by omega)
    have:(0:Int)≤(u.1.natAbs:Int)*u.1.natAbs:=Int.mul_nonneg (by omega) (by omega)
    omega
   ·exact g
  obtain⟨a,b⟩:=u
  simp only at h h1 h2
  have ca:a=0∨a=1∨a = -1:=by omega
  have cb:b=0∨b=1∨b = -1:=by omega
  rcases ca with rfl|rfl|rfl<;>rcases cb with rfl|rfl|rfl<;>first|exact absurd h (by decide)|(unfold lM;decide)
 ·intro h
  rcases h with rfl|rfl|rfl|rfl<;>decide
theorem Pb{c:List (Nat×Nat)}(G:GoodL c):cW c=some (if lM (at0 (nums c) 0) then 0 else 15):=by
 have hle:=G.len
 have hv:=G.val c[0] (List.getElem_mem (by omega))
 have e0:at0 (nums c) 0=num c[0]:=by
  have h1:=cS (w:=nums c) (k:=0) (by rw[dE];omega)
  have h2:=Kl (l:=c) (k:=0) (by omega)
  rw[h1] at h2
  exact Option.some.inj h2
 have hg:bE c 0=some c[0]:=by
  have:=aE (xs:=c) (k:=0)
  simp only[Int.natCast_zero] at this
  rw[this,List.getElem?_eq_getElem (by omega)]
 rw[e0]
 unfold cW gQ cM aC aA
 rw[hg]
 simp only[Option.bind_some]
 rw[uW hv.1.1 hv.2.1,uW hv.1.2 hv.2.2]
 simp only[Option.bind_some]
 generalize num c[0]=u at *
 have hs:=hv.2
 have w1:IntKind.i64.wrap (0-u.2) = -u.2:=by have:=hs.2;rw[w64 (by omega)];omega
 have sc:small (zconj u):=by unfold small zconj at *;simp only;omega
 have t:=(Ef hs sc).1
 unfold zconj at t
 simp only at t
 rw[w1,t]
 simp only[Option.bind_some]
 have e1:(zmul u (u.1,-u.2))=(u.1*u.1+u.2*u.2,0):=by
  unfold zmul
  simp only[Int.mul_neg,Int.sub_neg]
  congr 1
  rw[Int.mul_comm u.2 u.1]
  omega
 rw[e1]
 have iff:=Ve hs
 by_cases q:lM u
 ·rw[if_pos q]
  have:=iff.2 q
  simp[this]
 ·rw[if_neg q]
  have:¬(u.1*u.1+u.2*u.2=1):=fun h=>q (iff.1 h)
  simp[this]
noncomputable def dvV(l c:List (Nat×Nat)):List (Nat×Nat)×Int:=if lE l≠0 then ([],lE l) else if lE c≠0 then ([],lE c) else if lM (at0 (nums c) 0) then rec (dvL (nums l) (nums c) l.length) else ([],15)
theorem Ts(r c:List (Int×Int)):∀ {k n:Nat},k≤n→∀ z∈dvL r c k,z∈dvL r c n:=by
 intro k n h
 induction h with
 | refl=>exact fun z hz=>hz
 | step h ih=>exact fun z hz=>by simp only[dvL,List.mem_append];exact .inl (ih z hz)
theorem Td(r c:List (Int×Int)):∀ {k n:Nat},k≤n→∀ z∈dwL r c k,z∈dwL r c n:=by
 intro k n h
 induction h with
 | refl=>exact fun z hz=>hz
 | step h ih=>exact fun z hz=>by simp only[dwL,List.mem_append];exact .inl (ih z hz)
theorem Lr(r c:List (Int×Int)):∀ n:Nat,(∀ z∈dvL r c n,small z)∨∃ k,k<n∧(∀ z∈dvL r c k,small z)∧¬ small (dvN r c (dvL r c k) k)
 | 0=>.inl (fun z hz=>by simp[dvL] at hz)
 | n+1=>by
  rcases Lr r c n with h|⟨k,h1,h2⟩
  ·by_cases q:small (dvN r c (dvL r c n) n)
   ·left
    intro z hz
    simp only[dvL,List.mem_append,List.mem_singleton] at hz
    rcases hz with hz|rfl
    ·exact h z hz
    ·exact q
   ·exact .inr ⟨n,by omega,h,q⟩
  ·exact .inr ⟨k,by omega,h2⟩
theorem aBG{r c:List (Int×Int)}(hr:∀ z∈r,small z)(hc:∀ z∈c,small z)(lc:c.length≤1024)(hu:lM (at0 c 0))(n:Nat):rec (dwL r c n)=rec (dvL r c n):=by
 rcases Lr r c n with h|⟨k,h1,h2,h3⟩
 ·rw[(Ys hr hc lc hu h).1]
 ·have e:=(Ys hr hc lc hu h2).2
  have m1:dvN r c (dvL r c k) k∈dvL r c n:=Ts r c (show k+1≤n by omega) _ (by simp[dvL])
  have m2:dvN r c (dvL r c k) k∈dwL r c n:=Td r c (show k+1≤n by omega) _ (by rw[e];simp[dvL])
  unfold rec
  rw[if_neg (fun h=>h3 (h _ m2)),if_neg (fun h=>h3 (h _ m1))]
theorem aCr(l c:List (Nat×Nat))(l3:List (Nat×Nat)):eM l c l3=(if lE l≠0 then some (lE l) else if lE c≠0 then some (lE c) else (cW l3).bind fun v7=>if (decide (v7≠0))=true then (some (v7)) else (some (0))):=by
 unfold eM
 rw[pC,pC]
 simp only[Option.bind_some]
 by_cases h1:lE l=0
 ·by_cases h2:lE c=0
  ·simp[h1,h2]
  ·simp[h1,h2]
 ·simp[h1]
theorem Jm(l c:List (Nat×Nat)):gE l c=some (dvV l c):=by
 unfold gE cK nM dvV
 simp only[Option.bind_some]
 rw[aCr]
 by_cases h1:lE l=0
 ·by_cases h2:lE c=0
  ·have G1:=qJ h1
   have G2:=qJ h2
   have g1:=G1.len
   have g2:=G2.len
   have n1:¬ lE l≠0:=by simpa using h1
   have n2:¬ lE c≠0:=by simpa using h2
   rw[if_neg n1,if_neg n2,if_neg n1,if_neg n2,Pb G2]
   simp only[Option.bind_some]
   by_cases hu:lM (at0 (nums c) 0)
   ·rw[if_pos hu,if_pos hu,if_neg (by decide)]
    simp only[Option.bind_some]
    rw[if_neg (by decide),nB G2]
    simp only[Option.bind_some]
    have hg:bE (nums c) 0=some (at0 (nums c) 0):=by
     have:=aE (xs:=nums c) (k:=0)
     simp only[Int.natCast_zero] at this
     rw[this,cS (by rw[dE];omega)]
    rw[hg]
    simp only[Option.bind_some]
    have us:=(El hu).1.2
    have w1:IntKind.i64.wrap (0-(at0 (nums c) 0).2) = -(at0 (nums c) 0).2:=by rw[w64 (by omega)];omega
    unfold cM
    simp only[Option.bind_some]
    rw[w1,nB G1]
    simp only[Option.bind_some]
    rw[aBn (by rw[dE];omega) (by rw[dE];omega)]
    simp only[Option.bind_some]
    rw[uK _ (by rw[Ce,dE];omega),dE,aBG (jG G1) (jG G2) (by rw[dE];omega) hu]
    rfl
   ·rw[if_neg hu,if_neg hu]
    rfl
  ·simp[h1,h2]
 ·simp[h1]
def qz(q:Nat):Int×Int:=if q%4=0 then (1,0) else if q%4=1 then (0,1) else if q%4=2 then (-1,0) else (0,-1)
end Go.Rex
namespace Go.Rex
def iG{α ε:Type}(P:α→Bool)(ex:Nat→α→ε)(en:ε):Nat→List α→ε
 | _,[]=>en
 | k,x::t=>if P x=true then ex k x else iG P ex en (k+1) t
theorem tT{α σ ε:Type}{step:σ→Option (σ ⊕ ε)}(st:Nat→σ)(P:α→Bool)(ex:Nat→α→ε)(en:ε) :
 ∀(xs ys:List α),(∀(k:Nat) x,(ys++xs)[k]?=some x→step (st k)=some (if P x=true then .inr (ex k x) else .inl (st (k+1))))→step (st (ys++xs).length)=some (.inr en)→run step (st ys.length)=some (iG P ex en ys.length xs)
 | [],ys,_,he=>by rw[List.append_nil] at he;exact mR he
 | x::t,ys,hs,he=>by
  have h1:=hs ys.length x (by simp)
  by_cases hp:P x=true
  ·rw[if_pos hp] at h1
   rw[mR h1,iG,if_pos hp]
  ·rw[if_neg hp] at h1
   rw[tL h1,iG,if_neg hp]
   have:=tT st P ex en t (ys++[x]) (fun k y hk=>hs k y (by simpa using hk)) (by simpa using he)
   simpa using this
theorem Gu{α σ ε:Type}{step:σ→Option (σ ⊕ ε)}(st:Nat→σ)(P:α→Bool)(ex:Nat→α→ε)(en:ε)(xs:List α)(hs:∀(k:Nat) x,xs[k]?=some x→step (st k)=some (if P x=true then .inr (ex k x) else .inl (st (k+1))))(he:step (st xs.length)=some (.inr en)){s:σ}(h0:s=st 0):run step s=some (iG P ex en 0 xs):=by
 subst h0
 exact tT st P ex en xs [] hs he
def fbit(L s:Nat)(ts:List Nat):Nat:=ts.foldl (fun a t=>(a+s/2^(L-t)%2)%2) 0
def nx(L:Nat)(ts:List Nat)(s:Nat):Nat:=s/2+fbit L s ts*2^(L-1)
structure Reg(L:Nat)(ts:List Nat):Prop where
 two:2≤L
 most:L≤8
 le:∀ t,t∈ts→1≤t∧t≤L
 last:∃ t',ts=t'++[L]∧∀ t,t∈t'→t<L
 len:ts.length≤12
theorem Dd(L s:Nat):∀(ts:List Nat) (a:Nat),a<2→ts.foldl (fun a t=>(a+s/2^(L-t)%2)%2) a<2
 | [],a,h=>h
 | t::ts,a,h=>Dd L s ts _ (Nat.mod_lt _ (by omega))
theorem nS(L s:Nat)(ts:List Nat):fbit L s ts<2:=Dd L s ts 0 (by omega)
theorem rC{L:Nat}(h:1≤L):2^L=2*2^(L-1):=by
 obtain⟨k,rfl⟩:∃ k,L=k+1:=⟨L-1,by omega⟩
 rw[Nat.add_sub_cancel,Nat.pow_succ]
 omega
theorem aAp{L:Nat}{ts:List Nat}{s:Nat}(hL:1≤L)(hs:s<2^L):nx L ts s<2^L:=by
 have h1:=nS L s ts
 have e:=rC hL
 unfold nx
 have h2:s/2<2^(L-1):=by omega
 have h3:fbit L s ts*2^(L-1)≤1*2^(L-1):=Nat.mul_le_mul_right _ (by omega)
 omega
theorem Be(L s s':Nat)(h:s/2=s'/2):∀(ts:List Nat) (a:Nat),(∀ t,t∈ts→t<L)→ts.foldl (fun a t=>(a+s/2^(L-t)%2)%2) a=ts.foldl (fun a t=>(a+s'/2^(L-t)%2)%2) a
 | [],a,_=>rfl
 | t::ts,a,ht=>by
  have h1:=ht t (by simp)
  obtain⟨j,hj⟩:∃ j,L-t=j+1:=⟨L-t-1,by omega⟩
  simp only[List.foldl_cons]
  have e:s/2^(L-t)=s'/2^(L-t):=by
   rw[hj,Nat.pow_succ',← Nat.div_div_eq_div_mul,← Nat.div_div_eq_div_mul,h]
  rw[e]
  exact Be L s s' h ts _ (fun t ht'=>ht t (by simp[ht']))
theorem Gt{L s:Nat}{ts t':List Nat}(h:ts=t'++[L]):fbit L s ts=(fbit L s t'+s%2)%2:=by
 subst h
 unfold fbit
 rw[List.foldl_append]
 simp
theorem Nx{L:Nat}{ts:List Nat}(hr:Reg L ts){s s':Nat}(hs:s<2^L)(hs':s'<2^L)(h:nx L ts s=nx L ts s'):s=s':=by
 obtain⟨t',e,hl⟩:=hr.last
 have h2:=hr.two
 have e2:=rC (L:=L) (by omega)
 unfold nx at h
 have b1:=nS L s ts
 have b2:=nS L s' ts
 have hp:=Nat.two_pow_pos (L-1)
 have hc:fbit L s ts=fbit L s' ts:=by
  rcases (show fbit L s ts=0∨fbit L s ts=1 by omega) with q|q<;>rcases (show fbit L s' ts=0∨fbit L s' ts=1 by omega) with q'|q'<;>rw[q,q'] at h ⊢<;>omega
 have hd:s/2=s'/2:=by rw[hc] at h;omega
 rw[Gt e,Gt e] at hc
 have:fbit L s t'=fbit L s' t':=Be L s s' hd t' 0 hl
 have l1:=nS L s t'
 rw[this] at hc
 have l2:=nS L s' t'
 omega
theorem Rs(L:Nat):∀ ts:List Nat,nx L ts 0=0:=by
 have:∀(ts:List Nat),fbit L 0 ts=0:=by
  intro ts
  unfold fbit
  induction ts with
  | nil=>rfl
  | cons t ts ih=>simpa using ih
 intro ts
 unfold nx
 rw[this ts]
 simp
theorem aAF{L:Nat}{ts:List Nat}(hr:Reg L ts){s:Nat}(h0:0<s)(hs:s<2^L):0<nx L ts s:=by
 rcases Nat.eq_zero_or_pos (nx L ts s) with h|h
 ·have:=Nx hr hs (Nat.two_pow_pos L) (by rw[h,Rs])
  omega
 ·exact h
def stt(L:Nat)(ts:List Nat)(s:Nat):Nat→Nat
 | 0=>s
 | t+1=>nx L ts (stt L ts s t)
theorem stt_succ'(L:Nat)(ts:List Nat)(s:Nat):∀ t,stt L ts s (t+1)=stt L ts (nx L ts s) t
 | 0=>rfl
 | t+1=>by
  show nx L ts (stt L ts s (t+1))=nx L ts (stt L ts (nx L ts s) t)
  rw[stt_succ' L ts s t]
theorem sM(L:Nat)(ts:List Nat)(s a:Nat):∀ b,stt L ts s (a+b)=stt L ts (stt L ts s a) b
 | 0=>rfl
 | b+1=>by
  show nx L ts (stt L ts s (a+b))=nx L ts (stt L ts (stt L ts s a) b)
  rw[sM L ts s a b]
section
variable {L:Nat} {ts:List Nat} {s:Nat}
theorem jK(hr:Reg L ts)(h0:0<s)(hs:s<2^L):∀ t,0<stt L ts s t∧stt L ts s t<2^L
 | 0=>⟨h0,hs⟩
 | t+1=>by
  obtain⟨a,b⟩:=jK hr h0 hs t
  exact⟨aAF hr a b,aAp (by have:=hr.two;omega) b⟩
def bt(L:Nat)(ts:List Nat)(s t:Nat):Nat:=stt L ts s t%2
theorem Xc(hr:Reg L ts){x:Nat}(hx:x<2^L){i:Nat}(hi:i+1<L):nx L ts x/2^i%2=x/2^(i+1)%2:=by
 unfold nx
 obtain⟨j,hj⟩:∃ j,L-1=i+(j+1):=⟨L-1-i-1,by omega⟩
 have e:fbit L x ts*2^(L-1)=2^i*(2*(fbit L x ts*2^j)):=by
  rw[hj,Nat.pow_add,Nat.pow_succ]
  simp only[Nat.mul_comm,Nat.mul_left_comm,Nat.mul_assoc]
 rw[e,Nat.add_mul_div_left _ _ (Nat.two_pow_pos i),Nat.add_mul_mod_self_left,Nat.div_div_eq_div_mul,Nat.pow_succ']
theorem aBm(hr:Reg L ts){x:Nat}(hx:x<2^L):nx L ts x/2^(L-1)%2=fbit L x ts:=by
 have h2:=hr.two
 have e2:=rC (L:=L) (by omega)
 unfold nx
 have h1:x/2<2^(L-1):=by omega
 rw[Nat.add_mul_div_right _ _ (Nat.two_pow_pos _),Nat.div_eq_of_lt h1,Nat.zero_add,Nat.mod_eq_of_lt (nS _ _ _)]
theorem window(hr:Reg L ts)(h0:0<s)(hs:s<2^L):∀(i t:Nat),i<L→stt L ts s t/2^i%2=bt L ts s (t+i)
 | 0,t,_=>by simp[bt]
 | i+1,t,hi=>by
  have h1:=window hr h0 hs i (t+1) (by omega)
  have h2:=Xc hr (jK hr h0 hs t).2 (i:=i) hi
  rw[show t+(i+1)=t+1+i by omega,← h1,← h2]
  rfl
theorem aA0(hr:Reg L ts)(h0:0<s)(hs:s<2^L)(t:Nat):bt L ts s (t+L)=ts.foldl (fun a p=>(a+bt L ts s (t+L-p))%2) 0:=by
 have h2:=hr.two
 have h1:=window hr h0 hs (L-1) (t+1) (by omega)
 rw[show t+1+(L-1)=t+L by omega] at h1
 rw[← h1]
 have h3:=aBm hr (jK hr h0 hs t).2
 have h4:stt L ts s (t+1)=nx L ts (stt L ts s t):=rfl
 rw[h4,h3]
 unfold fbit
 have key:∀(l:List Nat) (a:Nat),(∀ p,p∈l→1≤p∧p≤L)→l.foldl (fun a p=>(a+stt L ts s t/2^(L-p)%2)%2) a=l.foldl (fun a p=>(a+bt L ts s (t+L-p))%2) a:=by
  intro l
  induction l with
  | nil=>intro a _;rfl
  | cons p l ih =>
   intro a hl
   have hp:=hl p (by simp)
   simp only[List.foldl_cons]
   rw[window hr h0 hs (L-p) t (by omega),show t+(L-p)=t+L-p by omega]
   exact ih _ (fun q hq=>hl q (by simp[hq]))
 exact key ts 0 hr.le
theorem returns(hr:Reg L ts)(h0:0<s)(hs:s<2^L):∃ n,1≤n∧n≤2^L-1∧stt L ts s n=s:=by
 have hdup:∃ i j,i<j∧j≤2^L-1∧stt L ts s i=stt L ts s j:=by
  apply Classical.byContradiction
  intro hno
  have hnd:((List.range (2^L)).map (stt L ts s)).Nodup:=by
   rw[List.nodup_iff_pairwise_ne,List.pairwise_map]
   refine List.Pairwise.imp_of_mem ?_ List.pairwise_lt_range
   intro a b ha hb hlt he
   exact hno ⟨a,b,hlt,by have:=List.mem_range.1 hb;omega,he⟩
  have hsub:((List.range (2^L)).map (stt L ts s))⊆(List.range (2^L-1)).map (· + 1):=by
   intro x hx
   obtain⟨t,_,rfl⟩:=List.mem_map.1 hx
   obtain⟨a,b⟩:=jK hr h0 hs t
   exact List.mem_map.2 ⟨stt L ts s t-1,List.mem_range.2 (by omega),by omega⟩
  have:=hnd.length_le_of_subset hsub
  simp at this
  have:=Nat.two_pow_pos L
  omega
 obtain⟨i,j,hij,hj,he⟩:=hdup
 have back:∀(i k:Nat),stt L ts s i=stt L ts s (i+k)→s=stt L ts s k:=by
  intro i
  induction i with
  | zero=>intro k h;simpa [stt] using h
  | succ i ih =>
   intro k h
   rw[show i+1+k=(i+k)+1 by omega] at h
   exact ih k (Nx hr (jK hr h0 hs i).2 (jK hr h0 hs (i+k)).2 h)
 refine⟨j-i,by omega,by omega,?_⟩
 exact (back i (j-i) (by rw[he];congr 1;omega)).symm
theorem least{P:Nat→Prop}(h:∃ n,P n):∃ n,P n∧∀ m,m<n→¬ P m:=by
 obtain⟨n,hn⟩:=h
 induction n using Nat.strongRecOn with
 | _ n ih =>
  by_cases hx:∃ m,m<n∧P m
  ·obtain⟨m,hm,hp⟩:=hx
   exact ih m hm hp
  ·exact⟨n,hn,fun m hm hp=>hx ⟨m,hm,hp⟩⟩
def wL(L:Nat)(ts:List Nat)(s n:Nat):Prop:=(1≤n∧stt L ts s n=s)∧∀ m,m<n→¬(1≤m∧stt L ts s m=s)
theorem Pl(hr:Reg L ts)(h0:0<s)(hs:s<2^L):∃ n,wL L ts s n∧n≤2^L-1:=by
 obtain⟨n,h1,h2,h3⟩:=returns hr h0 hs
 obtain⟨m,hm,hl⟩:=least (P:=fun n=>1≤n∧stt L ts s n=s) ⟨n,h1,h3⟩
 refine⟨m,⟨hm,hl⟩,?_⟩
 rcases Nat.lt_or_ge n m with h|h
 ·exact absurd ⟨h1,h3⟩ (hl n h)
 ·omega
end
theorem w64n{x:Nat}(h:x<9223372036854775808):IntKind.i64.wrap (x:Int)=x:=w64 (by omega)
theorem Mq{v:Nat}(h:v<2^62):wZ .and .i64 (v:Int) 1=((v%2:Nat):Int):=by
 show IntKind.i64.wrap (((BitVec.ofInt 64 (v:Int) &&& BitVec.ofInt 64 1).toNat:Nat):Int)=_
 have:(BitVec.ofInt 64 (v:Int) &&& BitVec.ofInt 64 1).toNat=v%2:=by
  rw[BitVec.ofInt_natCast,BitVec.toNat_and,BitVec.toNat_ofNat,Nat.mod_eq_of_lt (by omega)]
  show v &&& 1=_
  exact Nat.and_one_is_mod v
 rw[this,w64n (by omega)]
theorem Sj{a b:Nat}(ha:a<2)(hb:b<2):wZ .xor .i64 (a:Int) (b:Int)=(((a+b)%2:Nat):Int):=by
 rcases (show a=0∨a=1 by omega) with rfl|rfl<;>rcases (show b=0∨b=1 by omega) with rfl|rfl<;>decide
theorem Ss{a i c:Nat}(ha:a<2^i)(hc:c<2)(hi:i≤60):wZ .or .i64 (a:Int) ((c*2^i:Nat):Int)=((a+c*2^i:Nat):Int):=by
 have hp:2^i≤2^60:=Nat.pow_le_pow_right (by omega) hi
 have hcm:c*2^i≤1*2^i:=Nat.mul_le_mul_right _ (by omega)
 show IntKind.i64.wrap (((BitVec.ofInt 64 (a:Int) ||| BitVec.ofInt 64 ((c*2^i:Nat):Int)).toNat:Nat):Int)=_
 have:(BitVec.ofInt 64 (a:Int) ||| BitVec.ofInt 64 ((c*2^i:Nat):Int)).toNat=a+c*2^i:=by
  rw[BitVec.ofInt_natCast,BitVec.ofInt_natCast,BitVec.toNat_or,BitVec.toNat_ofNat,BitVec.toNat_ofNat,Nat.mod_eq_of_lt (by omega),Nat.mod_eq_of_lt (by omega),Nat.or_comm,Nat.mul_comm c,← Nat.two_pow_add_eq_or_of_lt ha c,Nat.add_comm]
 rw[this,w64n (by omega)]
theorem Xj{v k:Nat}{n:Int}(hk:k≤60)(hn:n=(k:Int)):shI .shr .i64 (v:Int) n=some ((v/2^k:Nat):Int):=by
 subst hn
 unfold shI
 rw[if_neg (by omega)]
 simp only
 have:min (k:Int).toNat IntKind.i64.bits=k:=by
  have:IntKind.i64.bits=64:=rfl
  omega
 rw[this,Int.fdiv_eq_ediv_of_nonneg _ (Int.pow_nonneg (by omega))]
 congr 1
theorem Wl{v k:Nat}{n:Int}(hk:k≤60)(hv:v<2)(hn:n=(k:Int)):shI .shl .i64 (v:Int) n=some ((v*2^k:Nat):Int):=by
 subst hn
 unfold shI
 rw[if_neg (by omega)]
 simp only
 have:min (k:Int).toNat IntKind.i64.bits=k:=by
  have:IntKind.i64.bits=64:=rfl
  omega
 have hp:2^k≤2^60:=Nat.pow_le_pow_right (by omega) hk
 have hcm:v*2^k≤1*2^k:=Nat.mul_le_mul_right _ (by omega)
 have e:(v:Int)*2^k=((v*2^k:Nat):Int):=by simp
 rw[this,e,w64n (by omega)]
end Go.Rex
namespace Go.Rex
abbrev ints(l:List Nat):List Int:=l.map (fun (t:Nat)=>(t:Int))
section
variable {L:Nat} {ts:List Nat} {s:Nat}
theorem zL{α:Type}{l:List α}{k:Nat}{x:α}(h:l[k]?=some x):l.take (k+1)=l.take k++[x]:=by
 rw[List.take_add_one,h];rfl
theorem Rl(hr:Reg L ts)(hs:s<2^L):dK L (ints ts) s=some ((nx L ts s:Nat):Int):=by
 have h2:=hr.two
 have h8:=hr.most
 have hb:s<2^62:=Nat.lt_of_lt_of_le hs (Nat.pow_le_pow_right (by omega) (by omega))
 unfold dK
 have hrun:=jW (step:=cB L (ints ts) s) (e:=((fbit L s ts:Nat):Int)) (fun k=>((((ts.take k).foldl (fun a t=>(a+s/2^(L-t)%2)%2) 0:Nat):Int),(k:Int))) (n:=ts.length) (fun k hk=>?_) ?_
 ·rw[show ((0:Int),(0:Int))=((((ts.take 0).foldl (fun a t=>(a+s/2^(L-t)%2)%2) 0:Nat):Int),((0:Nat):Int)) from rfl,hrun,Option.bind_some,Xj (k:=1) (n:=1) (by omega) rfl,Option.bind_some]
  have hw:IntKind.i64.wrap ((L:Int)-1)=((L-1:Nat):Int):=by rw[w64 (by omega)];omega
  rw[Wl (k:=L-1) (by omega) (nS L s ts) hw,Option.bind_some]
  have hp:=rC (L:=L) (by omega)
  have:=Ss (a:=s/2^1) (i:=L-1) (c:=fbit L s ts) (by omega) (nS L s ts) (by omega)
  rw[this]
  rfl
 ·obtain⟨t,ht⟩:∃ t,ts[k]?=some t:=⟨_,List.getElem?_eq_getElem hk⟩
  have htm:=hr.le t (List.mem_of_getElem? ht)
  dsimp only[cB]
  rw[if_pos (by simpa using hk),aE,List.getElem?_map,ht,Option.map_some,Option.bind_some]
  have hw:IntKind.i64.wrap ((L:Int)-(t:Int))=((L-t:Nat):Int):=by rw[w64 (by omega)];omega
  rw[Xj (k:=L-t) (by omega) hw,Option.bind_some,zL ht,List.foldl_append]
  rw[Mq (Nat.lt_of_le_of_lt (Nat.div_le_self _ _) hb),Sj (Dd L s (ts.take k) 0 (by omega)) (Nat.mod_lt _ (by omega))]
  rw[w64 (x:=(k:Int)+1) (by have:=hr.len;omega)]
  rfl
 ·dsimp only[cB]
  rw[if_neg (by simp),List.take_length]
  rfl
theorem Fq(hr:Reg L ts)(h0:0<s)(hs:s<2^L){σ ε:Type}{step:Int→σ→Option (σ ⊕ ε)}(y:Nat→σ){n:Nat}{z:ε}(h:∀ k,k<n→step ((stt L ts s k:Nat):Int) (y k)=some (.inl (y (k+1))))(hn:step ((stt L ts s n:Nat):Int) (y n)=some (.inr z)) :
 aJ s L (ints ts) (hand step) (.inl (y 0))=some (.inr z):=by
 unfold aJ
 have hrun:=jW (step:=aR (hand step) L (ints ts)) (e:=.inr z) (fun k=>((((stt L ts s k:Nat):Int)),(Sum.inl (y k):σ ⊕ ε))) (n:=n) (fun k hk=>?_) ?_
 ·rw[show (((s:Nat):Int),(Sum.inl (y 0):σ ⊕ ε))=((((stt L ts s 0:Nat):Int)),(Sum.inl (y 0):σ ⊕ ε)) from rfl,hrun]
  rfl
 ·dsimp only[aR]
  simp only[hand,h k hk,Option.map_some,Option.bind_some,if_true]
  rw[Rl hr (jK hr h0 hs k).2]
  rfl
 ·dsimp only[aR]
  simp only[hand,hn,Option.map_some,Option.bind_some,Bool.false_eq_true,if_false]
def btl(L:Nat)(ts:List Nat)(s n:Nat):List Int:=(List.range n).map fun t=>((bt L ts s t:Nat):Int)
theorem Es(L:Nat)(ts:List Nat)(s n:Nat):btl L ts s (n+1)=btl L ts s n++[((bt L ts s n:Nat):Int)]:=by
 unfold btl
 rw[List.range_succ,List.map_append]
 rfl
theorem oS(L:Nat)(ts:List Nat)(s n:Nat):(btl L ts s n).length=n:=by simp[btl]
theorem Gb(a:Int)(b:List Int)(c:Int):eC a b c=some (c,a,b):=rfl
theorem Tg(hr:Reg L ts)(h0:0<s)(hs:s<2^L){n:Nat}(hp:wL L ts s n)(hn:n≤2^L-1):dU L (ints ts) s=some (n:Int):=by
 obtain⟨⟨h1,h2⟩,h3⟩:=hp
 have h8:=hr.most
 have hL:2^L≤2^8:=Nat.pow_le_pow_right (by omega) h8
 unfold dU
 rw[Rl hr hs,Option.bind_some,Gb,Option.bind_some]
 dsimp only
 have hx:=jK hr h0 hs 1
 obtain⟨m,rfl⟩:∃ m,n=m+1:=⟨n-1,by omega⟩
 have:=Fq hr (s:=nx L ts s) hx.1 hx.2 (step:=cP s) (fun k=>((k+1:Nat):Int)) (n:=m) (z:=((m+1:Nat):Int)) (fun k hk=>?_) ?_
 ·rw[show (1:Int)=(((0+1:Nat):Nat):Int) from rfl]
  rw[this]
  rfl
 ·dsimp only[cP]
  rw[← stt_succ']
  have:=h3 (k+1) (by omega)
  rw[if_neg (by simp only[decide_eq_true_eq];intro e;exact this ⟨by omega,by omega⟩),w64 (by omega)]
  congr 2
 ·dsimp only[cP]
  rw[← stt_succ',h2,if_pos (by simp)]
end
end Go.Rex
namespace Go.Rex
theorem zN(x a b:Int):aN x a b=some (decide (a≤x∧x≤b)):=by
 unfold aN
 by_cases h:a≤x<;>simp[h]
theorem xC(x a b:Int):dW x a b=some (!decide (a≤x∧x≤b),2):=by
 unfold dW aC
 by_cases h:x<a
 ·rw[if_pos (by simpa using h)]
  have:¬(a≤x∧x≤b):=by omega
  simp[this]
 ·rw[if_neg (by simpa using h)]
  by_cases h2:x≤b
  ·have h3:a≤x∧x≤b:=by omega
   have h4:¬ x>b:=by omega
   simp[h3,h4]
  ·have h3:¬(a≤x∧x≤b):=by omega
   have h4:x>b:=by omega
   simp only[h3,h4,decide_true,decide_false,Bool.not_false,Option.bind_some]
theorem rM(b:Bool)(e:Int):aC b e=some (b,e):=rfl
theorem kV(b:Bool)(e:Int):aA b e=some (if b=true then e else 0):=by
 unfold aA;cases b<;>rfl
theorem Zq(l:List Int)(h:l.length≤2000):lK l=some l:=by
 unfold lK jD
 rw[if_pos ⟨by simp;omega,by simp;omega⟩]
 rfl
theorem Yg(a:Int)(l:List Int)(h:l.length≤2000):jN a l=some (a,l):=by
 unfold jN
 rw[Zq l h]
 rfl
def gk(L:Int)(l:List Int)(k:Nat):Int:=
 if 1≤l.getD k 0∧l.getD k 0≤L then (if 0<k∧l.getD k 0≤l.getD (k-1) 0 then 9 else 0) else 2
def zP(L:Int)(l:List Int):Int:=iG (fun k=>decide (gk L l k≠0)) (fun _ k=>gk L l k) 0 0 (List.range l.length)
def chk(L:Int)(l:List Int):Int:=
 if ¬(2≤L∧L≤8) then 2 else if l.length=0 then 10 else if zP L l≠0 then zP L l else if l.getD (l.length-1) 0≠L then 6 else 0
theorem qQ{l:List Int}{k:Nat}(h:k<l.length):l[k]?=some (l.getD k 0):=by
 rw[List.getD_eq_getElem?_getD,List.getElem?_eq_getElem h];rfl
theorem Db{L:Int}{l:List Int}(h:zP L l=0):∀ k,k<l.length→gk L l k=0:=by
 have key:∀(xs:List Nat) (j:Nat),iG (fun k=>decide (gk L l k≠0)) (fun _ k=>gk L l k) 0 j xs=0→∀ k,k∈xs→gk L l k=0:=by
  intro xs
  induction xs with
  | nil=>intro j _ k hk;cases hk
  | cons x t ih =>
   intro j hj k hk
   unfold iG at hj
   by_cases hx:gk L l x=0
   ·rw[if_neg (by simpa using hx)] at hj
    rcases List.mem_cons.1 hk with rfl|hk
    ·exact hx
    ·exact ih _ hj k hk
   ·rw[if_pos (by simpa using hx)] at hj
    exact absurd hj hx
 intro k hk
 exact key _ 0 h k (List.mem_range.2 hk)
theorem Jz{L:Int}{l:List Int}{k:Nat}(h:gk L l k=0):1≤l.getD k 0∧l.getD k 0≤L∧(0<k→l.getD (k-1) 0<l.getD k 0):=by
 unfold gk at h
 split at h
 ·rename_i h1
  split at h
  ·cases h
  ·rename_i h2
   exact⟨h1.1,h1.2,fun hk=>by omega⟩
 ·cases h
theorem Rz{ε:Type}{step:Int→Option (Int ⊕ ε)}{L:Int}{l:List Int}(inj:Int→ε)(en:ε)(hl:l.length≤2000)(hs:∀ k:Nat,k<l.length→step (k:Int)=some (if gk L l k≠0 then .inr (inj (gk L l k)) else .inl ((k+1:Nat):Int)))(he:step (l.length:Int)=some (.inr en)) :
 ∃ z,run step 0=some z∧((zP L l=0∧z=en)∨(zP L l≠0∧z=inj (zP L l))):=by
 have hrun:=Gu (step:=step) (fun k:Nat=>(k:Int)) (fun k=>decide (gk L l k≠0)) (fun _ k=>inj (gk L l k)) en (List.range l.length) (fun k x hx=>by
  obtain⟨h1,h2⟩:=List.getElem?_eq_some_iff.1 hx
  rw[List.getElem_range] at h2
  subst h2
  rw[hs k (by simpa using h1)]
  by_cases q:gk L l k=0<;>simp[q]) (by simpa using he) (s:=0) rfl
 refine⟨_,hrun,?_⟩
 have key : ∀ (xs : List Nat) (j : Nat), (iG (fun k => decide (gk L l k ≠ 0)) (fun _ k => gk L l k) 0 j xs = 0 ∧ iG (fun k => decide (gk L l k ≠ 0)) (fun _ k => inj (gk L l k)) en j xs = en) ∨
     (iG (fun k=>decide (gk L l k≠0)) (fun _ k=>gk L l k) 0 j xs≠0∧iG (fun k=>decide (gk L l k≠0)) (fun _ k=>inj (gk L l k)) en j xs=inj (iG (fun k=>decide (gk L l k≠0)) (fun _ k=>gk L l k) 0 j xs)):=by
  intro xs
  induction xs with
  | nil=>intro j;exact .inl ⟨rfl,rfl⟩
  | cons x t ih =>
   intro j
   unfold iG
   by_cases hx:gk L l x=0
   ·rw[if_neg (by simpa using hx),if_neg (by simpa using hx)]
    exact ih (j+1)
   ·rw[if_pos (by simpa using hx),if_pos (by simpa using hx)]
    exact .inr ⟨hx,rfl⟩
 exact key _ 0
theorem aBP{L:Int}{l:List Int}{k:Nat}(q:¬(1≤l.getD k 0∧l.getD k 0≤L)):gk L l k=2:=by unfold gk;rw[if_neg q]
theorem aBK{L:Int}{l:List Int}{k:Nat}(q:1≤l.getD k 0∧l.getD k 0≤L)(q2:0<k)(q3:l.getD k 0≤l.getD (k-1) 0):gk L l k=9:=by unfold gk;rw[if_pos q,if_pos ⟨q2,q3⟩]
theorem Zv{L:Int}{l:List Int}{k:Nat}(q:1≤l.getD k 0∧l.getD k 0≤L)(q3:0<k→¬ l.getD k 0≤l.getD (k-1) 0):gk L l k=0:=by unfold gk;rw[if_pos q,if_neg (fun h=>q3 h.1 h.2)]
theorem Qu(L:Int)(l:List Int)(hl:l.length≤12):fY L l=some (chk L l):=by
 unfold fY chk
 rw[zN,Option.bind_some]
 by_cases h1:2≤L∧L≤8
 ·rw[if_pos (c:=decide (2≤L∧L≤8)=true) (by simpa using h1),if_neg (c:=¬(2≤L∧L≤8)) (fun h=>h h1)]
  by_cases h2:l.length=0
  ·rw[if_pos (c:=decide ((l.length:Int)=0)=true) (by simpa using h2),if_pos (c:=l.length=0) h2]
  ·rw[if_neg (c:=decide ((l.length:Int)=0)=true) (by simpa using h2),if_neg (c:=l.length=0) h2]
   obtain⟨z,hz,hc⟩:=Rz (step:=cL L l) (L:=L) (l:=l) .inl (.inr ()) (by omega) (fun k hk=>by
    dsimp only[cL]
    rw[if_pos (c:=decide ((k:Int)<(l.length:Int))=true) (by simpa using hk),aE,qQ hk,Option.bind_some,zN,Option.bind_some]
    by_cases q:1≤l.getD k 0∧l.getD k 0≤L
    ·rw[if_pos (c:=decide (1≤l.getD k 0∧l.getD k 0≤L)=true) (by simpa using q)]
     by_cases q2:0<k
     ·rw[if_pos (c:=decide ((k:Int)>0)=true) (by simpa using q2),yJ (k:=k-1) (by rw[w64 (by omega)];omega),qQ (by omega),Option.bind_some]
      by_cases q3:l.getD k 0≤l.getD (k-1) 0
      ·rw[if_pos (c:=decide (l.getD k 0≤l.getD (k-1) 0)=true) (by simpa using q3),aBK q q2 q3];rfl
      ·rw[if_neg (c:=decide (l.getD k 0≤l.getD (k-1) 0)=true) (by simpa using q3),Zv q (fun _=>q3),w64 (by omega)];rfl
     ·rw[if_neg (c:=decide ((k:Int)>0)=true) (by simpa using q2),Zv q (fun h=>absurd h q2),w64 (by omega)];rfl
    ·rw[if_neg (c:=decide (1≤l.getD k 0∧l.getD k 0≤L)=true) (by simpa using q),aBP q];rfl) (by
    dsimp only[cL]
    rw[if_neg (by simp)])
   rw[hz,Option.bind_some]
   rcases hc with⟨h3,rfl⟩|⟨h3,rfl⟩
   ·rw[if_neg (c:=zP L l≠0) (fun h=>h h3)]
    dsimp only
    rw[yJ (k:=l.length-1) (by rw[w64 (by omega)];omega),qQ (by omega),Option.bind_some]
    by_cases q:l.getD (l.length-1) 0=L<;>simp only[q,ne_eq,not_true_eq_false,not_false_eq_true,decide_true,decide_false,if_true,if_false,Bool.false_eq_true]
   ·rw[if_pos (c:=zP L l≠0) h3]
 ·rw[if_neg (c:=decide (2≤L∧L≤8)=true) (by simpa using h1),if_pos (c:=¬(2≤L∧L≤8)) h1]
theorem Ng(l:List Int)(x:Int)(hl:l.length≤2000):dH l x=some (l.any fun y=>decide (x=y)):=by
 unfold dH iL
 have hrun:=Gu (step:=cC l x) (fun k:Nat=>(k:Int)) (fun y=>decide (x=y)) (fun k _=>.inl (k:Int)) (.inr ()) l (fun k y hy=>by
  have h1:=(List.getElem?_eq_some_iff.1 hy).1
  dsimp only[cC]
  rw[if_pos (by simpa using h1),aE,hy,Option.bind_some]
  by_cases q:x=y
  ·rw[if_pos (by simpa using q),if_pos (by simpa using q)]
  ·rw[if_neg (by simpa using q),if_neg (by simpa using q),w64 (by omega)];rfl) (by
  dsimp only[cC]
  rw[if_neg (by simp)]) (s:=0) rfl
 rw[hrun,Option.bind_some]
 have key:∀(xs:List Int) (j:Nat),∃ v:Int,(match (iG (fun y=>decide (x=y)) (fun k _=>(.inl (k:Int):Int ⊕ Unit)) (.inr ()) j xs) with|.inl v11=>some v11|.inr _=>some (-1))=some v∧decide (v≥0)=xs.any fun y=>decide (x=y):=by
  intro xs
  induction xs with
  | nil=>intro j;exact⟨-1,rfl,rfl⟩
  | cons y t ih =>
   intro j
   unfold iG
   by_cases q:x=y
   ·rw[if_pos (by simpa using q)];exact⟨j,rfl,by simp[q]⟩
   ·rw[if_neg (by simpa using q)]
    obtain⟨v,h1,h2⟩:=ih (j+1)
    exact⟨v,h1,by rw[h2];simp[q]⟩
 obtain⟨v,h1,h2⟩:=key l 0
 rw[← h2]
 generalize iG (fun y=>decide (x=y)) (fun k _=>(Sum.inl (k:Int):Int ⊕ Unit)) (Sum.inr ()) 0 l=z at *
 rcases z with z|z
 ·obtain rfl:=Option.some.inj h1;rfl
 ·obtain rfl:=Option.some.inj h1;rfl
theorem Lx{L:Int}{l:List Int}(h:zP L l=0){j:Nat}(hj:j<l.length):∀ i,i<j→l.getD i 0<l.getD j 0:=by
 induction j with
 | zero=>intro i hi;omega
 | succ j ih =>
  intro i hi
  have h1:=(Jz (Db h (j+1) hj)).2.2 (by omega)
  rw[Nat.add_sub_cancel] at h1
  rcases Nat.lt_or_ge i j with q|q
  ·have:=ih (by omega) i q;omega
  ·obtain rfl:i=j:=by omega
   exact h1
theorem Ye{L:Int}{l:List Int}(h:zP L l=0)(hn:l.length≠0):(l.any fun y=>decide (L=y))=decide (l.getD (l.length-1) 0=L):=by
 rw[Bool.eq_iff_iff,List.any_eq_true,decide_eq_true_eq]
 constructor
 ·rintro⟨y,hy,he⟩
  have he':L=y:=by simpa using he
  obtain⟨j,hj⟩:=List.mem_iff_getElem?.1 hy
  have hjl:=(List.getElem?_eq_some_iff.1 hj).1
  have hd:l.getD j 0=L:=by rw[List.getD_eq_getElem?_getD,hj];exact he'.symm
  rcases Nat.lt_or_ge j (l.length-1) with q|q
  ·have h1:=Lx h (j:=l.length-1) (by omega) j q
   have h2:=(Jz (Db h (l.length-1) (by omega))).2.1
   omega
  ·have:l.length-1=j:=by omega
   rw[this];exact hd
 ·intro he
  exact⟨l.getD (l.length-1) 0,List.mem_of_getElem? (qQ (by omega)),by simpa using he.symm⟩
theorem Zf(L:Int)(l:List Int)(hl:l.length≤12):fX L l=some (chk L l):=by
 unfold fX lP lN
 simp only[xC,rM,Option.bind_some,Ng l L (show l.length≤2000 by omega)]
 unfold gZ chk
 rw[kV,Option.bind_some]
 by_cases h1:2≤L∧L≤8
 ·rw[if_neg (c:=¬(2≤L∧L≤8)) (by simpa using h1)]
  rw[show decide (2≤L∧L≤8)=true by simpa using h1]
  simp only[Bool.not_true,Bool.false_eq_true,if_false,ne_eq,not_true_eq_false,decide_false,kV,Option.bind_some]
  by_cases h2:l.length=0
  ·rw[if_pos h2]
   have:(l.length:Int)=0:=by omega
   simp[this]
  ·have h2':¬(l.length:Int)=0:=by omega
   rw[if_neg h2]
   simp only[h2',decide_false,Bool.false_eq_true,if_false,not_true_eq_false]
   unfold jJ
   obtain⟨z,hz,hc⟩:=Rz (step:=cZ l.length l 1 L) (L:=L) (l:=l) .inl (.inr ()) (by omega) (fun k hk=>by
    dsimp only[cZ]
    rw[if_pos (by simpa using hk)]
    have hasc:dG k l 1 L=some (gk L l k):=by
     unfold dG aL
     rw[aE,qQ hk,Option.bind_some,xC,Option.bind_some]
     dsimp only
     by_cases q:1≤l.getD k 0∧l.getD k 0≤L
     ·rw[show decide (1≤l.getD k 0∧l.getD k 0≤L)=true by simpa using q]
      by_cases q2:0<k
      ·rw[if_pos (by simpa using q2),yJ (k:=k-1) (by rw[w64 (by omega)];omega),qQ (by omega),Option.bind_some,rM,Option.bind_some]
       dsimp only
       simp only[kV,Option.bind_some,Bool.not_true,Bool.false_eq_true,if_false,ne_eq,not_true_eq_false,decide_false]
       by_cases q3:l.getD k 0≤l.getD (k-1) 0
       ·rw[aBK q q2 q3];simp only[q3,decide_true,if_true];rfl
       ·rw[Zv q (fun _=>q3)];simp only[q3,decide_false,Bool.false_eq_true,if_false];rfl
      ·rw[if_neg (by simpa using q2),Zv q (fun h=>absurd h q2),rM,Option.bind_some]
       dsimp only
       simp only[kV,Option.bind_some,Bool.not_true,Bool.false_eq_true,if_false,ne_eq,not_true_eq_false,decide_false]
     ·rw[aBP q,show decide (1≤l.getD k 0∧l.getD k 0≤L)=false by simpa using q]
      by_cases q2:0<k
      ·rw[if_pos (by simpa using q2),yJ (k:=k-1) (by rw[w64 (by omega)];omega),qQ (by omega),Option.bind_some,rM,Option.bind_some]
       dsimp only
       simp only[kV,Option.bind_some,Bool.not_false,if_true];rfl
      ·rw[if_neg (by simpa using q2),rM,Option.bind_some]
       dsimp only
       simp only[kV,Option.bind_some,Bool.not_false,if_true];rfl
    rw[hasc,Option.bind_some]
    by_cases q:gk L l k=0
    ·rw[if_neg (by simpa using q),if_neg (by simpa using q),w64 (by omega)];rfl
    ·rw[if_pos (by simpa using q),if_pos q]) (by
    dsimp only[cZ]
    rw[if_neg (by simp)])
   rw[hz,Option.bind_some]
   rcases hc with⟨h3,rfl⟩|⟨h3,rfl⟩
   ·rw[Ye h3 h2,if_neg (c:=¬ zP L l=0) (fun h=>h h3)]
    dsimp only[Option.bind_some]
    by_cases q:l.getD (l.length-1) 0=L<;>simp only[q,decide_true,decide_false,Bool.not_true,Bool.not_false,if_true,if_false,Bool.false_eq_true,ne_eq,not_true_eq_false,not_false_eq_true,Option.bind_some,kV]<;>rfl
   ·rw[if_pos (c:=¬ zP L l=0) h3]
    dsimp only[Option.bind_some]
    simp only[h3,not_false_eq_true,decide_true,if_true,Option.bind_some]
 ·rw[if_pos (c:=¬(2≤L∧L≤8)) h1,show decide (2≤L∧L≤8)=false by simpa using h1]
  simp
theorem aBv{L:Int}{l:List Int}(hl:l.length≤12)(h:chk L l=0):∃(n:Nat) (ts:List Nat),L=n∧l=ints ts∧Reg n ts:=by
 unfold chk at h
 split at h
 ·cases h
 rename_i h1
 split at h
 ·cases h
 rename_i h2
 split at h
 ·rename_i h3;exact absurd h h3
 rename_i h3
 split at h
 ·cases h
 rename_i h4
 have h1':2≤L∧L≤8:=Classical.not_not.1 h1
 have h3':zP L l=0:=Classical.not_not.1 h3
 have h4':l.getD (l.length-1) 0=L:=Classical.not_not.1 h4
 have hpos:∀ x,x∈l→1≤x∧x≤L:=fun x hx=>by
  obtain⟨j,hj⟩:=List.mem_iff_getElem?.1 hx
  have hjl:=(List.getElem?_eq_some_iff.1 hj).1
  have:=Jz (Db h3' j hjl)
  have hd:l.getD j 0=x:=by rw[List.getD_eq_getElem?_getD,hj];rfl
  rw[hd] at this
  exact⟨this.1,this.2.1⟩
 have he:l=ints (l.map Int.toNat):=by
  unfold ints
  rw[List.map_map]
  conv=>lhs;rw[← List.map_id l]
  apply List.map_congr_left
  intro x hx
  have:=hpos x hx
  simp;omega
 refine⟨L.toNat,l.map Int.toNat,by omega,he,⟨by omega,by omega,fun t ht=>?_,?_,by simpa using hl⟩⟩
 ·obtain⟨x,hx,rfl⟩:=List.mem_map.1 ht
  have:=hpos x hx
  omega
 ·refine⟨(l.take (l.length-1)).map Int.toNat,?_,fun t ht=>?_⟩
  ·have : l = l.take (l.length - 1) ++ [L] := by
     conv=>lhs;rw[← List.take_append_drop (l.length-1) l]
     congr 1
     have hx:l[l.length-1]?=some L:=by rw[qQ (by omega),h4']
     obtain⟨k,hk⟩:∃ k,l.length=k+1:=⟨l.length-1,by omega⟩
     rw[List.drop_eq_getElem_cons (by omega)]
     rw[show l.length-1+1=l.length by omega,List.drop_length]
     congr 1
     have:=(List.getElem?_eq_some_iff.1 hx).2
     exact this
   conv=>lhs;rw[this]
   simp
  ·obtain⟨x,hx,rfl⟩:=List.mem_map.1 ht
   obtain⟨i,hi⟩:=List.mem_iff_getElem?.1 hx
   rw[List.getElem?_take] at hi
   split at hi
   ·rename_i hlt
    have hd:l.getD i 0=x:=by rw[List.getD_eq_getElem?_getD,hi];rfl
    have:=Lx h3' (j:=l.length-1) (by omega) i (by omega)
    have:=hpos x (List.mem_of_getElem? hi)
    omega
   ·cases hi
theorem Fs(L:Int)(l:List Int)(hl:l.length≤12):dA L l=some (chk L l):=by
 unfold dA
 rw[Zf L l hl];rfl
theorem vF{L:Nat}(hL:L≤8)(l:List Int):gN L l=some ((2^L-1:Nat):Int):=by
 have hp:2^L≤2^8:=Nat.pow_le_pow_right (by omega) hL
 have hp0:=Nat.two_pow_pos L
 unfold gN
 have hrun:=jW (step:=kA L) (e:=((2^L:Nat):Int)) (fun k=>(((2^k:Nat):Int),(k:Int))) (n:=L) (fun k hk=>?_) ?_
 ·rw[show ((1:Int),(0:Int))=(((2^0:Nat):Int),((0:Nat):Int)) from rfl,hrun,Option.bind_some,w64 (by omega)]
  congr 1;omega
 ·dsimp only[kA]
  have hk2:2^k≤2^8:=Nat.pow_le_pow_right (by omega) (by omega)
  have hk3:=Nat.two_pow_pos k
  rw[if_pos (by simpa using hk),w64 (x:=2*((2^k:Nat):Int)) (by omega),w64 (x:=(k:Int)+1) (by omega),Nat.pow_succ]
  congr 3;omega
 ·dsimp only[kA]
  rw[if_neg (by simp)]
theorem vD{L:Nat}(hL:L≤8)(l:List Int):aG L l=some ((2^L-1:Nat):Int):=by
 have hp:2^L≤2^8:=Nat.pow_le_pow_right (by omega) hL
 have hp0:=Nat.two_pow_pos L
 unfold aG
 rw[show (1:Int)=((1:Nat):Int) from rfl,Wl (k:=L) (by omega) (by omega) rfl,Option.bind_some]
 rw[w64 (by omega)]
 congr 1;omega
section
variable {L:Nat} {ts:List Nat} {s:Nat}
theorem Zr(hr:Reg L ts)(h0:0<s)(hs:s<2^L){n:Nat}(hn:n≤2000):fA L (ints ts) s n=some (btl L ts s n):=by
 unfold fA
 rw[Gb,Option.bind_some]
 dsimp only
 rw[show ([]:List Int)=btl L ts s 0 from rfl]
 have hit:=Fq hr h0 hs (step:=dF n) (fun k=>btl L ts s k) (n:=n) (z:=btl L ts s n) (fun k hk=>?_) ?_
 ·rw[hit];rfl
 ·dsimp only[dF]
  rw[oS,if_neg (by simp only[decide_eq_true_eq];omega)]
  have h8:=hr.most
  have hb:stt L ts s k<2^62:=Nat.lt_of_lt_of_le (jK hr h0 hs k).2 (Nat.pow_le_pow_right (by omega) (by omega))
  rw[Mq hb,Dc (by rw[oS];omega) (by omega),Es]
  rfl
 ·dsimp only[dF]
  rw[oS,if_pos (by simp)]
end
end Go.Rex
namespace Go.Rex
theorem pow8{L:Nat}(h:L≤8):2^L≤256:=Nat.pow_le_pow_right (n:=2) (by omega) h
def sgl(L:Nat)(ts:List Nat)(s n:Nat):List Int:=(List.range n).map fun t=>1-2*((bt L ts s t:Nat):Int)
theorem mP(L:Nat)(ts:List Nat)(s n:Nat):(sgl L ts s n).length=n:=by simp[sgl]
theorem Rn{step:List Int×Int→Option ((List Int×Int) ⊕ List Int)}{l:List Int}{g:Int→Int}(hs:∀(k:Nat) (a:List Int) x,k<l.length→a.length=l.length→a[k]?=some x→l[k]?=some x→step (a,(k:Int))=some (.inl (a.set k (g x),((k+1:Nat):Int))))(he:∀ a:List Int,a.length=l.length→step (a,(l.length:Int))=some (.inr a)):run step (l,0)=some (l.map g):=by
 have hrun:=jW (step:=step) (e:=l.map g) (fun k=>((l.take k).map g++l.drop k,(k:Int))) (n:=l.length) (fun k hk=>?_) ?_
 ·simpa using hrun
 ·obtain⟨x,hx⟩:∃ x,l[k]?=some x:=⟨_,List.getElem?_eq_getElem hk⟩
  have hd:l.drop k=x::l.drop (k+1):=by
   rw[List.drop_eq_getElem_cons hk]
   rw[List.getElem?_eq_getElem hk] at hx
   rw[Option.some.inj hx]
  have hl:((l.take k).map g).length=k:=by simp;omega
  have hg:((l.take k).map g++l.drop k)[k]?=some x:=by
   rw[List.getElem?_append_right (by omega),hl,Nat.sub_self,hd];rfl
  rw[hs k _ x hk (by simp;omega) hg hx]
  congr 3
  rw[hd,zL hx,List.map_append,List.append_assoc]
  rw[List.set_append_right _ _ (by omega),hl,Nat.sub_self]
  rfl
 ·rw[List.take_length,List.drop_length,List.append_nil]
  have:=he (l.map g) (by simp)
  exact this
section
variable {L:Nat} {ts:List Nat} {s:Nat}
theorem Wn(L:Nat)(ts:List Nat)(s n:Nat):(btl L ts s n).map (fun b=>1-2*b)=sgl L ts s n:=by
 unfold btl sgl
 rw[List.map_map]
 rfl
theorem aAt(L:Nat)(ts:List Nat)(s t:Nat):bt L ts s t≤1:=by unfold bt;omega
theorem Ri{x:Int}{n:Nat}{k:Nat}(h:(btl L ts s n)[k]?=some x):0≤x∧x≤1:=by
 obtain⟨t,_,rfl⟩:=List.mem_map.1 (List.mem_of_getElem? h)
 have:=aAt L ts s t
 omega
theorem Gn(hr:Reg L ts)(h0:0<s)(hs:s<2^L):eK L (ints ts) s=some (sgl L ts s (2^L-1)):=by
 have hp:=pow8 hr.most
 unfold eK
 rw[vD hr.most,Option.bind_some,Zr hr h0 hs (by omega),Option.bind_some,Rn (g:=fun b=>1-2*b)]
 ·rw[Wn];rfl
 ·intro k a x hk ha hx hx2
  have hb:=Ri hx2
  dsimp only[dC]
  rw[oS] at hk
  rw[if_pos (by rw[oS];simpa using hk),aE,hx,Option.bind_some,w64 (x:=2*x) (by omega),w64 (x:=1-2*x) (by omega),w64 (x:=(k:Int)+1) (by omega),Int.toNat_natCast]
  rfl
 ·intro a ha
  dsimp only[dC]
  rw[if_neg (by simp)]
end
end Go.Rex
namespace Go.Rex
section
variable {L:Nat} {ts:List Nat} {s:Nat}
theorem tmod2(x:Nat):(x:Int).tmod 2=((x%2:Nat):Int):=by
 rw[Int.tmod_eq_emod_of_nonneg (by omega)];omega
theorem tdiv2(x:Nat):(x:Int).tdiv 2=((x/2:Nat):Int):=by
 rw[Int.tdiv_eq_ediv_of_nonneg (by omega)];omega
theorem Rj(f:Nat→Nat):∀(l:List Nat) (a:Nat),l.foldl (fun a p=>a+f p) a%2=l.foldl (fun a p=>(a+f p)%2) (a%2)
 | [],a=>rfl
 | p::l,a=>by
  simp only[List.foldl_cons]
  rw[Rj f l]
  congr 1
  omega
theorem Vw(f:Nat→Nat)(hf:∀ p,f p≤1):∀(l:List Nat) (a:Nat),l.foldl (fun a p=>a+f p) a≤a+l.length
 | [],a=>by simp
 | p::l,a=>by
  simp only[List.foldl_cons,List.length_cons]
  have:=Vw f hf l (a+f p)
  have:=hf p
  omega
theorem Cv(hr:Reg L ts)(h0:0<s)(hs:s<2^L){n:Nat}(hn:n≤2000):nL L (ints ts) s n=some (btl L ts s n):=by
 have hL2:=hr.two
 have h8:=hr.most
 have hlen:=hr.len
 have hL:2^L≤2^8:=Nat.pow_le_pow_right (by omega) h8
 unfold nL
 have hrun:=jW (step:=jY L (ints ts) n) (e:=btl L ts s n) (fun t=>(((s/2^(min t L):Nat):Int),btl L ts s t,(t:Int))) (n:=n) (fun t ht=>?_) ?_
 ·rw[show (((s:Nat):Int),([]:List Int),(0:Int))=(((s/2^(min 0 L):Nat):Int),btl L ts s 0,((0:Nat):Int)) by simp[btl],hrun]
  rfl
 ·dsimp only[jY]
  rw[if_pos (by simpa using ht)]
  by_cases hlt:t<L
  ·rw[if_pos (by simpa using hlt),tmod2,tdiv2]
   have hw:=window hr h0 hs t 0 hlt
   rw[Nat.zero_add] at hw
   rw[show min t L=t by omega,show s/2^t%2=bt L ts s t from hw,Dc (by rw[oS];omega) (by omega),Option.bind_some,← Es,w64 (x:=((s/2^t/2:Nat):Int)) (by have:=Nat.div_le_self s (2^t);have:=Nat.div_le_self (s/2^t) 2;omega),w64 (x:=(t:Int)+1) (by omega)]
   rw[Nat.div_div_eq_div_mul,← Nat.pow_succ,show min (t+1) L=t+1 by omega]
   rfl
  ·rw[if_neg (by simpa using hlt)]
   obtain⟨u,rfl⟩:∃ u,t=u+L:=⟨t-L,by omega⟩
   have hin:=jW (step:=kD (ints ts) (btl L ts s (u+L)) ((u+L:Nat):Int)) (e:=((ts.foldl (fun a p=>a+bt L ts s (u+L-p)) 0:Nat):Int)) (fun k=>((((ts.take k).foldl (fun a p=>a+bt L ts s (u+L-p)) 0:Nat):Int),(k:Int))) (n:=ts.length) (fun k hk=>?_) ?_
   ·rw[show ((0:Int),(0:Int))=((((ts.take 0).foldl (fun a p=>a+bt L ts s (u+L-p)) 0:Nat):Int),((0:Nat):Int)) from rfl,hin,Option.bind_some,tmod2,Rj,← aA0 hr h0 hs u,Dc (by rw[oS];omega) (by omega),Option.bind_some,← Es,w64 (x:=((u+L:Nat):Int)+1) (by omega),show min (u+L) L=L by omega,show min (u+L+1) L=L by omega]
    rfl
   ·obtain⟨p,hp⟩:∃ p,ts[k]?=some p:=⟨_,List.getElem?_eq_getElem hk⟩
    have hpm:=hr.le p (List.mem_of_getElem? hp)
    dsimp only[kD]
    rw[if_pos (by simpa using hk),aE,List.getElem?_map,hp,Option.map_some,Option.bind_some,w64 (x:=((u+L:Nat):Int)-(p:Int)) (by omega),yJ (k:=u+L-p) (by omega)]
    have hg:(btl L ts s (u+L))[u+L-p]?=some ((bt L ts s (u+L-p):Nat):Int):=by
     unfold btl
     rw[List.getElem?_map,List.getElem?_range (by omega)]
     rfl
    rw[hg,Option.bind_some,zL hp,List.foldl_append]
    have hle:=Vw (fun p=>bt L ts s (u+L-p)) (fun p=>by unfold bt;omega) (ts.take k) 0
    rw[List.length_take] at hle
    have hb1:bt L ts s (u+L-p)≤1:=by unfold bt;omega
    rw[w64 (x:=(((ts.take k).foldl (fun a p=>a+bt L ts s (u+L-p)) 0:Nat):Int)+((bt L ts s (u+L-p):Nat):Int)) (by omega),w64 (x:=(k:Int)+1) (by omega)]
    congr 3
   ·dsimp only[kD]
    rw[if_neg (by simp),List.take_length]
 ·dsimp only[jY]
  rw[if_neg (by simp)]
theorem Ch(hr:Reg L ts)(h0:0<s)(hs:s<2^L):nC L (ints ts) s=some ((nx L ts s:Nat):Int):=by
 have hL2:=hr.two
 have h8:=hr.most
 have hL:2^L≤2^8:=Nat.pow_le_pow_right (by omega) h8
 have hx:=aAp (L:=L) (ts:=ts) (s:=s) (by omega) hs
 unfold nC
 have hw:IntKind.i64.wrap ((L:Int)+1)=((L+1:Nat):Int):=by rw[w64 (by omega)];omega
 rw[hw,Cv hr h0 hs (by omega),Option.bind_some]
 have hrun:=jW (step:=jZ (btl L ts s (L+1))) (e:=((nx L ts s:Nat):Int)) (fun j=>(((nx L ts s/2^(L-j):Nat):Int),(((L-j:Nat)):Int))) (n:=L) (fun j hj=>?_) ?_
 ·rw[show ((0:Int),(L:Int))=(((nx L ts s/2^(L-0):Nat):Int),(((L-0:Nat)):Int)) by rw[Nat.sub_zero,Nat.div_eq_of_lt hx];rfl,hrun]
  rfl
 ·dsimp only[jZ]
  obtain⟨k,hk⟩:∃ k,L-j=k+1:=⟨L-j-1,by omega⟩
  rw[show L-(j+1)=k by omega,hk,if_pos (by simp;omega),aE]
  have hg:(btl L ts s (L+1))[k+1]?=some ((bt L ts s (k+1):Nat):Int):=by
   unfold btl
   rw[List.getElem?_map,List.getElem?_range (by omega)]
   rfl
  rw[hg,Option.bind_some]
  have hwin:=window hr h0 hs k 1 (by omega)
  have hstt:stt L ts s 1=nx L ts s:=rfl
  rw[hstt,Nat.add_comm 1 k] at hwin
  have hd:nx L ts s/2^k=2*(nx L ts s/2^(k+1))+bt L ts s (k+1):=by
   rw[← hwin,Nat.pow_succ,← Nat.div_div_eq_div_mul]
   omega
  have hb:=Nat.div_le_self (nx L ts s) (2^k)
  rw[w64 (x:=2*((nx L ts s/2^(k+1):Nat):Int)) (by omega),w64 (x:=2*((nx L ts s/2^(k+1):Nat):Int)+((bt L ts s (k+1):Nat):Int)) (by omega),w64 (x:=((k+1:Nat):Int)-1) (by omega),hd]
  congr 3
  omega
 ·dsimp only[jZ]
  rw[if_neg (by simp),Nat.sub_self,Nat.pow_zero,Nat.div_one]
theorem Js(hr:Reg L ts)(h0:0<s)(hs:s<2^L){n:Nat}(hp:wL L ts s n)(hn:n≤2^L-1):mS L (ints ts) s=some (n:Int):=by
 obtain⟨⟨h1,h2⟩,h3⟩:=hp
 have h8:=hr.most
 have hL:2^L≤2^8:=Nat.pow_le_pow_right (by omega) h8
 unfold mS
 rw[Ch hr h0 hs,Option.bind_some]
 obtain⟨m,rfl⟩:∃ m,n=m+1:=⟨n-1,by omega⟩
 have hrun:=jW (step:=iB L (ints ts) s) (e:=((m+1:Nat):Int)) (fun k=>(((k+1:Nat):Int),((stt L ts s (k+1):Nat):Int))) (n:=m) (fun k hk=>?_) ?_
 ·rw[show ((1:Int),((nx L ts s:Nat):Int))=(((0+1:Nat):Int),((stt L ts s (0+1):Nat):Int)) from rfl,hrun]
  rfl
 ·dsimp only[iB]
  have:=h3 (k+1) (by omega)
  obtain⟨a,b⟩:=jK hr h0 hs (k+1)
  rw[if_pos (by simp only[decide_eq_true_eq];intro e;exact this ⟨by omega,by omega⟩),Ch hr a b,Option.bind_some,w64 (by omega)]
  congr 3
 ·dsimp only[iB]
  rw[h2,if_neg (by simp)]
end
end Go.Rex
namespace Go.Rex
section
variable {L:Nat} {ts:List Nat} {s:Nat}
theorem Ge(hr:Reg L ts)(h0:0<s)(hs:s<2^L):mE L (ints ts) s=some (sgl L ts s (2^L-1)):=by
 have hp:=pow8 hr.most
 unfold mE
 rw[vF hr.most,Option.bind_some,Cv hr h0 hs (by omega),Option.bind_some,Rn (g:=fun b=>1-2*b)]
 ·rw[Wn];rfl
 ·intro k a x hk ha hx hx2
  have hb:=Ri hx2
  dsimp only[pZ]
  rw[ha]
  rw[oS] at hk
  rw[if_pos (by rw[oS];simpa using hk),aE,hx,Option.bind_some,w64 (x:=2*x) (by omega),w64 (x:=1-2*x) (by omega),w64 (x:=(k:Int)+1) (by omega),Int.toNat_natCast]
  rfl
 ·intro a ha
  dsimp only[pZ]
  rw[ha,if_neg (by simp)]
end
end Go.Rex
namespace Go.Rex
theorem uF{L:Nat}{l:List Int}(s:Int)(hl:l.length≤12)(h:chk L l=0)(hL:L≤8):dZ L l s=some (if 1≤s∧s≤((2^L-1:Nat):Int) then 0 else 2):=by
 unfold dZ
 rw[Qu _ _ hl,h,Option.bind_some,if_neg (by simp),vF hL,Option.bind_some,zN,Option.bind_some]
 by_cases q:1≤s∧s≤((2^L-1:Nat):Int)
 ·rw[if_pos (by simpa using q),if_pos q]
 ·rw[if_neg (by simpa using q),if_neg q]
theorem Bd{L:Nat}(l:List Int)(s:Int)(hL:L≤8):aU s L l=some (if 1≤s∧s≤((2^L-1:Nat):Int) then 0 else 2):=by
 unfold aU
 rw[vD hL,Option.bind_some,xC,Option.bind_some]
 dsimp only
 rw[kV,Option.bind_some]
 by_cases q:1≤s∧s≤((2^L-1:Nat):Int)
 ·rw[if_pos q,show decide (1≤s∧s≤((2^L-1:Nat):Int))=true by simpa using q];rfl
 ·rw[if_neg q,show decide (1≤s∧s≤((2^L-1:Nat):Int))=false by simpa using q];rfl
end Go.Rex
namespace Go.Rex
open Go Go.Rex
set_option maxRecDepth 100000
def fo(w:List (Int×Int))(N:Nat):Nat→List (Int×Int)
 | 0=>List.replicate N (0,0)
 | t+1=>(fo w N t).set (t%N) (zadd (at0 (fo w N t) (t%N)) (at0 w t))
theorem qB(w:List (Int×Int))(N:Nat):∀ t,(fo w N t).length=N
 | 0=>by simp[fo]
 | t+1=>by simp[fo,qB w N t]
theorem Hj(w:List (Int×Int))(i:Nat)(z:Int×Int)(k:Nat):at0 (w.set i z) k=if i=k∧k<w.length then z else at0 w k:=by
 unfold at0
 rw[List.getD_eq_getElem?_getD,List.getElem?_set,List.getD_eq_getElem?_getD]
 by_cases q:i=k
 ·subst q
  by_cases h:i<w.length
  ·rw[if_pos rfl,if_pos h,if_pos ⟨rfl,h⟩];rfl
  ·rw[if_pos rfl,if_neg h,if_neg (fun x=>h x.2),List.getElem?_eq_none (by omega)]
 ·rw[if_neg q,if_neg (fun x=>q x.1)]
theorem Wu{w:List (Int×Int)}(hw:∀ z∈w,small z)(N:Nat):∀ t k:Nat,zle (t*16777216) (at0 (fo w N t) k)
 | 0,k=>by
  unfold fo at0
  rw[List.getD_eq_getElem?_getD,List.getElem?_replicate]
  split<;>simp[zle]
 | t+1,k=>by
  have ih:=Wu hw N t
  simp only[fo]
  rw[Hj]
  have e:((t+1:Nat):Int)*16777216=t*16777216+16777216:=by omega
  rw[e]
  split
  ·have h1:=ih (t%N)
   have h2:=cA hw t
   unfold zle zadd at *
   unfold small at h2
   simp only
   omega
  ·have h1:=ih k
   unfold zle at *
   omega
def fold(w:List (Int×Int))(N:Nat):List (Int×Int):=fo w N w.length
theorem De{w:List (Int×Int)}(hw:∀ z∈w,small z)(lw:w.length≤1024){N:Nat}(hN:1≤N∧N≤1024):gM w (N:Int)=some (fold w N)∧jS w (N:Int)=some (fold w N):=by
 have step:∀ t:Nat,t<w.length→dY w (N:Int) (fo w N t,(t:Int))=some (.inl (fo w N (t+1),((t+1:Nat):Int)))∧jT w (N:Int) (fo w N t,(t:Int))=some (.inl (fo w N (t+1),((t+1:Nat):Int))):=by
  intro t ht
  have hlt:t%N<(fo w N t).length:=by rw[qB];exact Nat.mod_lt _ (by omega)
  have e1:(t:Int).tmod (N:Int)=((t%N:Nat):Int):=by rw[Int.tmod_eq_emod_of_nonneg (by omega)];exact (Int.natCast_emod t N).symm
  have b1:=Wu hw N t (t%N)
  have b2:=cA hw t
  have hb:(t:Int)*16777216≤1024*16777216:=Int.mul_le_mul_of_nonneg_right (by omega) (by decide)
  unfold zle at b1
  unfold small at b2
  have g1:=cS hlt
  have g2:=cS ht
  constructor
  ·unfold dY bS
   simp only
   rw[if_pos (by rw[decide_eq_true_eq];omega),aE,g2]
   simp only[Option.bind_some]
   rw[if_neg (by omega),e1,aE,g1]
   simp only[Option.bind_some]
   rw[w64 (by omega),w64 (by omega),wsucc (n:=1024) (by omega) (by decide)]
   rfl
  ·unfold jT
   simp only
   rw[if_pos (by rw[decide_eq_true_eq];omega),if_neg (by omega),e1,aE,g1]
   simp only[Option.bind_some]
   rw[aE,g2]
   simp only[Option.bind_some]
   rw[w64 (x:=(at0 (fo w N t) (t%N)).1+(at0 w t).1) (by omega)]
   have hn:(((t%N:Nat):Int)).toNat=t%N:=by omega
   rw[hn,aE,List.getElem?_set_self (by simpa using hlt)]
   simp only[Option.bind_some]
   rw[w64 (by omega),wsucc (n:=1024) (by omega) (by decide),List.set_set]
   rfl
 have hmk:mkI 16 (N:Int) ((0,0):Int×Int)=some (fo w N 0):=by
  unfold mkI
  rw[if_pos (by omega)]
  rfl
 constructor
 ·have key := dD (step := dY w (N : Int)) (st := fun t (_ : Unit) => (fo w N t, (t : Int))) (g := fun _ x => x) (fin := fun _ => fold w N) w.length (fun _ _ => True) (b0 := ()) trivial
    (fun t _ ht _=>⟨(step t ht).1,trivial⟩) (fun _ _=>by
     unfold dY
     simp only
     rw[if_neg (by rw[decide_eq_true_eq];omega)]
     rfl)
  have k1:=key.1
  simp only[Int.natCast_zero] at k1
  unfold gM
  rw[hmk]
  simp only[Option.bind_some]
  rw[k1]
  rfl
 ·have key := dD (step := jT w (N : Int)) (st := fun t (_ : Unit) => (fo w N t, (t : Int))) (g := fun _ x => x) (fin := fun _ => fold w N) w.length (fun _ _ => True) (b0 := ()) trivial
    (fun t _ ht _=>⟨(step t ht).2,trivial⟩) (fun _ _=>by
     unfold jT
     simp only
     rw[if_neg (by rw[decide_eq_true_eq];omega)]
     rfl)
  have k1:=key.1
  simp only[Int.natCast_zero] at k1
  unfold jS
  rw[hmk]
  simp only[Option.bind_some]
  rw[k1]
  rfl
theorem Fy{w:List (Int×Int)}{B:Int}(hB:B≤4611686018427387904)(h:∀ k,zle B (at0 w k)):∀ z∈w,mid z:=by
 intro z hz
 obtain⟨k,hk⟩:=List.mem_iff_getElem?.1 hz
 have hkl:=(List.getElem?_eq_some_iff.1 hk).1
 have:=cS hkl
 rw[hk] at this
 rw[Option.some.inj this]
 have:=h k
 unfold zle at this
 unfold mid
 omega
theorem Vh{w:List (Int×Int)}(hw:∀ z∈w,small z)(lw:w.length≤1024)(N:Nat):∀ z∈fold w N,mid z:=by
 have hb:(w.length:Int)*16777216≤1024*16777216:=Int.mul_le_mul_of_nonneg_right (by omega) (by decide)
 exact Fy (B:=w.length*16777216) (by omega) (fun k=>Wu hw N w.length k)
theorem vM(x:Option (List (Nat×Nat)×Int)):(x.bind fun (a,b)=>some (a,b))=x:=by cases x<;>rfl
def zstr(z:Int×Int)(s:Int):Int×Int:=(z.1*s,z.2*s)
def kE(s:Int):Prop:=s=1∨s = -1
def atS(S:List Int)(k:Nat):Int:=S.getD k 0
theorem qM{S:List Int}{k:Nat}(hk:k<S.length):S[k]?=some (atS S k):=by
 unfold atS
 rw[List.getD_eq_getElem?_getD,List.getElem?_eq_getElem hk]
 rfl
def wgT(W:List (Int×Int))(S:List Int)(n k:Nat):Int×Int:=zstr (at0 W k) (atS S ((n+S.length-k)%S.length))
def wgS(W:List (Int×Int))(S:List Int)(n j:Nat):Int×Int:=zsum (wgT W S n) j
def wgL(W:List (Int×Int))(S:List Int)(n j:Nat):List (Int×Int):=(List.range S.length).map fun i=>if i<n then wgS W S i S.length else if i=n then wgS W S n j else (0,0)
section
variable {W:List (Int×Int)} {S:List Int}
theorem uY{z:Int×Int}{s B:Int}(hz:zle B z)(hs:kE s):zle B (zstr z s):=by
 unfold zle zstr at *
 rcases hs with rfl|rfl<;>simp only[Int.mul_one,Int.mul_neg]<;>omega
theorem pE{z:Int×Int}(h:small z):zle 16777216 z:=h
theorem Us(hW:∀ z∈W,small z)(hS:∀ k,k<S.length→kE (atS S k))(h0:0<S.length)(n:Nat){j:Nat}(hj:j≤1024):zle 17179869184 (wgS W S n j):=by
 have h:=xQ (f:=wgT W S n) (B:=16777216) (n:=j) (fun k _=>uY (pE (cA hW k)) (hS _ (Nat.mod_lt _ h0)))
 have h2:(j:Int)*16777216≤1024*16777216:=Int.mul_le_mul_of_nonneg_right (by omega) (by decide)
 unfold wgS
 unfold zle at *
 omega
theorem uX(n j:Nat):(wgL W S n j).length=S.length:=by unfold wgL;simp
theorem Dk(n j:Nat){i:Nat}(hi:i<S.length):(wgL W S n j)[i]?=some (if i<n then wgS W S i S.length else if i=n then wgS W S n j else (0,0)):=by
 unfold wgL
 rw[List.getElem?_map,List.getElem?_range hi]
 rfl
theorem Zp{n:Nat}(j:Nat)(hn:n<S.length):(wgL W S n j).set n (wgS W S n (j+1))=wgL W S n (j+1):=by
 apply List.ext_getElem?
 intro i
 rw[List.getElem?_set,uX]
 by_cases hi:i<S.length
 ·rw[Dk n (j+1) hi]
  by_cases q:n=i
  ·subst q
   rw[if_pos rfl,if_pos hi,if_neg (by omega),if_pos rfl]
  ·rw[if_neg q,Dk n j hi]
   by_cases c:i<n
   ·rw[if_pos c,if_pos c]
   ·rw[if_neg c,if_neg c,if_neg (fun h=>q h.symm),if_neg (fun h=>q h.symm)]
 ·have hn2:∀ j,(wgL W S n j)[i]?=none:=fun j=>List.getElem?_eq_none (by rw[uX];omega)
  rw[hn2,hn2,if_neg (by omega)]
theorem Kv(n:Nat):wgL W S n S.length=wgL W S (n+1) 0:=by
 unfold wgL
 apply List.map_congr_left
 intro i _
 by_cases c:i<n
 ·rw[if_pos c,if_pos (by omega)]
 ·rw[if_neg c]
  by_cases q:i=n
  ·rw[if_pos q,if_pos (by omega),q]
  ·rw[if_neg q,if_neg (by omega)]
   by_cases q2:i=n+1
   ·rw[if_pos q2];rfl
   ·rw[if_neg q2]
theorem Mf:wgL W S 0 0=List.replicate S.length (0,0):=by
 apply List.ext_getElem?
 intro i
 by_cases hi:i<S.length
 ·rw[Dk 0 0 hi,List.getElem?_replicate,if_pos hi,if_neg (by omega)]
  by_cases q:i=0
  ·rw[if_pos q];rfl
  ·rw[if_neg q]
 ·rw[List.getElem?_eq_none (by rw[uX];omega),List.getElem?_eq_none (by simp;omega)]
theorem mods{n k N:Nat}(hn:n<N)(hk:k<N)(hN:N≤1024):lC (IntKind.i64.wrap ((n:Int)-k)) (N:Int)=some (((n+N-k)%N:Nat):Int)∧kR (IntKind.i64.wrap ((n:Int)-k)) (N:Int)=some (((n+N-k)%N:Nat):Int):=by
 rw[w64 (x:=(n:Int)-k) (by omega)]
 by_cases q:k≤n
 ·have e:(n+N-k)%N=n-k:=by rw[show n+N-k=(n-k)+N by omega,Nat.add_mod_right,Nat.mod_eq_of_lt (by omega)]
  have t1:((n:Int)-k).tmod N=(n:Int)-k:=by rw[Int.tmod_eq_emod_of_nonneg (by omega),Int.emod_eq_of_lt (by omega) (by omega)]
  rw[e]
  constructor
  ·unfold lC
   rw[if_neg (by omega),t1,w64 (by omega),Int.tmod_eq_emod_of_nonneg (by omega),Int.add_emod_right,Int.emod_eq_of_lt (by omega) (by omega)]
   congr 1
   omega
  ·unfold kR
   rw[if_neg (by omega),t1,if_neg (by rw[decide_eq_true_eq];omega)]
   congr 1
   omega
 ·have e:(n+N-k)%N=n+N-k:=Nat.mod_eq_of_lt (by omega)
  have t1:((n:Int)-k).tmod N=(n:Int)-k:=by
   have:((n:Int)-k) = -((k:Int)-n):=by omega
   rw[this,Int.neg_tmod,Int.tmod_eq_emod_of_nonneg (by omega),Int.emod_eq_of_lt (by omega) (by omega)]
  rw[e]
  constructor
  ·unfold lC
   rw[if_neg (by omega),t1,w64 (by omega),Int.tmod_eq_emod_of_nonneg (by omega),Int.emod_eq_of_lt (by omega) (by omega)]
   congr 1
   omega
  ·unfold kR
   rw[if_neg (by omega),t1,if_pos (by rw[decide_eq_true_eq];omega),w64 (by omega)]
   congr 1
   omega
theorem Lc{z:Int×Int}{s:Int}(hz:small z)(hs:kE s):IntKind.i64.wrap (z.1*s)=(zstr z s).1∧IntKind.i64.wrap (z.2*s)=(zstr z s).2:=by
 have h:=uY (pE hz) hs
 unfold zle at h
 exact⟨w64 (by show _≤(zstr z s).1∧(zstr z s).1≤_;omega),w64 (by show _≤(zstr z s).2∧(zstr z s).2≤_;omega)⟩
theorem Mw(hW:∀ z∈W,small z)(hS:∀ k,k<S.length→kE (atS S k))(lW:W.length=S.length)(lS:0<S.length∧S.length≤1024){n:Nat}(hn:n<S.length) :
 run (bM W S (n:Int)) (wgL W S n 0,0)=some (wgL W S (n+1) 0)∧run (bU W S false (n:Int)) (wgL W S n 0,0)=some (wgL W S (n+1) 0):=by
 have step:∀ k:Nat,k<S.length→bM W S (n:Int) (wgL W S n k,(k:Int))=some (.inl (wgL W S n (k+1),((k+1:Nat):Int)))∧bU W S false (n:Int) (wgL W S n k,(k:Int))=some (.inl (wgL W S n (k+1),((k+1:Nat):Int))):=by
  intro k hk
  have hi:(n+S.length-k)%S.length<S.length:=Nat.mod_lt _ lS.1
  have sg:=hS _ hi
  have sW:=cA hW k
  have b1:=Us hW hS lS.1 n (j:=k) (by omega)
  have b2:=uY (pE sW) sg
  obtain⟨s1,s2⟩:=Lc sW sg
  have gW:W[k]?=some (at0 W k):=cS (by omega)
  have gL:(wgL W S n k)[n]?=some (wgS W S n k):=by rw[Dk n k hn,if_neg (by omega),if_pos rfl]
  obtain⟨m1,m2⟩:=mods hn hk lS.2
  have nx:=Zp (W:=W) k hn
  have e:wgS W S n (k+1)=zadd (wgS W S n k) (zstr (at0 W k) (atS S ((n+S.length-k)%S.length))):=rfl
  have w1:IntKind.i64.wrap ((wgS W S n k).1+(zstr (at0 W k) (atS S ((n+S.length-k)%S.length))).1)=(wgS W S n (k+1)).1:=by
   rw[e];unfold zle at b1 b2;exact w64 (by omega)
  have w2:IntKind.i64.wrap ((wgS W S n k).2+(zstr (at0 W k) (atS S ((n+S.length-k)%S.length))).2)=(wgS W S n (k+1)).2:=by
   rw[e];unfold zle at b1 b2;exact w64 (by omega)
  constructor
  ·unfold bM hU aX cN bS
   try simp only
   rw[if_pos (by rw[decide_eq_true_eq];omega),aE,gW,Option.bind_some]
   try simp only
   rw[aE,gL,Option.bind_some,m1,Option.bind_some,aE,qM hi,Option.bind_some,Option.bind_some,Option.bind_some,Option.bind_some]
   try simp only
   rw[s1,s2,w1,w2,wsucc (n:=1024) (by omega) (by decide),show ((n:Int)).toNat=n by omega]
   rw[← nx]
   try rfl
  ·unfold bU
   try simp only
   rw[if_pos (by rw[decide_eq_true_eq];omega),if_neg (by decide),aE,gL,Option.bind_some]
   try simp only
   rw[aE,gW,Option.bind_some]
   try simp only
   rw[m2,Option.bind_some,aE,qM hi,Option.bind_some,show ((n:Int)).toNat=n by omega,s1,w1,aE,List.getElem?_set_self (by rw[uX];exact hn),Option.bind_some]
   try simp only
   rw[Option.bind_some,aE,qM hi,Option.bind_some,s2,w2,wsucc (n:=1024) (by omega) (by decide),List.set_set]
   rw[← nx]
   try rfl
 constructor
 ·have key := dD (step := bM W S (n : Int)) (st := fun j (_ : Unit) => (wgL W S n j, (j : Int))) (g := fun _ x => x) (fin := fun _ => wgL W S (n + 1) 0) S.length (fun _ _ => True) (b0 := ()) trivial
    (fun j _ hj _=>⟨(step j hj).1,trivial⟩) (fun _ _=>by
     unfold bM
     simp only
     rw[if_neg (by rw[decide_eq_true_eq];omega),Kv])
  exact key.1
 ·have key := dD (step := bU W S false (n : Int)) (st := fun j (_ : Unit) => (wgL W S n j, (j : Int))) (g := fun _ x => x) (fin := fun _ => wgL W S (n + 1) 0) S.length (fun _ _ => True) (b0 := ()) trivial
    (fun j _ hj _=>⟨(step j hj).2,trivial⟩) (fun _ _=>by
     unfold bU
     simp only
     rw[if_neg (by rw[decide_eq_true_eq];omega),Kv])
  exact key.1
def wgh(W:List (Int×Int))(S:List Int):List (Int×Int):=wgL W S S.length 0
theorem Fx(hW:∀ z∈W,small z)(hS:∀ k,k<S.length→kE (atS S k))(lW:W.length=S.length)(lS:0<S.length∧S.length≤1024):eQ W S=some (wgh W S)∧iE W S false=some (wgh W S):=by
 constructor
 ·have lz:(wgL W S 0 0).length=S.length:=uX 0 0
  have key:=dD (step:=cU W S (wgL W S 0 0)) (st:=fun n (_:Unit)=>(wgL W S n 0,(n:Int))) (g:=fun _ x=>x) (fin:=fun _=>wgh W S) S.length (fun _ _=>True) (b0:=()) trivial
   (fun n _ hn _=>⟨by
    unfold cU
    simp only
    rw[if_pos (by rw[decide_eq_true_eq];omega),(Mw hW hS lW lS hn).1,Option.bind_some,wsucc (n:=1024) (by omega) (by decide)],trivial⟩) (fun _ _=>by
    unfold cU
    simp only
    rw[if_neg (by rw[decide_eq_true_eq];omega)]
    rfl)
  have k1:=key.1
  simp only[Int.natCast_zero] at k1
  unfold eQ mkI
  rw[if_pos (by omega),Option.bind_some,show ((W.length:Int)).toNat=S.length by omega,← Mf (W:=W),k1,Option.bind_some]
 ·have key := dD (step := fS W S false) (st := fun n (_ : Unit) => (wgL W S n 0, (n : Int))) (g := fun _ x => x) (fin := fun _ => wgh W S) S.length (fun _ _ => True) (b0 := ()) trivial
    (fun n _ hn _=>⟨by
     unfold fS
     simp only
     rw[if_pos (by rw[decide_eq_true_eq];omega),(Mw hW hS lW lS hn).2,Option.bind_some,wsucc (n:=1024) (by omega) (by decide)],trivial⟩) (fun _ _=>by
     unfold fS
     simp only
     rw[if_neg (by rw[decide_eq_true_eq];omega)]
     rfl)
  have k1:=key.1
  simp only[Int.natCast_zero] at k1
  unfold iE mkI
  rw[if_pos (by omega),Option.bind_some,show ((S.length:Int)).toNat=S.length by omega,← Mf (W:=W),k1,Option.bind_some]
theorem sG:(wgh W S).length=S.length:=uX _ _
theorem Ph{n:Nat}(hn:n<S.length):at0 (wgh W S) n=wgS W S n S.length:=by
 have h1:=cS (w:=wgh W S) (k:=n) (by rw[sG];exact hn)
 unfold wgh at h1
 rw[Dk _ _ hn,if_pos hn] at h1
 exact (Option.some.inj h1).symm
theorem Zj(hW:∀ z∈W,small z)(hS:∀ k,k<S.length→kE (atS S k))(lS:0<S.length∧S.length≤1024):∀ z∈wgh W S,mid z:=by
 refine Fy (B:=17179869184) (by decide) (fun k=>?_)
 by_cases h:k<S.length
 ·rw[Ph h]
  exact Us hW hS lS.1 k (by omega)
 ·unfold at0
  rw[List.getD_eq_getElem?_getD,List.getElem?_eq_none (by rw[sG];omega)]
  simp[zle]
end
end Go.Rex
namespace Go.Rex
open Go Go.Rex
set_option maxRecDepth 100000
def crT(W:List (Int×Int))(S:List Int)(k t:Nat):Int×Int:=zstr (at0 W t) (atS S ((t+S.length-k)%S.length))
def crS(W:List (Int×Int))(S:List Int)(k j:Nat):Int×Int:=zsum (crT W S k) j
def trL(W:List (Int×Int))(S:List Int)(n k:Nat):List (Int×Int):=(List.range S.length).map fun i=>crS W S i (if i<k then n+1 else n)
def cor(W:List (Int×Int))(S:List Int):List (Int×Int):=(List.range S.length).map fun k=>zsub (crS W S k S.length) (zsum (at0 W) S.length)
def coT(W:List (Int×Int))(S:List Int)(n t:Nat):Int×Int:=zstr (at0 W t) (atS S ((t+S.length-n)%S.length)-1)
def coL(W:List (Int×Int))(S:List Int)(n j:Nat):List (Int×Int):=(List.range S.length).map fun i=>if i<n then zsum (coT W S i) S.length else if i=n then zsum (coT W S n) j else (0,0)
section
variable {W:List (Int×Int)} {S:List Int}
theorem Hp(n:Nat):∀ j:Nat,zsum (coT W S n) j=zsub (crS W S n j) (zsum (at0 W) j)
 | 0=>by simp[zsum,crS,zsub]
 | j+1=>by
  have ih:=Hp n j
  have e:coT W S n j=zsub (crT W S n j) (at0 W j):=by
   unfold coT crT zstr zsub
   simp only[Int.mul_sub,Int.mul_one]
  unfold crS at *
  simp only[zsum]
  rw[ih,e]
  unfold zadd zsub
  simp only[Prod.mk.injEq]
  omega
theorem Pt(hW:∀ z∈W,small z)(hS:∀ k,k<S.length→kE (atS S k))(h0:0<S.length)(n:Nat){j:Nat}(hj:j≤1024):zle 17179869184 (crS W S n j):=by
 have h:=xQ (f:=crT W S n) (B:=16777216) (n:=j) (fun k _=>uY (pE (cA hW k)) (hS _ (Nat.mod_lt _ h0)))
 have h2:(j:Int)*16777216≤1024*16777216:=Int.mul_le_mul_of_nonneg_right (by omega) (by decide)
 unfold crS
 unfold zle at *
 omega
theorem Wm(hW:∀ z∈W,small z){j:Nat}(hj:j≤1024):zle 17179869184 (zsum (at0 W) j):=by
 have h:=xQ (f:=at0 W) (B:=16777216) (n:=j) (fun k _=>pE (cA hW k))
 have h2:(j:Int)*16777216≤1024*16777216:=Int.mul_le_mul_of_nonneg_right (by omega) (by decide)
 unfold zle at *
 omega
theorem aBo(hW:∀ z∈W,small z)(hS:∀ k,k<S.length→kE (atS S k))(h0:0<S.length)(n:Nat){j:Nat}(hj:j≤1024):zle 34359738368 (zsum (coT W S n) j):=by
 rw[Hp]
 have h1:=Pt hW hS h0 n hj
 have h2:=Wm hW hj
 unfold zsub
 unfold zle at *
 omega
theorem sF(n j:Nat):(trL W S n j).length=S.length:=by unfold trL;simp
theorem Eb(n j:Nat){i:Nat}(hi:i<S.length):(trL W S n j)[i]?=some (crS W S i (if i<j then n+1 else n)):=by
 unfold trL
 rw[List.getElem?_map,List.getElem?_range hi]
 rfl
theorem aAe(n:Nat){k:Nat}(hk:k<S.length):(trL W S n k).set k (crS W S k (n+1))=trL W S n (k+1):=by
 apply List.ext_getElem?
 intro i
 rw[List.getElem?_set,sF]
 by_cases hi:i<S.length
 ·rw[Eb n (k+1) hi]
  by_cases q:k=i
  ·subst q
   rw[if_pos rfl,if_pos hi,if_pos (by omega)]
  ·rw[if_neg q,Eb n k hi]
   by_cases c:i<k
   ·rw[if_pos c,if_pos (by omega)]
   ·rw[if_neg c,if_neg (by omega)]
 ·have hn2:∀ j,(trL W S n j)[i]?=none:=fun j=>List.getElem?_eq_none (by rw[sF];omega)
  rw[hn2,hn2,if_neg (by omega)]
theorem Xt(n:Nat):trL W S n S.length=trL W S (n+1) 0:=by
 unfold trL
 apply List.map_congr_left
 intro i hi
 rw[List.mem_range] at hi
 rw[if_pos hi,if_neg (by omega)]
theorem Vf:trL W S 0 0=List.replicate S.length (0,0):=by
 apply List.ext_getElem?
 intro i
 by_cases hi:i<S.length
 ·rw[Eb 0 0 hi,List.getElem?_replicate,if_pos hi,if_neg (by omega)]
  rfl
 ·rw[List.getElem?_eq_none (by rw[sF];omega),List.getElem?_eq_none (by simp;omega)]
theorem Zw(hW:∀ z∈W,small z)(hS:∀ k,k<S.length→kE (atS S k))(lW:W.length=S.length)(lS:0<S.length∧S.length≤1024){n:Nat}(hn:n<S.length):run (bU W S true (n:Int)) (trL W S n 0,0)=some (trL W S (n+1) 0):=by
 have step:∀ k:Nat,k<S.length→bU W S true (n:Int) (trL W S n k,(k:Int))=some (.inl (trL W S n (k+1),((k+1:Nat):Int))):=by
  intro k hk
  have hi:(n+S.length-k)%S.length<S.length:=Nat.mod_lt _ lS.1
  have sg:=hS _ hi
  have sW:=cA hW n
  have b1:=Pt hW hS lS.1 k (j:=n) (by omega)
  have b2:=uY (pE sW) sg
  obtain⟨s1,s2⟩:=Lc sW sg
  have gW:W[n]?=some (at0 W n):=cS (by omega)
  have gL:(trL W S n k)[k]?=some (crS W S k n):=by rw[Eb n k hk,if_neg (by omega)]
  obtain⟨m1,m2⟩:=mods hn hk lS.2
  have nx:=aAe (W:=W) n hk
  have e:crS W S k (n+1)=zadd (crS W S k n) (zstr (at0 W n) (atS S ((n+S.length-k)%S.length))):=rfl
  have w1:IntKind.i64.wrap ((crS W S k n).1+(zstr (at0 W n) (atS S ((n+S.length-k)%S.length))).1)=(crS W S k (n+1)).1:=by
   rw[e];unfold zle at b1 b2;exact w64 (by omega)
  have w2:IntKind.i64.wrap ((crS W S k n).2+(zstr (at0 W n) (atS S ((n+S.length-k)%S.length))).2)=(crS W S k (n+1)).2:=by
   rw[e];unfold zle at b1 b2;exact w64 (by omega)
  unfold bU
  try simp only
  rw[if_pos (by rw[decide_eq_true_eq];omega),if_pos trivial,aE,gL,Option.bind_some]
  try simp only
  rw[aE,gW,Option.bind_some]
  try simp only
  rw[m2,Option.bind_some,aE,qM hi,Option.bind_some,show ((k:Int)).toNat=k by omega,s1,w1,aE,List.getElem?_set_self (by rw[sF];exact hk),Option.bind_some]
  try simp only
  rw[Option.bind_some,aE,qM hi,Option.bind_some,s2,w2,wsucc (n:=1024) (by omega) (by decide),List.set_set]
  rw[← nx]
  try rfl
 have key := dD (step := bU W S true (n : Int)) (st := fun j (_ : Unit) => (trL W S n j, (j : Int))) (g := fun _ x => x) (fin := fun _ => trL W S (n + 1) 0) S.length (fun _ _ => True) (b0 := ()) trivial
     (fun j _ hj _=>⟨step j hj,trivial⟩) (fun _ _=>by
      unfold bU
      simp only
      rw[if_neg (by rw[decide_eq_true_eq];omega),Xt])
 exact key.1
theorem Ud(hW:∀ z∈W,small z)(hS:∀ k,k<S.length→kE (atS S k))(lW:W.length=S.length)(lS:0<S.length∧S.length≤1024):iE W S true=some (trL W S S.length 0):=by
 have key := dD (step := fS W S true) (st := fun n (_ : Unit) => (trL W S n 0, (n : Int))) (g := fun _ x => x) (fin := fun _ => trL W S S.length 0) S.length (fun _ _ => True) (b0 := ()) trivial
     (fun n _ hn _=>⟨by
      unfold fS
      simp only
      rw[if_pos (by rw[decide_eq_true_eq];omega),Zw hW hS lW lS hn,Option.bind_some,wsucc (n:=1024) (by omega) (by decide)],trivial⟩) (fun _ _=>by
      unfold fS
      simp only
      rw[if_neg (by rw[decide_eq_true_eq];omega)])
 have k1:=key.1
 simp only[Int.natCast_zero] at k1
 unfold iE mkI
 rw[if_pos (by omega),Option.bind_some,show ((S.length:Int)).toNat=S.length by omega,← Vf (W:=W),k1,Option.bind_some]
theorem Cg(n j:Nat):(coL W S n j).length=S.length:=by unfold coL;simp
theorem Jr(n j:Nat){i:Nat}(hi:i<S.length):(coL W S n j)[i]?=some (if i<n then zsum (coT W S i) S.length else if i=n then zsum (coT W S n) j else (0,0)):=by
 unfold coL
 rw[List.getElem?_map,List.getElem?_range hi]
 rfl
theorem Zz{n:Nat}(j:Nat)(hn:n<S.length):(coL W S n j).set n (zsum (coT W S n) (j+1))=coL W S n (j+1):=by
 apply List.ext_getElem?
 intro i
 rw[List.getElem?_set,Cg]
 by_cases hi:i<S.length
 ·rw[Jr n (j+1) hi]
  by_cases q:n=i
  ·subst q
   rw[if_pos rfl,if_pos hi,if_neg (by omega),if_pos rfl]
  ·rw[if_neg q,Jr n j hi]
   by_cases c:i<n
   ·rw[if_pos c,if_pos c]
   ·rw[if_neg c,if_neg c,if_neg (fun h=>q h.symm),if_neg (fun h=>q h.symm)]
 ·have hn2:∀ j,(coL W S n j)[i]?=none:=fun j=>List.getElem?_eq_none (by rw[Cg];omega)
  rw[hn2,hn2,if_neg (by omega)]
theorem Xb(n:Nat):coL W S n S.length=coL W S (n+1) 0:=by
 unfold coL
 apply List.map_congr_left
 intro i _
 by_cases c:i<n
 ·rw[if_pos c,if_pos (by omega)]
 ·rw[if_neg c]
  by_cases q:i=n
  ·rw[if_pos q,if_pos (by omega),q]
  ·rw[if_neg q,if_neg (by omega)]
   by_cases q2:i=n+1
   ·rw[if_pos q2];rfl
   ·rw[if_neg q2]
theorem Xx:coL W S 0 0=List.replicate S.length (0,0):=by
 apply List.ext_getElem?
 intro i
 by_cases hi:i<S.length
 ·rw[Jr 0 0 hi,List.getElem?_replicate,if_pos hi,if_neg (by omega)]
  by_cases q:i=0
  ·rw[if_pos q];rfl
  ·rw[if_neg q]
 ·rw[List.getElem?_eq_none (by rw[Cg];omega),List.getElem?_eq_none (by simp;omega)]
theorem Za:coL W S S.length 0=cor W S:=by
 unfold coL cor
 apply List.map_congr_left
 intro i hi
 rw[List.mem_range] at hi
 rw[if_pos hi,Hp]
theorem str2{z:Int×Int}{s:Int}(hz:small z)(hs:kE s):zle 33554432 (zstr z (s-1))∧IntKind.i64.wrap (s-1)=s-1:=by
 unfold small at hz
 unfold zle zstr
 rcases hs with rfl|rfl
 ·rw[show (1:Int)-1=0 from rfl]
  exact⟨by simp only[Int.mul_zero];omega,by decide⟩
 ·rw[show (-1:Int)-1 = -2 from rfl]
  exact⟨by simp only;omega,by decide⟩
theorem Ze(hW:∀ z∈W,small z)(hS:∀ k,k<S.length→kE (atS S k))(lW:W.length=S.length)(lS:0<S.length∧S.length≤1024){n:Nat}(hn:n<S.length) :
 run (bK W S (n:Int)) (coL W S n 0,0)=some (coL W S (n+1) 0):=by
 have step:∀ k:Nat,k<S.length→bK W S (n:Int) (coL W S n k,(k:Int))=some (.inl (coL W S n (k+1),((k+1:Nat):Int))):=by
  intro k hk
  have hi:(k+S.length-n)%S.length<S.length:=Nat.mod_lt _ lS.1
  have sg:=hS _ hi
  have sW:=cA hW k
  have b1:=aBo hW hS lS.1 n (j:=k) (by omega)
  obtain⟨b2,t1⟩:=str2 sW sg
  have gW:W[k]?=some (at0 W k):=cS (by omega)
  have gL:(coL W S n k)[n]?=some (zsum (coT W S n) k):=by rw[Jr n k hn,if_neg (by omega),if_pos rfl]
  obtain⟨m1,m2⟩:=mods hk hn lS.2
  have nx:=Zz (W:=W) k hn
  have e:zsum (coT W S n) (k+1)=zadd (zsum (coT W S n) k) (zstr (at0 W k) (atS S ((k+S.length-n)%S.length)-1)):=rfl
  have c2:dS (n:Int) (k:Int) S=some (atS S ((k+S.length-n)%S.length)-1):=by
   unfold dS aX
   rw[m1,Option.bind_some,aE,qM hi,Option.bind_some,Option.bind_some,t1]
  generalize atS S ((k+S.length-n)%S.length)-1=s at *
  have s1:IntKind.i64.wrap ((at0 W k).1*s)=(zstr (at0 W k) s).1:=by unfold zle at b2;exact w64 (by show _≤(zstr (at0 W k) s).1∧(zstr (at0 W k) s).1≤_;omega)
  have s2:IntKind.i64.wrap ((at0 W k).2*s)=(zstr (at0 W k) s).2:=by unfold zle at b2;exact w64 (by show _≤(zstr (at0 W k) s).2∧(zstr (at0 W k) s).2≤_;omega)
  have w1:IntKind.i64.wrap ((zsum (coT W S n) k).1+(zstr (at0 W k) s).1)=(zsum (coT W S n) (k+1)).1:=by
   rw[e];unfold zle at b1 b2;exact w64 (by omega)
  have w2:IntKind.i64.wrap ((zsum (coT W S n) k).2+(zstr (at0 W k) s).2)=(zsum (coT W S n) (k+1)).2:=by
   rw[e];unfold zle at b1 b2;exact w64 (by omega)
  unfold bK cN bS
  try simp only
  rw[if_pos (by rw[decide_eq_true_eq];omega),aE,gW,Option.bind_some]
  try simp only
  rw[aE,gL,Option.bind_some,c2,Option.bind_some,Option.bind_some,Option.bind_some]
  try simp only
  rw[s1,s2,w1,w2,wsucc (n:=1024) (by omega) (by decide),show ((n:Int)).toNat=n by omega]
  rw[← nx]
  try rfl
 have key := dD (step := bK W S (n : Int)) (st := fun j (_ : Unit) => (coL W S n j, (j : Int))) (g := fun _ x => x) (fin := fun _ => coL W S (n + 1) 0) S.length (fun _ _ => True) (b0 := ()) trivial
     (fun j _ hj _=>⟨step j hj,trivial⟩) (fun _ _=>by
      unfold bK
      simp only
      rw[if_neg (by rw[decide_eq_true_eq];omega),Xb])
 exact key.1
theorem Yb(hW:∀ z∈W,small z)(hS:∀ k,k<S.length→kE (atS S k))(lW:W.length=S.length)(lS:0<S.length∧S.length≤1024):eR W S=some (cor W S):=by
 have lz:(coL W S 0 0).length=S.length:=Cg 0 0
 have key := dD (step := cV W S (coL W S 0 0)) (st := fun n (_ : Unit) => (coL W S n 0, (n : Int))) (g := fun _ x => x) (fin := fun _ => cor W S) S.length (fun _ _ => True) (b0 := ()) trivial
     (fun n _ hn _=>⟨by
      unfold cV
      simp only
      rw[if_pos (by rw[decide_eq_true_eq];omega),Ze hW hS lW lS hn,Option.bind_some,wsucc (n:=1024) (by omega) (by decide)],trivial⟩) (fun _ _=>by
      unfold cV
      simp only
      rw[if_neg (by rw[decide_eq_true_eq];omega),Za])
 have k1:=key.1
 simp only[Int.natCast_zero] at k1
 unfold eR mkI
 rw[if_pos (by omega),Option.bind_some,show ((W.length:Int)).toNat=S.length by omega,← Xx (W:=W),k1,Option.bind_some]
end
end Go.Rex
namespace Go.Rex
open Go Go.Rex
set_option maxRecDepth 100000
def even2(M:Int)(z:Int×Int):Prop:=z.1.tmod M=0∧z.2.tmod M=0
instance (M:Int) (z:Int×Int):Decidable (even2 M z):=by unfold even2;exact inferInstance
def qt(M:Int)(z:Int×Int):Int×Int:=(z.1.tdiv M,z.2.tdiv M)
def dvf{ε:Type}(M:Int)(e:ε)(b:List (Int×Int))(z:Int×Int):List (Int×Int) ⊕ ε:=if even2 M z then .inl (b++[qt M z]) else .inr e
theorem Jk{ε:Type}{M:Int}(e:ε)(b:List (Int×Int)){z:Int×Int}(h:even2 M z):dvf M e b z = .inl (b++[qt M z]):=if_pos h
theorem Df{ε:Type}{M:Int}(e:ε)(b:List (Int×Int)){z:Int×Int}(h:¬ even2 M z):dvf M e b z = .inr e:=if_neg h
theorem Kf{ε:Type}(M:Int)(e:ε)(fin:List (Int×Int)→ε):∀(l b:List (Int×Int)),walk (dvf M e) fin b l=if ∀ z∈l,even2 M z then fin (b++l.map (qt M)) else e
 | [],b=>by simp[walk]
 | z::l,b=>by
  simp only[walk]
  by_cases h:even2 M z
  ·rw[Jk _ _ h]
   simp only
   rw[Kf M e fin l]
   by_cases h2:∀ z∈l,even2 M z
   ·rw[if_pos h2,if_pos (by intro y hy;rcases List.mem_cons.1 hy with rfl|hy;exact h;exact h2 y hy)]
    simp
   ·rw[if_neg h2,if_neg (fun h3=>h2 fun y hy=>h3 y (List.mem_cons_of_mem _ hy))]
  ·rw[Df _ _ h,if_neg (fun h3=>h (h3 z List.mem_cons_self))]
theorem xZ{x:Int}{M:Nat}{B:Int}(hx:-B≤x∧x≤B)(hM:1≤M):-B≤x.tdiv M∧x.tdiv M≤B:=by
 have h:=Int.natAbs_tdiv_le_natAbs x (M:Int)
 omega
theorem Yf{w:List (Int×Int)}{M:Nat}(hM:1≤M)(lw:w.length≤1024)(hw:∀ z∈w,zle 34359738368 z):jX w (M:Int)=some (if ∀ z∈w,even2 M z then (w.map (qt M),true) else ([],false)):=by
 have key:=Eo (step:=gG w (M:Int)) (fun k b=>(b,(k:Int))) (dvf (M:Int) (.inl ():Unit ⊕ List (Int×Int))) (fun b=>.inr b) (fun k b=>b.length=k) w
  (fun k z b hz hb=>by
   have hk:=(List.getElem?_eq_some_iff.1 hz).1
   have bz:=hw z (List.mem_iff_getElem?.2 ⟨k,hz⟩)
   unfold zle at bz
   have d1:=xZ bz.1 hM
   have d2:=xZ bz.2 hM
   unfold gG
   simp only
   rw[if_pos (by rw[decide_eq_true_eq];omega),aE,hz,Option.bind_some]
   try simp only
   rw[if_neg (by omega)]
   by_cases h1:z.1.tmod M=0
   ·rw[if_neg (by simpa using h1)]
    by_cases h2:z.2.tmod M=0
    ·rw[if_neg (by simpa using h2),Jk _ _ ⟨h1,h2⟩]
     unfold jD
     rw[if_pos (by simp;omega),Option.bind_some,w64 (by omega),w64 (by omega),wsucc (n:=1024) (by omega) (by decide)]
     refine⟨rfl,fun b' hb'=>?_⟩
     have:=Sum.inl.inj hb'
     subst this
     simp[hb]
    ·rw[if_pos (by simpa using h2),Df _ _ (fun h=>h2 h.2)]
     exact⟨rfl,fun b' hb'=>by cases hb'⟩
   ·rw[if_pos (by simpa using h1),Df _ _ (fun h=>h1 h.1)]
    exact⟨rfl,fun b' hb'=>by cases hb'⟩)
  (fun b hb=>by
   unfold gG
   simp only
   rw[if_neg (by rw[decide_eq_true_eq];omega)]) (b0:=[]) rfl
 rw[Kf] at key
 simp only[Int.natCast_zero,List.nil_append] at key
 unfold jX
 rw[key,Option.bind_some]
 by_cases h:∀ z∈w,even2 M z
 ·rw[if_pos h,if_pos h]
 ·rw[if_neg h,if_neg h]
theorem Gd{x:Int}{M:Nat}(hM:1≤M∧M≤4096)(hx:-34359738368≤x∧x≤34359738368):∃ m,kR x (M:Int)=some m∧(m=0↔x.tmod M=0)∧(m=0→sP x (M:Int)=some (x.tdiv M)):=by
 have d:=xZ hx hM.1
 have hlt:-(M:Int)<x.tmod M:=Int.lt_tmod_of_pos x (by omega)
 have hlt2:x.tmod M<(M:Int):=Int.tmod_lt_of_pos x (by omega)
 unfold kR sP
 rw[if_neg (by omega)]
 by_cases h:x.tmod M<0
 ·rw[if_pos (decide_eq_true h),w64 (by omega)]
  refine⟨_,rfl,⟨fun h1=>by omega,fun h1=>by omega⟩,fun h1=>by omega⟩
 ·rw[if_neg (by simpa using h)]
  refine⟨_,rfl,Iff.rfl,fun h1=>?_⟩
  rw[if_neg (by omega),if_neg (by simpa using h),w64 (by omega)]
section
variable {W:List (Int×Int)} {S:List Int}
theorem yQ:(cor W S).length=S.length:=by unfold cor;simp
theorem Pm(hW:∀ z∈W,small z)(hS:∀ k,k<S.length→kE (atS S k))(lS:0<S.length∧S.length≤1024):∀ z∈cor W S,zle 34359738368 z:=by
 intro z hz
 unfold cor at hz
 rw[List.mem_map] at hz
 obtain⟨k,_,rfl⟩:=hz
 have h1:=Pt hW hS lS.1 k (j:=S.length) lS.2
 have h2:=Wm hW (j:=S.length) lS.2
 unfold zsub
 unfold zle at *
 omega
theorem aBe{k:Nat}{z:Int×Int}(h:(cor W S)[k]?=some z):k<S.length∧z=zsub (crS W S k S.length) (zsum (at0 W) S.length):=by
 have hk:=(List.getElem?_eq_some_iff.1 h).1
 rw[yQ] at hk
 unfold cor at h
 rw[List.getElem?_map,List.getElem?_range hk] at h
 exact⟨hk,(Option.some.inj h).symm⟩
theorem aAj(hW:∀ z∈W,small z)(hS:∀ k,k<S.length→kE (atS S k))(lS:0<S.length∧S.length≤1024):run (fK (S.length:Int) (zsum (at0 W) S.length).1 (zsum (at0 W) S.length).2) (trL W S S.length 0,0)=some (if ∀ z∈cor W S,even2 ((S.length+1:Nat):Int) z then .inr ((cor W S).map (qt ((S.length+1:Nat):Int))) else .inl ()):=by
 have hM:IntKind.i64.wrap ((S.length:Int)+1)=((S.length+1:Nat):Int):=wsucc (n:=1024) (by omega) (by decide)
 have key:=Eo (step:=fK (S.length:Int) (zsum (at0 W) S.length).1 (zsum (at0 W) S.length).2) (fun k b=>(b++(trL W S S.length 0).drop k,(k:Int))) (dvf ((S.length+1:Nat):Int) (.inl ():Unit ⊕ List (Int×Int))) (fun b=>.inr b) (fun k b=>b.length=k) (cor W S)
  (fun k z b hz hb=>by
   obtain⟨hk,ez⟩:=aBe hz
   have bz:=Pm hW hS lS z (List.mem_iff_getElem?.2 ⟨k,hz⟩)
   have htr:=Eb (W:=W) (S:=S) S.length 0 hk
   rw[if_neg (by omega)] at htr
   generalize hc:crS W S k S.length=c at *
   have hdr:(trL W S S.length 0).drop k=c::(trL W S S.length 0).drop (k+1):=by
    rw[List.drop_eq_getElem_cons (by rw[sF];exact hk)]
    rw[List.getElem?_eq_getElem (by rw[sF];exact hk)] at htr
    rw[Option.some.inj htr]
   generalize (trL W S S.length 0).drop (k+1)=rest at *
   generalize zsum (at0 W) S.length=tot at *
   have e1:c.1-tot.1=z.1:=by rw[ez];rfl
   have e2:c.2-tot.2=z.2:=by rw[ez];rfl
   unfold zle at bz
   have w1:IntKind.i64.wrap (c.1-tot.1)=z.1:=by rw[e1];exact w64 (by omega)
   have w2:IntKind.i64.wrap (c.2-tot.2)=z.2:=by rw[e2];exact w64 (by omega)
   have g1:(b++c::rest)[k]?=some c:=by rw[List.getElem?_append_right (by omega),hb,Nat.sub_self];rfl
   have set1:∀ y,(b++c::rest).set k y=b++y::rest:=fun y=>by rw[List.set_append_right _ _ (by omega),hb,Nat.sub_self];rfl
   have g2:∀ y,(b++y::rest)[k]?=some y:=fun y=>by rw[List.getElem?_append_right (by omega),hb,Nat.sub_self];rfl
   obtain⟨m1,a1,a2,a3⟩:=Gd (x:=z.1) (M:=S.length+1) (by omega) bz.1
   obtain⟨m2,b1,b2,b3⟩:=Gd (x:=z.2) (M:=S.length+1) (by omega) bz.2
   rw[hdr]
   unfold fK
   simp only
   rw[if_pos (by rw[decide_eq_true_eq];omega),aE,g1,Option.bind_some]
   try simp only
   rw[hM,w1,a1,Option.bind_some,show ((k:Int)).toNat=k by omega]
   by_cases h1:m1=0
   ·have t1:=a2.1 h1
    rw[if_neg (by simpa using h1),a3 h1,Option.bind_some,set1,aE,g2,Option.bind_some]
    try simp only
    rw[w2,b1,Option.bind_some]
    by_cases h2:m2=0
    ·have t2:=b2.1 h2
     have hrun:run qP ()=some ():=mR rfl
     rw[if_neg (by simpa using h2),b3 h2,Option.bind_some,hrun,Option.bind_some,Jk _ _ ⟨t1,t2⟩,List.set_append_right _ _ (by omega),hb,Nat.sub_self,wsucc (n:=1024) (by omega) (by decide)]
     refine⟨by simp[qt],fun b' hb'=>?_⟩
     have:=Sum.inl.inj hb'
     subst this
     simp[hb]
    ·rw[if_pos (by simpa using h2),Df _ _ (fun h=>h2 (b2.2 h.2))]
     exact⟨rfl,fun b' hb'=>by cases hb'⟩
   ·rw[if_pos (by simpa using h1),Df _ _ (fun h=>h1 (a2.2 h.1))]
    exact⟨rfl,fun b' hb'=>by cases hb'⟩)
  (fun b hb=>by
   rw[yQ] at *
   unfold fK
   simp only
   rw[if_neg (by rw[decide_eq_true_eq];omega),List.drop_eq_nil_of_le (by rw[sF];omega),List.append_nil]) (b0:=[]) rfl
 rw[Kf] at key
 simp only[Int.natCast_zero,List.nil_append,List.drop_zero] at key
 exact key
theorem Uf:∀ t:Nat,at0 (fo W 1 t) 0=zsum (at0 W) t
 | 0=>rfl
 | t+1=>by
  have ih:=Uf t
  unfold fo
  rw[Hj,Nat.mod_one,if_pos ⟨rfl,by rw[qB];omega⟩,ih]
  rfl
end
end Go.Rex
namespace Go.Rex
theorem Li(x y:Nat):(x ^^^ y)%2=(x%2+y%2)%2:=by
 have:=Nat.xor_mod_two_pow (a:=x) (b:=y) (n:=1)
 rw[show (2:Nat)^1=2 from rfl] at this
 rw[this]
 rcases (show x%2=0∨x%2=1 by omega) with h|h<;>rcases (show y%2=0∨y%2=1 by omega) with h'|h'<;>rw[h,h']<;>rfl
theorem Sf(x y k:Nat):(x ^^^ y)/2^k%2=(x/2^k%2+y/2^k%2)%2:=by
 rw[Nat.xor_div_two_pow,Li]
theorem Lp(L x y:Nat):∀(ts:List Nat) (a b:Nat),ts.foldl (fun a t=>(a+(x ^^^ y)/2^(L-t)%2)%2) ((a+b)%2) =
 (ts.foldl (fun a t=>(a+x/2^(L-t)%2)%2) a+ts.foldl (fun a t=>(a+y/2^(L-t)%2)%2) b)%2
 | [],a,b=>rfl
 | t::ts,a,b=>by
  simp only[List.foldl_cons]
  rw[← Lp L x y ts,Sf]
  congr 1
  omega
theorem Xa(L x y:Nat)(ts:List Nat):fbit L (x ^^^ y) ts=(fbit L x ts+fbit L y ts)%2:=Lp L x y ts 0 0
section
variable {L:Nat} {ts:List Nat}
theorem aBk(hL:1≤L){x y:Nat}(hx:x<2^L)(hy:y<2^L):nx L ts (x ^^^ y)=nx L ts x ^^^ nx L ts y:=by
 have hp:=rC hL
 have h2:=Nat.two_pow_pos (L-1)
 have e1:∀ z,z<2^L→nx L ts z%2^(L-1)=z/2∧nx L ts z/2^(L-1)=fbit L z ts:=fun z hz=>by
  unfold nx
  have h1:z/2<2^(L-1):=by omega
  rw[Nat.add_mul_mod_self_right,Nat.mod_eq_of_lt h1,Nat.add_mul_div_right _ _ h2,Nat.div_eq_of_lt h1,Nat.zero_add]
  exact⟨rfl,rfl⟩
 obtain⟨a1,a2⟩:=e1 x hx
 obtain⟨b1,b2⟩:=e1 y hy
 have m1:(nx L ts x ^^^ nx L ts y)%2^(L-1)=(x ^^^ y)/2:=by
  rw[Nat.xor_mod_two_pow,a1,b1,Nat.xor_div_two]
 have m2:(nx L ts x ^^^ nx L ts y)/2^(L-1)=fbit L (x ^^^ y) ts:=by
  rw[Nat.xor_div_two_pow,a2,b2,Xa]
  have f1:=nS L x ts
  have f2:=nS L y ts
  rcases (show fbit L x ts=0∨fbit L x ts=1 by omega) with h|h<;>rcases (show fbit L y ts=0∨fbit L y ts=1 by omega) with h'|h'<;>rw[h,h']<;>rfl
 rw[← Nat.div_add_mod (nx L ts x ^^^ nx L ts y) (2^(L-1)),m1,m2]
 unfold nx
 rw[Nat.add_comm,Nat.mul_comm]
theorem Rm(hr:Reg L ts){x y:Nat}(hx:0<x∧x<2^L)(hy:0<y∧y<2^L):∀ t,stt L ts (x ^^^ y) t=stt L ts x t ^^^ stt L ts y t
 | 0=>rfl
 | t+1=>by
  show nx L ts _=nx L ts _ ^^^ nx L ts _
  rw[Rm hr hx hy t,aBk (by have:=hr.two;omega) (jK hr hx.1 hx.2 t).2 (jK hr hy.1 hy.2 t).2]
theorem Kt(hr:Reg L ts){s:Nat}(h0:0<s)(hs:s<2^L):∀(i k:Nat),stt L ts s i=stt L ts s (i+k)→s=stt L ts s k:=by
 intro i
 induction i with
 | zero=>intro k h;simpa [stt] using h
 | succ i ih =>
  intro k h
  rw[show i+1+k=(i+k)+1 by omega] at h
  exact ih k (Nx hr (jK hr h0 hs i).2 (jK hr h0 hs (i+k)).2 h)
def Maxi(L:Nat)(ts:List Nat):Prop:=wL L ts 1 (2^L-1)
theorem qU(hr:Reg L ts):1<2^L:=by
 have h1:2^1≤2^L:=Nat.pow_le_pow_right (by omega) (by have:=hr.two;omega)
 omega
theorem Ti(hr:Reg L ts){s n:Nat}(h0:0<s)(hs:s<2^L)(hp:wL L ts s n):((List.range n).map (stt L ts s)).Nodup:=by
 rw[List.nodup_iff_pairwise_ne,List.pairwise_map]
 refine List.Pairwise.imp_of_mem ?_ List.pairwise_lt_range
 intro a b ha hb hlt he
 have hb':=List.mem_range.1 hb
 have:=Kt hr h0 hs a (b-a) (by rw[show a+(b-a)=b by omega];exact he)
 exact hp.2 (b-a) (by omega) ⟨by omega,this.symm⟩
theorem Nb{α:Type}[DecidableEq α]{l m:List α}(hl:l.Nodup)(hs:l⊆m)(hlen:m.length≤l.length):m⊆l:=by
 intro x hx
 apply Classical.byContradiction
 intro hn
 have h1:(x::l).Nodup:=List.nodup_cons.2 ⟨hn,hl⟩
 have h2:(x::l)⊆m:=by
  intro y hy
  rcases List.mem_cons.1 hy with rfl|hy
  ·exact hx
  ·exact hs hy
 have:=h1.length_le_of_subset h2
 simp at this
 omega
theorem Lf(hr:Reg L ts){s:Nat}(h0:0<s)(hs:s<2^L)(hp:wL L ts s (2^L-1)):((List.range (2^L-1)).map (stt L ts s)).Perm ((List.range (2^L-1)).map (· + 1)):=by
 have hnd:=Ti hr h0 hs hp
 have hsub:((List.range (2^L-1)).map (stt L ts s))⊆(List.range (2^L-1)).map (· + 1):=by
  intro x hx
  obtain⟨t,_,rfl⟩:=List.mem_map.1 hx
  obtain⟨a,b⟩:=jK hr h0 hs t
  exact List.mem_map.2 ⟨stt L ts s t-1,List.mem_range.2 (by omega),by omega⟩
 have hnd2:((List.range (2^L-1)).map (· + 1)).Nodup:=by
  rw[List.nodup_iff_pairwise_ne,List.pairwise_map]
  exact List.Pairwise.imp (fun h=>by omega) List.pairwise_lt_range
 exact (List.perm_ext_iff_of_nodup hnd hnd2).2 fun x=>⟨fun h=>hsub h,fun h=>Nb hnd hsub (by simp) h⟩
theorem Eg(hr:Reg L ts)(hm:Maxi L ts){s:Nat}(h0:0<s)(hs:s<2^L):wL L ts s (2^L-1):=by
 have h1:=qU hr
 have hmem:s∈(List.range (2^L-1)).map (stt L ts 1):=(Lf hr (by omega) h1 hm).mem_iff.2 (List.mem_map.2 ⟨s-1,List.mem_range.2 (by omega),by omega⟩)
 obtain⟨k,hk,rfl⟩:=List.mem_map.1 hmem
 refine⟨⟨hm.1.1,?_⟩,fun m hmlt hc=>?_⟩
 ·rw[← sM,Nat.add_comm,sM,hm.1.2]
 ·rw[← sM] at hc
  exact hm.2 m hmlt ⟨hc.1,(Kt hr (by omega) h1 k m hc.2.symm).symm⟩
theorem Su{L:Nat}(h2:2≤L)(h8:L≤8):(((List.range (2^L-1)).map (· + 1)).map (· % 2)).sum=2^(L-1):=by
 rcases (show L=2∨L=3∨L=4∨L=5∨L=6∨L=7∨L=8 by omega) with rfl|rfl|rfl|rfl|rfl|rfl|rfl<;>decide +kernel
theorem aAy(hr:Reg L ts)(hm:Maxi L ts){s:Nat}(h0:0<s)(hs:s<2^L):((List.range (2^L-1)).map (bt L ts s)).sum=2^(L-1):=by
 have h1:=(Lf hr h0 hs (Eg hr hm h0 hs)).map (· % 2)
 have h2:=h1.sum_nat
 rw[Su hr.two hr.most,List.map_map] at h2
 exact h2
def isum(f:Nat→Int):Nat→Int
 | 0=>0
 | n+1=>isum f n+f n
theorem cQ{f g:Nat→Int}:∀ {n:Nat},(∀ k,k<n→f k=g k)→isum f n=isum g n
 | 0,_=>rfl
 | n+1,h=>by unfold isum;rw[cQ (fun k hk=>h k (by omega)),h n (by omega)]
theorem Gh(b:Nat→Nat):∀ n,isum (fun t=>1-2*((b t:Nat):Int)) n=n-2*((((List.range n).map b).sum:Nat):Int)
 | 0=>rfl
 | n+1=>by
  unfold isum
  rw[Gh b n,List.range_succ,List.map_append,List.sum_append]
  simp
  omega
theorem Gw(hr:Reg L ts)(hm:Maxi L ts){s:Nat}(h0:0<s)(hs:s<2^L):isum (fun t=>1-2*((bt L ts s t:Nat):Int)) (2^L-1) = -1:=by
 have hp:=rC (L:=L) (by have:=hr.two;omega)
 have:=Nat.two_pow_pos (L-1)
 rw[Gh,aAy hr hm h0 hs]
 omega
theorem Uw(hr:Reg L ts){s n:Nat}(hp:stt L ts s n=s):∀(q t:Nat),stt L ts s (t+n*q)=stt L ts s t
 | 0,t=>by simp
 | q+1,t=>by
  have h:t+n*(q+1)=n+(t+n*q):=by rw[Nat.mul_add];omega
  rw[h,sM,hp,Uw hr hp q t]
theorem Sz(hr:Reg L ts){s:Nat}(h0:0<s)(hs:s<2^L)(d t:Nat):(1-2*((bt L ts s t:Nat):Int))*(1-2*((bt L ts s (d+t):Nat):Int))=1-2*((bt L ts (s ^^^ stt L ts s d) t:Nat):Int):=by
 have hd:=jK hr h0 hs d
 have e:bt L ts (s ^^^ stt L ts s d) t=(bt L ts s t+bt L ts s (d+t))%2:=by
  unfold bt
  rw[Rm hr ⟨h0,hs⟩ hd,Li,sM]
 rw[e]
 have b1:bt L ts s t=0∨bt L ts s t=1:=by unfold bt;omega
 have b2:bt L ts s (d+t)=0∨bt L ts s (d+t)=1:=by unfold bt;omega
 rcases b1 with h|h<;>rcases b2 with h'|h'<;>rw[h,h']<;>rfl
theorem Up(hr:Reg L ts)(hm:Maxi L ts){s:Nat}(h0:0<s)(hs:s<2^L){d:Nat}(hd:d<2^L-1) :
 isum (fun t=>(1-2*((bt L ts s t:Nat):Int))*(1-2*((bt L ts s (d+t):Nat):Int))) (2^L-1)=if d=0 then ((2^L-1:Nat):Int) else -1:=by
 rw[cQ (fun t _=>Sz hr h0 hs d t)]
 split
 ·rename_i h
  subst h
  have:s ^^^ stt L ts s 0=0:=Nat.xor_self s
  rw[this]
  have hz:∀ t,stt L ts 0 t=0:=by
   intro t
   induction t with
   | zero=>rfl
   | succ t ih=>show nx L ts _=0;rw[ih,Rs]
  have:∀ n,isum (fun t=>1-2*((bt L ts 0 t:Nat):Int)) n=n:=by
   intro n
   induction n with
   | zero=>rfl
   | succ n ih=>unfold isum;rw[ih];unfold bt;rw[hz];simp
  rw[this]
 ·rename_i h
  have hsd:=jK hr h0 hs d
  have hne:s ^^^ stt L ts s d≠0:=by
   intro e
   have he:s=stt L ts s d:=by
    have h1:s ^^^ stt L ts s d ^^^ stt L ts s d=stt L ts s d:=by rw[e,Nat.zero_xor]
    rwa [Nat.xor_assoc,Nat.xor_self,Nat.xor_zero] at h1
   exact (Eg hr hm h0 hs).2 d (by omega) ⟨by omega,he.symm⟩
  have hlt:s ^^^ stt L ts s d<2^L:=Nat.xor_lt_two_pow hs hsd.2
  exact Gw hr hm (by omega) hlt
end
end Go.Rex
namespace Go.Rex
open Go Go.Rex
set_option maxRecDepth 100000
theorem tP(L:Nat)(ts:List Nat)(s n:Nat):∀ k,k<(sgl L ts s n).length→kE (atS (sgl L ts s n) k):=by
 intro k hk
 have h:=qM hk
 rw[mP] at hk
 have e:(sgl L ts s n)[k]?=some (1-2*((bt L ts s k:Nat):Int)):=by
  unfold sgl
  rw[List.getElem?_map,List.getElem?_range hk]
  rfl
 rw[e] at h
 have h:=Option.some.inj h
 unfold kE
 have:=aAt L ts s k
 omega
noncomputable def exG(w:List (Int×Int))(S:List Int):List (Nat×Nat)×Int:=if (rec (fold w S.length)).2≠0 then ([],(rec (fold w S.length)).2) else rec (wgh (fold w S.length) S)
theorem Qv(w:List (Int×Int)):((rec w).2=0∧(∀ z∈w,small z)∧(rec w).1=w.map eW)∨((rec w).2=8∧(rec w).1=[]):=by
 unfold rec
 by_cases h:∀ z∈w,small z
 ·rw[if_pos h];exact .inl ⟨rfl,h,rfl⟩
 ·rw[if_neg h];exact .inr ⟨rfl,rfl⟩
section
variable {L:Nat} {ts:List Nat} {s:Nat}
theorem Xl(hr:Reg L ts)(h0:0<s)(hs:s<2^L){l:List (Nat×Nat)}(G:GoodL l):((aY l).bind fun v12 =>
 (aG L (ints ts)).bind fun v13 =>
 (gM v12 v13).bind fun v14 =>
 (bG L (ints ts) s).bind fun v15 =>
 (bR v14).bind fun (v16,v17) =>
 if (decide (v17≠0))=true then
  (some (([]:List (Nat×Nat)),v17))
 else
  ((eQ v14 v15).bind fun v18 =>
  (bR v18).bind fun (v19,v20) =>
  some (v19,v20)))=some (exG (nums l) (sgl L ts s (2^L-1))):=by
 have g:=G.len
 have hL:=hr.most
 have hp:=pow8 hL
 have h1:1<2^L:=qU hr
 have nw:(nums l).length≤1024:=by rw[dE];omega
 unfold bG
 rw[nB G,Option.bind_some,vD hL,Option.bind_some,(De (jG G) nw (by omega)).1,Option.bind_some,Gn hr h0 hs,Option.bind_some,Option.bind_some,uK _ (by unfold fold;rw[qB];omega),Option.bind_some]
 unfold exG
 rw[mP]
 have ln:=mP L ts s (2^L-1)
 have sg:=tP L ts s (2^L-1)
 generalize sgl L ts s (2^L-1)=S at *
 have lf:(fold (nums l) (2^L-1)).length=2^L-1:=by unfold fold;rw[qB]
 generalize fold (nums l) (2^L-1)=W at *
 rcases Qv W with⟨e1,e2,e3⟩|⟨e1,e2⟩
 ·rcases hR:rec W with⟨r1,r2⟩
  rw[hR] at e1
  obtain rfl:r2=0:=e1
  simp only
  rw[if_neg (by simp),if_neg (by simp),(Fx e2 sg (by omega) (by omega)).1,Option.bind_some,vM]
  exact uK _ (by rw[sG];omega)
 ·rcases hR:rec W with⟨r1,r2⟩
  rw[hR] at e1
  obtain rfl:r2=8:=e1
  simp only
  rw[if_pos (by simp),if_pos (by simp)]
theorem aAd (hr : Reg L ts) (h0 : 0 < s) (hs : s < 2 ^ L) {l : List (Nat × Nat)} (G : GoodL l) : ((fC l).bind fun v9 =>
      (gN L (ints ts)).bind fun v10 =>
      (jS v9 v10).bind fun v11 =>
      (gP v11).bind fun (v12,v13) =>
      if (decide (v13≠0))=true then
       (some (([]:List (Nat×Nat)),v13))
      else
       ((mE L (ints ts) s).bind fun v14 =>
       (iE v11 v14 false).bind fun v15 =>
       (gP v15).bind fun (v16,v17) =>
       some (v16,v17)))=some (exG (nums l) (sgl L ts s (2^L-1))):=by
 have g:=G.len
 have hL:=hr.most
 have hp:=pow8 hL
 have h1:1<2^L:=qU hr
 have nw:(nums l).length≤1024:=by rw[dE];omega
 rw[Lq G,Option.bind_some,vF hL,Option.bind_some,(De (jG G) nw (by omega)).2,Option.bind_some,Kh _ (by unfold fold;rw[qB];omega) (Vh (jG G) nw _),Option.bind_some,Ge hr h0 hs]
 unfold exG
 rw[mP]
 have ln:=mP L ts s (2^L-1)
 have sg:=tP L ts s (2^L-1)
 generalize sgl L ts s (2^L-1)=S at *
 have lf:(fold (nums l) (2^L-1)).length=2^L-1:=by unfold fold;rw[qB]
 generalize fold (nums l) (2^L-1)=W at *
 rcases Qv W with⟨e1,e2,e3⟩|⟨e1,e2⟩
 ·rcases hR:rec W with⟨r1,r2⟩
  rw[hR] at e1
  obtain rfl:r2=0:=e1
  simp only
  rw[if_neg (by simp),if_neg (by simp),Option.bind_some,(Fx e2 sg (by omega) (by omega)).2,Option.bind_some,vM]
  exact Kh _ (by rw[sG];omega) (Zj e2 sg (by omega))
 ·rcases hR:rec W with⟨r1,r2⟩
  rw[hR] at e1
  obtain rfl:r2=8:=e1
  simp only
  rw[if_pos (by simp),if_pos (by simp)]
end
theorem Pq{l:List (Nat×Nat)}{L:Nat}{ts:List Nat}{s:Nat}(ht:(ints ts).length≤12)(hl:lE l=0)(hc:chk L (ints ts)=0)(hr:Reg L ts)(h0:0<s)(hs:s<2^L):eX l L (ints ts) s=some (exG (nums l) (sgl L ts s (2^L-1)))∧nP l L (ints ts) s=some (exG (nums l) (sgl L ts s (2^L-1))):=by
 have hL:=hr.most
 have hin:1≤(s:Int)∧(s:Int)≤((2^L-1:Nat):Int):=by omega
 constructor
 ·unfold eX cK bX gY
  rw[Option.bind_some,Option.bind_some,pC]
  simp only
  rw[Option.bind_some,if_neg (by simpa using hl),Fs _ _ ht,Option.bind_some,hc,if_neg (by decide),Bd _ _ hL,Option.bind_some,if_pos hin,if_neg (by decide),Option.bind_some,if_neg (by decide)]
  exact Xl hr h0 hs (qJ hl)
 ·unfold nP
  rw[Mz,Option.bind_some,if_neg (by simpa using hl),uF _ ht hc hL,Option.bind_some,if_pos hin,if_neg (by decide)]
  exact aAd hr h0 hs (qJ hl)
end Go.Rex
namespace Go.Rex
open Go Go.Rex
set_option maxRecDepth 100000
section
variable {L:Nat} {ts:List Nat} {s:Nat}
theorem aBS(hr:Reg L ts){n:Nat}(hp:wL L ts 1 n)(hn:n≤2^L-1):dN L (ints ts)=some (if n=2^L-1 then 0 else 22):=by
 unfold dN eH aC aA
 have:=Tg hr (s:=1) (by omega) (qU hr) hp hn
 rw[show (1:Int)=((1:Nat):Int) from rfl,this,Option.bind_some,vD hr.most,Option.bind_some]
 by_cases h:n=2^L-1
 ·simp[h]
 ·have h':¬((n:Int)=((2^L-1:Nat):Int)):=by omega
  rw[decide_eq_false h',if_neg h]
  simp
theorem aAr(hr:Reg L ts){n:Nat}(hp:wL L ts 1 n)(hn:n≤2^L-1):iA L (ints ts)=some (decide (n=2^L-1)):=by
 unfold iA
 have:=Js hr (s:=1) (by omega) (qU hr) hp hn
 rw[show (1:Int)=((1:Nat):Int) from rfl,this,Option.bind_some,vF hr.most,Option.bind_some]
 by_cases h:n=2^L-1
 ·simp[h]
 ·have h':¬((n:Int)=((2^L-1:Nat):Int)):=by omega
  rw[decide_eq_false h,decide_eq_false h']
noncomputable def unV(W:List (Int×Int))(S:List Int):List (Nat×Nat)×Int:=if ∀ z∈cor W S,even2 ((S.length+1:Nat):Int) z then rec ((cor W S).map (qt ((S.length+1:Nat):Int))) else ([],20)
theorem aA1{W:List (Int×Int)}{S:List Int}(hW:∀ z∈W,small z)(hS:∀ k,k<S.length→kE (atS S k))(lS:0<S.length∧S.length≤1024):∀ z∈(cor W S).map (qt ((S.length+1:Nat):Int)),mid z:=by
 intro z hz
 rw[List.mem_map] at hz
 obtain⟨y,hy,rfl⟩:=hz
 have b:=Pm hW hS lS y hy
 unfold zle at b
 have d1:=xZ (M:=S.length+1) b.1 (by omega)
 have d2:=xZ (M:=S.length+1) b.2 (by omega)
 unfold mid qt
 simp only
 omega
theorem Xm(hr:Reg L ts)(h0:0<s)(hs:s<2^L){l:List (Nat×Nat)}(G:GoodL l)(hl:l.length=2^L-1):((bG L (ints ts) s).bind fun v12 =>
 (aY l).bind fun v13 =>
 (eR v13 v12).bind fun v14 =>
 (aG L (ints ts)).bind fun v15 =>
 (jX v14 (IntKind.i64.wrap (v15+1))).bind fun (v16,v17) =>
 if v17=true then
  ((bR v16).bind fun (v18,v19) =>
  some (v18,v19))
 else
  (some (([]:List (Nat×Nat)),20)))=some (unV (nums l) (sgl L ts s (2^L-1))):=by
 have g:=G.len
 have hL:=hr.most
 have hp:=pow8 hL
 have h1:1<2^L:=qU hr
 unfold bG
 rw[Gn hr h0 hs,Option.bind_some,Option.bind_some,nB G,Option.bind_some]
 have ln:=mP L ts s (2^L-1)
 have sg:=tP L ts s (2^L-1)
 generalize sgl L ts s (2^L-1)=S at *
 have lw:(nums l).length=S.length:=by rw[dE];omega
 have sm:=jG G
 generalize nums l=W at *
 rw[Yb sm sg lw (by omega),Option.bind_some,vD hL,Option.bind_some,← ln,wsucc (n:=1024) (by omega) (by decide),Yf (by omega) (by rw[yQ];omega) (Pm sm sg (by omega)),Option.bind_some]
 unfold unV
 by_cases h:∀ z∈cor W S,even2 ((S.length+1:Nat):Int) z
 ·rw[if_pos h,if_pos h]
  simp only
  rw[if_pos trivial,vM]
  exact uK _ (by rw[List.length_map,yQ];omega)
 ·rw[if_neg h,if_neg h]
  simp only
  rw[if_neg (by simp)]
theorem Zh (hr : Reg L ts) (h0 : 0 < s) (hs : s < 2 ^ L) {l : List (Nat × Nat)} (G : GoodL l) (hl : l.length = 2 ^ L - 1) : ((fC l).bind fun v11 =>
          (jS v11 1).bind fun v12 =>
          (bE v12 0).bind fun (v13,v14) =>
          (mE L (ints ts) s).bind fun v15 =>
          (iE v11 v15 true).bind fun v16 =>
          (run (fK ((2^L-1:Nat):Int) v13 v14) (v16,0)).bind fun v36=>match v36 with
          | (.inl _) =>
           some (([]:List (Nat×Nat)),20)
          | (.inr v37) =>
           (gP v37).bind fun (v38,v39) =>
           some (v38,v39))=some (unV (nums l) (sgl L ts s (2^L-1))):=by
 have g:=G.len
 have hL:=hr.most
 have hp:=pow8 hL
 have h1:1<2^L:=qU hr
 have nw:(nums l).length≤1024:=by rw[dE];omega
 have sm:=jG G
 have hf:=(De sm nw (N:=1) (by omega)).2
 rw[show ((1:Nat):Int)=1 from rfl] at hf
 rw[Lq G,Option.bind_some,hf,Option.bind_some]
 have ln:=mP L ts s (2^L-1)
 have sg:=tP L ts s (2^L-1)
 rw[Ge hr h0 hs]
 generalize sgl L ts s (2^L-1)=S at *
 have lw:(nums l).length=S.length:=by rw[dE];omega
 generalize nums l=W at *
 have e0:at0 (fold W 1) 0=zsum (at0 W) S.length:=by unfold fold;rw[Uf,lw]
 have g0:bE (fold W 1) 0=some (zsum (at0 W) S.length):=by
  have h2:=cS (w:=fold W 1) (k:=0) (by unfold fold;rw[qB];omega)
  rw[e0] at h2
  rw[show (0:Int)=((0:Nat):Int) from rfl,aE,h2]
 rw[g0,Option.bind_some]
 simp only
 rw[Option.bind_some,Ud sm sg lw (by omega),Option.bind_some,← ln,aAj sm sg (by omega),Option.bind_some]
 unfold unV
 by_cases h:∀ z∈cor W S,even2 ((S.length+1:Nat):Int) z
 ·rw[if_pos h,if_pos h]
  simp only
  rw[vM]
  exact Kh _ (by rw[List.length_map,yQ];omega) (aA1 sm sg (by omega))
 ·rw[if_neg h,if_neg h]
end
theorem Wq(l:List (Nat×Nat)){L:Nat}(t:List Int)(hL:L≤8):eA l L t=some (if l.length=2^L-1 then 0 else 13):=by
 unfold eA aC aA
 rw[vD hL,Option.bind_some]
 by_cases h:l.length=2^L-1
 ·simp[h]
 ·have h':¬((l.length:Int)=((2^L-1:Nat):Int)):=by omega
  rw[if_neg h,decide_eq_true h']
  simp
noncomputable def unG(l:List (Nat×Nat))(L:Nat)(ts:List Nat)(s n:Nat):List (Nat×Nat)×Int:=if n=2^L-1 then if l.length=2^L-1 then unV (nums l) (sgl L ts s (2^L-1)) else ([],13) else ([],22)
theorem aBN{l:List (Nat×Nat)}{L:Nat}{ts:List Nat}{s n:Nat}(ht:(ints ts).length≤12)(hl:lE l=0)(hc:chk L (ints ts)=0)(hr:Reg L ts)(h0:0<s)(hs:s<2^L)(hp:wL L ts 1 n)(hn:n≤2^L-1):gJ l L (ints ts) s=some (unG l L ts s n)∧pK l L (ints ts) s=some (unG l L ts s n):=by
 have hL:=hr.most
 have hin:1≤(s:Int)∧(s:Int)≤((2^L-1:Nat):Int):=by omega
 unfold unG
 constructor
 ·unfold gJ cK bX gV
  rw[Option.bind_some,Option.bind_some,pC]
  simp only
  rw[Option.bind_some,if_neg (by simpa using hl),Fs _ _ ht,Option.bind_some,hc,if_neg (by decide),Bd _ _ hL,Option.bind_some,if_pos hin,if_neg (by decide),aBS hr hp hn,Option.bind_some,Wq l _ hL]
  by_cases h1:n=2^L-1
  ·rw[if_pos h1,if_pos h1,if_neg (by decide),Option.bind_some]
   by_cases h2:l.length=2^L-1
   ·rw[if_pos h2,if_pos h2,if_neg (by decide),Option.bind_some,if_neg (by decide)]
    exact Xm hr h0 hs (qJ hl) h2
   ·rw[if_neg h2,if_neg h2,if_pos (by decide),Option.bind_some,if_pos (by decide)]
  ·rw[if_neg h1,if_neg h1,if_pos (by decide),Option.bind_some,if_pos (by decide)]
 ·unfold pK
  rw[Mz,Option.bind_some,if_neg (by simpa using hl),uF _ ht hc hL,Option.bind_some,if_pos hin,if_neg (by decide),aAr hr hp hn,Option.bind_some]
  by_cases h1:n=2^L-1
  ·rw[if_pos (decide_eq_true h1),if_pos h1,vF hL,Option.bind_some]
   by_cases h2:l.length=2^L-1
   ·rw[if_neg (by simpa using (by omega:(l.length:Int)=((2^L-1:Nat):Int))),if_pos h2]
    exact Zh hr h0 hs (qJ hl) h2
   ·rw[if_pos (by rw[decide_eq_true_eq];omega),if_neg h2]
  ·rw[if_neg (by simpa using h1),if_neg h1]
end Go.Rex
namespace Go.Rex
open Go Go.Rex
set_option maxRecDepth 100000
theorem Sp(z:Int×Int):zadd z (0,0)=z∧zadd (0,0) z=z:=by unfold zadd;simp
theorem Kr{f:Nat→Int×Int}{n:Nat}(h:∀ t,n≤t→f t=(0,0)):∀ d:Nat,zsum f (n+d)=zsum f n
 | 0=>rfl
 | d+1=>by
  show zadd (zsum f (n+d)) (f (n+d))=zsum f n
  rw[Kr h d,h (n+d) (by omega),(Sp _).1]
theorem vL{w:List (Int×Int)}{k:Nat}(hk:w.length≤k):at0 w k=(0,0):=by
 unfold at0
 rw[List.getD_eq_getElem?_getD,List.getElem?_eq_none hk]
 rfl
theorem Tw(z:Int×Int):zmul (0,0) z=(0,0)∧zmul z (0,0)=(0,0):=by unfold zmul;simp
theorem Yw(a c:List (Int×Int))(hc:0<c.length)(k:Nat):cvS a c a.length k=zsum (fun j=>zmul (at0 a (k-j)) (at0 c j)) (min k (c.length-1)+1):=by
 have e1:cvS a c a.length k=zsum (cvT a c k) (a.length+(k+1)):=(Kr (fun t ht=>by
  unfold cvT
  split
  ·rw[vL ht,(Tw _).1]
  ·rfl) (k+1)).symm
 have e2:zsum (cvT a c k) (k+1+a.length)=zsum (cvT a c k) (k+1):=Kr (fun t ht=>by
  unfold cvT
  rw[if_neg (by omega)]) a.length
 have e3:zsum (fun t=>cvT a c k (k+1-1-t)) (k+1)=zsum (fun j=>if j<c.length∧j≤k then zmul (at0 a (k-j)) (at0 c j) else (0,0)) (k+1):=rL (fun t ht=>by
  unfold cvT
  rw[show k+1-1-t=k-t by omega,show k-(k-t)=t by omega]
  by_cases q:t<c.length
  ·rw[if_pos ⟨by omega,q⟩,if_pos ⟨q,by omega⟩]
  ·rw[if_neg (fun h=>q h.2),if_neg (fun h=>q h.1)])
 have e4:zsum (fun j=>if j<c.length∧j≤k then zmul (at0 a (k-j)) (at0 c j) else (0,0)) (min k (c.length-1)+1+(k-min k (c.length-1)))=zsum (fun j=>if j<c.length∧j≤k then zmul (at0 a (k-j)) (at0 c j) else (0,0)) (min k (c.length-1)+1):=Kr (fun t ht=>by
  rw[if_neg (by omega)]) _
 rw[e1,show a.length+(k+1)=k+1+a.length by omega,e2,Qa,e3,show k+1=min k (c.length-1)+1+(k-min k (c.length-1)) by omega,e4]
 exact rL (fun j hj=>by rw[if_pos (by omega)])
theorem Qw(f:Nat→Int×Int):∀ n:Nat,zsum f (n+1)=zadd (f 0) (zsum (fun t=>f (t+1)) n)
 | 0=>by simp[zsum,zadd]
 | n+1=>by
  rw[zsum,Qw f n]
  simp only[zsum,zadd]
  ext<;>simp only<;>omega
theorem Ux{z u:Int×Int}(hu:lM u):zmul (zmul z u) (zconj u)=z:=by
 rcases hu with rfl|rfl|rfl|rfl<;>simp[zmul,zconj]
def oT(a:List (Int×Int))(n:Nat):List (Int×Int):=(List.range n).map (at0 a)
theorem yN(a:List (Int×Int))(n k:Nat):at0 (oT a n) k=if k<n then at0 a k else (0,0):=by
 unfold oT
 by_cases h:k<n
 ·rw[if_pos h]
  have hl:k<((List.range n).map (at0 a)).length:=by simp;exact h
  have:=cS hl
  rw[List.getElem?_map,List.getElem?_range h] at this
  exact (Option.some.inj this).symm
 ·rw[if_neg h,vL (by simp;omega)]
theorem Nu(a c:List (Int×Int)):(cv a c).length=a.length+c.length-1:=by unfold cv;rw[yF]
theorem aAs(a c:List (Int×Int)){k:Nat}(hk:k<a.length+c.length-1):at0 (cv a c) k=cvS a c a.length k:=by
 have h1:=cS (w:=cv a c) (k:=k) (by rw[Nu];exact hk)
 have h2:=Cz (a:=a) (b:=c) a.length 0 hk
 unfold cv at h1
 rw[h1] at h2
 have:=Option.some.inj h2
 unfold cv
 rw[this]
 unfold cvI
 rw[if_neg (by omega)]
theorem aAo(a c:List (Int×Int))(hc:0<c.length)(hu:lM (at0 c 0)):∀ {k:Nat},k≤a.length+c.length-1→dvL (cv a c) c k=oT a k
 | 0,_=>rfl
 | k+1,hk=>by
  have ih:=aAo a c hc hu (k:=k) (by omega)
  show dvL (cv a c) c k++[dvN (cv a c) c (dvL (cv a c) c k) k]=oT a (k+1)
  have e:dvN (cv a c) c (dvL (cv a c) c k) k=at0 a k:=by
   unfold dvN
   rw[aAs a c (by omega),Yw a c hc,ih,Qw]
   have e2:zsum (dvT c (oT a k) k) (min k (c.length-1))=zsum (fun t=>zmul (at0 a (k-(t+1))) (at0 c (t+1))) (min k (c.length-1)):=rL (fun t ht=>by
    unfold dvT
    rw[yN,if_pos (by omega),show k-1-t=k-(t+1) by omega])
   rw[e2,Nat.sub_zero]
   generalize zsum (fun t=>zmul (at0 a (k-(t+1))) (at0 c (t+1))) (min k (c.length-1))=S
   have e3:zsub (zadd (zmul (at0 a k) (at0 c 0)) S) S=zmul (at0 a k) (at0 c 0):=by
    unfold zsub zadd
    ext<;>simp only<;>omega
   rw[e3,Ux hu]
  rw[e,ih]
  unfold oT
  rw[List.range_succ,List.map_append]
  rfl
theorem Tt(q:Nat):∃ p:Nat×Nat,bE ([(1065353216,0),(0,1065353216),(3212836864,0),(0,3212836864)]:List (Nat×Nat)) ((q%4:Nat):Int)=some p∧PV p (qz q):=by
 have one:SV 1065353216 1:=by
  have h:=rG (x:=1) (by decide)
  have e:FloatKind.f32.nearest 1=1065353216:=by decide +kernel
  rwa [e] at h
 have mone:SV 3212836864 (-1):=by
  have h:=rG (x:=-1) (by decide)
  have e:FloatKind.f32.nearest (-1)=3212836864:=by decide +kernel
  rwa [e] at h
 have zero:SV 0 0:=by
  have h:=rG (x:=0) (by decide)
  have e:FloatKind.f32.nearest 0=0:=by decide +kernel
  rwa [e] at h
 have hq:q%4=0∨q%4=1∨q%4=2∨q%4=3:=by omega
 unfold qz
 rcases hq with h|h|h|h<;>rw[h]
 ·exact⟨_,rfl,one,zero⟩
 ·exact⟨_,rfl,zero,one⟩
 ·exact⟨_,rfl,mone,zero⟩
 ·exact⟨_,rfl,zero,mone⟩
theorem Zl(q:Nat):lM (qz q):=by
 unfold qz lM
 split
 ·exact .inl rfl
 split
 ·exact .inr (.inl rfl)
 split
 ·exact .inr (.inr (.inl rfl))
 ·exact .inr (.inr (.inr rfl))
structure ChirpOf(n:Nat)(c:List (Nat×Nat)):Prop where
 len:c.length=n
 val:∀ p∈c,∃ z,PV p z∧lM z
theorem Wg{n b:Int}(hn:1≤n∧n≤1024)(hb:1≤b∧b≤1000):∃ c,mB n b=some (c,0)∧ChirpOf n.toNat c:=by
 have key:∀(d k:Nat) (v:List (Nat×Nat)) (q:Nat),k+d=n.toNat→v.length=k→(∀ p∈v,∃ z,PV p z∧lM z)→q≤k*1024→∃ c,run (fD n b) (v,(q:Int),(k:Int))=some c∧ChirpOf n.toNat c:=by
  intro d
  induction d with
  | zero =>
   intro k v q hk hv hp hq
   refine⟨v,mR ?_,⟨by omega,hp⟩⟩
   unfold fD
   simp only
   rw[if_neg (by rw[decide_eq_true_eq];omega)]
  | succ d ih =>
   intro k v q hk hv hp hq
   have hd:(k:Int).tdiv b=(k:Int)/b:=Int.tdiv_eq_ediv_of_nonneg (by omega)
   have h0:0≤(k:Int)/b:=Int.ediv_nonneg (by omega) (by omega)
   have h1:(k:Int)/b≤k:=Int.ediv_le_self _ (by omega)
   obtain⟨e,he⟩:∃ e:Nat,(k:Int)/b=(e:Int):=⟨((k:Int)/b).toNat,by omega⟩
   obtain⟨p,p1,p2⟩:=Tt (q+e)
   have step:fD n b (v,(q:Int),(k:Int))=some (.inl (v++[p],((q+e:Nat):Int),((k+1:Nat):Int))):=by
    unfold fD
    simp only
    rw[if_pos (by rw[decide_eq_true_eq];omega),if_neg (by omega),hd,he,w64 (x:=(e:Int)) (by omega),w64 (x:=(q:Int)+e) (by omega),Int.tmod_eq_emod_of_nonneg (by omega),show ((q:Int)+e)%4=(((q+e)%4:Nat):Int) by omega,p1]
    simp only[Option.bind_some]
    unfold jD
    rw[if_pos (by simp;omega)]
    simp only[Option.bind_some]
    rw[wsucc (n:=4096) (by omega) (by decide)]
    rfl
   rw[tL step]
   refine ih (k+1) (v++[p]) (q+e) (by omega) (by simp[hv]) (fun x hx=>?_) (by rw[Nat.add_mul];omega)
   rcases List.mem_append.1 hx with hx|hx
   ·exact hp x hx
   ·obtain rfl:=List.mem_singleton.1 hx
    exact⟨_,p2,Zl _⟩
 obtain⟨c,c1,c2⟩:=key n.toNat 0 [] 0 (by omega) rfl (fun p hp=>by simp at hp) (by omega)
 refine⟨c,?_,c2⟩
 have c1':run (fD n b) ([],0,0)=some c:=c1
 unfold mB dW aC aL aA
 rw[if_neg (by rw[decide_eq_true_eq];omega),if_neg (by rw[decide_eq_true_eq];omega)]
 have d1:decide (n>1024)=false:=by rw[decide_eq_false_iff_not];omega
 have d2:decide (b>1000)=false:=by rw[decide_eq_false_iff_not];omega
 simp only[Option.bind_some,d1,d2,Bool.false_eq_true,if_false,ne_eq,not_true_eq_false,decide_false]
 rw[c1']
 rfl
theorem Rv{l:List (Nat×Nat)}(hl:0<l.length∧l.length≤1024)(h:∀ p∈l,∃ z,PV p z∧small z):lE l=0:=by
 unfold lE
 rw[if_neg (by omega),if_neg (by omega)]
 have:cT (rZ l) l.length=none:=firstOf_none.2 (fun k hk=>by
  unfold rZ
  rw[List.getElem?_eq_getElem hk]
  simp only
  rw[if_pos]
  obtain⟨z,z1,z2⟩:=h l[k] (List.getElem_mem hk)
  unfold cE
  rw[Ma z1.1,Ma z1.2]
  simp only
  rw[if_pos]
  unfold sm24
  simp only[decide_eq_true_eq]
  exact z2)
 rw[this]
 rfl
theorem yC{w:List (Int×Int)}(h:∀ z∈w,small z):nums (w.map eW)=w:=by
 unfold nums
 rw[List.map_map]
 conv=>rhs;rw[← List.map_id w]
 exact List.map_congr_left (fun z hz=>Vt (h z hz))
theorem By{w:List (Int×Int)}(hl:0<w.length∧w.length≤1024)(h:∀ z∈w,small z):lE (w.map eW)=0:=
 Rv (by simp;exact hl) (fun p hp=>by
  obtain⟨z,hz,rfl⟩:=List.mem_map.1 hp
  exact⟨z,Jc (h z hz),h z hz⟩)
theorem aBg{a c:List (Int×Int)}{A:Int}(hA:0≤A)(ha:∀ k,zle A (at0 a k))(hc:∀ j,j<c.length→lM (at0 c j))(i k:Nat):zle (i*A) (cvS a c i k):=by
 unfold cvS
 refine xQ (fun t _=>?_)
 unfold cvT
 by_cases q:t≤k∧k-t<c.length
 ·rw[if_pos q]
  have hu:=hc (k-t) q.2
  have h:=ha t
  unfold zle at *
  rcases hu with e|e|e|e<;>rw[e]<;>simp[zmul]<;>omega
 ·rw[if_neg q]
  unfold zle
  simp
  omega
structure Lists(v1 v2:List (Int×Int))(a b s:List (Int×Int)):Prop where
 la:a.length=v1.length
 lb:b.length=v1.length
 ls:s.length=v1.length
 ba:∀ k,zle 10000 (at0 a k)
 bb:∀ k,zle 10000 (at0 b k)
 sum:∀ k,at0 s k=zadd (at0 a k) (at0 b k)
theorem qH(n a b:Int):aN n a b=some (decide (a≤n∧n≤b)):=by
 unfold aN
 by_cases h:a≤n
 ·rw[if_pos (decide_eq_true h)]
  simp[h]
 ·rw[if_neg (by simpa using h)]
  simp[h]
theorem Sr{x y:Int}(hx:-10000≤x∧x≤10000)(hy:-10000≤y∧y≤10000):iF x y=some (eW (x,y)):=by
 have e:∀ z:Int,-10000≤z∧z≤10000→(if (if z<10000 then z else 10000)>(-10000) then (if z<10000 then z else 10000) else (-10000))=z:=fun z hz=>by
  split<;>split<;>omega
 unfold iF
 rw[e x hx,e y hy]
 rfl
theorem Ft(f:Nat→Int)(c:Int):∀ n,isum (fun t=>f t*c) n=isum f n*c
 | 0=>by simp[isum]
 | n+1=>by simp only[isum];rw[Ft f c n,Int.add_mul]
theorem yY(f:Nat→Int)(c:Int):∀ n,isum (fun t=>c*f t) n=c*isum f n
 | 0=>by simp[isum]
 | n+1=>by simp only[isum];rw[yY f c n,Int.mul_add]
theorem Ku(f g:Nat→Int):∀ n,isum (fun t=>f t+g t) n=isum f n+isum g n
 | 0=>by simp[isum]
 | n+1=>by simp only[isum];rw[Ku f g n];omega
theorem Mh(f g:Nat→Int):∀ n,isum (fun t=>f t-g t) n=isum f n-isum g n
 | 0=>by simp[isum]
 | n+1=>by simp only[isum];rw[Mh f g n];omega
theorem Gm:∀ n,isum (fun _=>0) n=0
 | 0=>rfl
 | n+1=>by simp only[isum];rw[Gm n];omega
theorem zE(f:Nat→Nat→Int)(m:Nat):∀ n,isum (fun t=>isum (fun j=>f t j) m) n=isum (fun j=>isum (fun t=>f t j) n) m
 | 0=>by simp only[isum];rw[Gm]
 | n+1=>by simp only[isum];rw[zE f m n,Ku]
theorem Nk(x:Int)(k:Nat):∀ n,isum (fun j=>if j=k then x else 0) n=if k<n then x else 0
 | 0=>by simp[isum]
 | n+1=>by
  simp only[isum]
  rw[Nk x k n]
  by_cases h1:k<n
  ·rw[if_pos h1,if_neg (by omega),if_pos (by omega)];omega
  ·by_cases h2:n=k
   ·rw[if_neg h1,if_pos h2,if_pos (by omega)];omega
   ·rw[if_neg h1,if_neg h2,if_neg (by omega)];omega
def sgq(L:Nat)(ts:List Nat)(s k:Nat):Int:=1-2*((bt L ts s k:Nat):Int)
section
variable {L:Nat} {ts:List Nat} {s:Nat}
theorem zT(hr:Reg L ts)(s a t:Nat):sgq L ts s (t+a)=sgq L ts (stt L ts s a) t:=by
 unfold sgq bt
 rw[Nat.add_comm,sM]
theorem Zu(hr:Reg L ts)(hm:Maxi L ts)(h0:0<s)(hs:s<2^L)(a:Nat):isum (fun t=>sgq L ts s (t+a)) (2^L-1) = -1:=by
 rw[cQ (fun t _=>zT hr s a t)]
 obtain⟨h1,h2⟩:=jK hr h0 hs a
 exact Gw hr hm h1 h2
theorem Wh(hr:Reg L ts)(hm:Maxi L ts)(h0:0<s)(hs:s<2^L){j k:Nat}(hj:j<2^L-1)(hk:k<2^L-1):isum (fun t=>sgq L ts s (t+(2^L-1-j))*sgq L ts s (t+(2^L-1-k))) (2^L-1)=if j=k then ((2^L-1:Nat):Int) else -1:=by
 have key:∀ j k:Nat,k≤j→j<2^L-1→isum (fun t=>sgq L ts s (t+(2^L-1-j))*sgq L ts s (t+(2^L-1-k))) (2^L-1)=if j=k then ((2^L-1:Nat):Int) else -1:=by
  intro j k hkj hj
  obtain⟨h1,h2⟩:=jK hr h0 hs (2^L-1-j)
  have e:∀ t,t<2^L-1→sgq L ts s (t+(2^L-1-j))*sgq L ts s (t+(2^L-1-k))=sgq L ts (stt L ts s (2^L-1-j)) t*sgq L ts (stt L ts s (2^L-1-j)) (j-k+t):=by
   intro t _
   rw[show t+(2^L-1-k)=(j-k+t)+(2^L-1-j) by omega,zT hr,zT hr]
  rw[cQ e]
  have c:=Up hr hm h1 h2 (d:=j-k) (by omega)
  unfold sgq
  rw[c]
  by_cases h:j=k
  ·rw[if_pos h,if_pos (by omega)]
  ·rw[if_neg h,if_neg (by omega)]
 rcases Nat.le_total k j with h|h
 ·exact key j k h hj
 ·rw[cQ (fun t _=>Int.mul_comm _ _),key k j h hk]
  by_cases e:j=k
  ·rw[if_pos e,if_pos e.symm]
  ·rw[if_neg e,if_neg (fun x=>e x.symm)]
theorem Gv(hr:Reg L ts)(hm:Maxi L ts)(h0:0<s)(hs:s<2^L)(a:Nat→Int){k:Nat}(hk:k<2^L-1) :
 isum (fun t=>isum (fun j=>a j*sgq L ts s (t+(2^L-1-j))) (2^L-1)*sgq L ts s (t+(2^L-1-k))) (2^L-1)-isum (fun t=>isum (fun j=>a j*sgq L ts s (t+(2^L-1-j))) (2^L-1)) (2^L-1)=a k*((2^L-1+1:Nat):Int):=by
 have e1:isum (fun t=>isum (fun j=>a j*sgq L ts s (t+(2^L-1-j))) (2^L-1)*sgq L ts s (t+(2^L-1-k))) (2^L-1)=isum (fun j=>a j*if j=k then ((2^L-1:Nat):Int) else -1) (2^L-1):=by
  rw[cQ (fun t _=>(Ft _ _ _).symm),zE]
  refine cQ (fun j hj=>?_)
  rw[← Wh hr hm h0 hs hj hk,← yY]
  exact cQ (fun t _=>Int.mul_assoc _ _ _)
 have e2:isum (fun t=>isum (fun j=>a j*sgq L ts s (t+(2^L-1-j))) (2^L-1)) (2^L-1)=isum (fun j=>a j*-1) (2^L-1):=by
  rw[zE]
  refine cQ (fun j hj=>?_)
  rw[yY,Zu hr hm h0 hs]
 rw[e1,e2,← Mh]
 have e3:∀ j,j<2^L-1→(a j*(if j=k then ((2^L-1:Nat):Int) else -1)-a j*-1)=if j=k then a k*((2^L-1+1:Nat):Int) else 0:=by
  intro j _
  by_cases h:j=k
  ·subst h
   rw[if_pos rfl,if_pos rfl,← Int.mul_sub]
   congr 1
  ·rw[if_neg h,if_neg h]
   omega
 rw[cQ e3,Nk,if_pos hk]
theorem aA4(hr:Reg L ts)(hm:Maxi L ts)(h0:0<s)(hs:s<2^L)(m:Nat):atS (sgl L ts s (2^L-1)) (m%(2^L-1))=sgq L ts s m:=by
 have h1:=qU hr
 have hlt:m%(2^L-1)<2^L-1:=Nat.mod_lt _ (by omega)
 have h:=qM (S:=sgl L ts s (2^L-1)) (k:=m%(2^L-1)) (by rw[mP];exact hlt)
 have e:(sgl L ts s (2^L-1))[m%(2^L-1)]?=some (sgq L ts s (m%(2^L-1))):=by
  unfold sgl sgq
  rw[List.getElem?_map,List.getElem?_range hlt]
  rfl
 rw[e] at h
 rw[← Option.some.inj h]
 unfold sgq bt
 have hp:=(Eg hr hm h0 hs).1.2
 have:=Uw hr hp (m/(2^L-1)) (m%(2^L-1))
 rw[Nat.mod_add_div] at this
 rw[this]
end
theorem xW(f:Nat→Int×Int):∀ n,(zsum f n).1=isum (fun t=>(f t).1) n∧(zsum f n).2=isum (fun t=>(f t).2) n
 | 0=>⟨rfl,rfl⟩
 | n+1=>by
  obtain⟨h1,h2⟩:=xW f n
  simp only[zsum,zadd,isum]
  rw[h1,h2]
  exact⟨rfl,rfl⟩
theorem Th{L:Nat}{ts:List Nat}{s:Nat}(hr:Reg L ts)(hm:Maxi L ts)(h0:0<s)(hs:s<2^L)(W:List (Int×Int)) :
 cor (wgh W (sgl L ts s (2^L-1))) (sgl L ts s (2^L-1))=(List.range (2^L-1)).map fun k=>zstr (at0 W k) ((2^L-1+1:Nat):Int):=by
 have hl:=mP L ts s (2^L-1)
 have hS:=fun m=>aA4 hr hm h0 hs m
 generalize hSS:sgl L ts s (2^L-1)=S at *
 unfold cor
 rw[hl]
 apply List.map_congr_left
 intro k hk
 rw[List.mem_range] at hk
 have w:∀ t,t<2^L-1→at0 (wgh W S) t=(isum (fun j=>(at0 W j).1*sgq L ts s (t+(2^L-1-j))) (2^L-1),isum (fun j=>(at0 W j).2*sgq L ts s (t+(2^L-1-j))) (2^L-1)):=by
  intro t ht
  rw[Ph (by omega),hl]
  unfold wgS
  obtain⟨h1,h2⟩:=xW (wgT W S t) (2^L-1)
  refine Prod.ext (h1.trans ?_) (h2.trans ?_)
  ·refine cQ (fun j hj=>?_)
   unfold wgT zstr
   rw[hl,hS,show t+(2^L-1)-j=t+(2^L-1-j) by omega]
  ·refine cQ (fun j hj=>?_)
   unfold wgT zstr
   rw[hl,hS,show t+(2^L-1)-j=t+(2^L-1-j) by omega]
 have c:∀ t,t<2^L-1→crT (wgh W S) S k t=(isum (fun j=>(at0 W j).1*sgq L ts s (t+(2^L-1-j))) (2^L-1)*sgq L ts s (t+(2^L-1-k)),isum (fun j=>(at0 W j).2*sgq L ts s (t+(2^L-1-j))) (2^L-1)*sgq L ts s (t+(2^L-1-k))):=by
  intro t ht
  unfold crT zstr
  rw[w t ht,hl,hS,show t+(2^L-1)-k=t+(2^L-1-k) by omega]
 obtain⟨a1,a2⟩:=xW (crT (wgh W S) S k) (2^L-1)
 obtain⟨b1,b2⟩:=xW (at0 (wgh W S)) (2^L-1)
 have x1:=Gv hr hm h0 hs (fun j=>(at0 W j).1) hk
 have x2:=Gv hr hm h0 hs (fun j=>(at0 W j).2) hk
 unfold zsub zstr crS
 refine Prod.ext ?_ ?_
 ·simp only
  rw[a1,b1,← x1,cQ (fun t ht=>by rw[c t ht]),cQ (n:=2^L-1) (f:=fun t=>(at0 (wgh W S) t).1) (fun t ht=>by rw[w t ht])]
 ·simp only
  rw[a2,b2,← x2,cQ (fun t ht=>by rw[c t ht]),cQ (n:=2^L-1) (f:=fun t=>(at0 (wgh W S) t).2) (fun t ht=>by rw[w t ht])]
theorem Yr{L:Nat}{ts:List Nat}{s:Nat}(hr:Reg L ts)(hm:Maxi L ts)(h0:0<s)(hs:s<2^L)(W:List (Int×Int)):unV (wgh W (sgl L ts s (2^L-1))) (sgl L ts s (2^L-1))=rec (oT W (2^L-1)):=by
 have hl:=mP L ts s (2^L-1)
 unfold unV
 rw[Th hr hm h0 hs,hl]
 have e:∀ z∈(List.range (2^L-1)).map (fun k=>zstr (at0 W k) ((2^L-1+1:Nat):Int)),even2 ((2^L-1+1:Nat):Int) z:=by
  intro z hz
  obtain⟨k,_,rfl⟩:=List.mem_map.1 hz
  unfold even2 zstr
  exact⟨Int.mul_tmod_left _ _,Int.mul_tmod_left _ _⟩
 rw[if_pos e,List.map_map]
 congr 1
 unfold oT
 apply List.map_congr_left
 intro k _
 show qt _ (zstr (at0 W k) _)=at0 W k
 unfold qt zstr
 simp only
 rw[Int.mul_tdiv_cancel _ (by omega),Int.mul_tdiv_cancel _ (by omega)]
end Go.Rex
namespace Go.Rex
open Go Go.Rex
set_option maxRecDepth 100000
theorem aAm(l:List (Nat×Nat))(h:l.length≤1024):jD 8 ([]:List (Nat×Nat)) l=some l:=by
 unfold jD
 rw[if_pos (by simp;omega)]
 rfl
theorem rB{w:List (Int×Int)}(h:∀ k,zle 16777216 (at0 w k)):∀ z∈w,small z:=by
 intro z hz
 obtain⟨k,hk⟩:=List.mem_iff_getElem?.1 hz
 have hkl:=(List.getElem?_eq_some_iff.1 hk).1
 have:=cS hkl
 rw[hk] at this
 rw[Option.some.inj this]
 have:=h k
 unfold zle at this
 exact this
theorem rA{A B:Int}{z:Int×Int}(h:A≤B)(hz:zle A z):zle B z:=by unfold zle at *;omega
theorem Pa{n:Nat}{c:List (Nat×Nat)}(hn:0<n∧n≤1024)(C:ChirpOf n c):lE c=0∧(nums c).length=n∧∀ j,j<(nums c).length→lM (at0 (nums c) j):=by
 have hl:=C.len
 refine⟨Rv (by omega) (fun p hp=>?_),by rw[dE];exact hl,fun j hj=>?_⟩
 ·obtain⟨z,z1,z2⟩:=C.val p hp
  exact⟨z,z1,(El z2).1⟩
 ·rw[dE] at hj
  have h1:=cS (w:=nums c) (k:=j) (by rw[dE];exact hj)
  rw[Kl hj] at h1
  obtain⟨z,z1,z2⟩:=C.val c[j] (List.getElem_mem hj)
  rw[← Option.some.inj h1,Yx z1]
  exact z2
def inM(M:Int)(z:Int×Int):Prop:=(-M≤z.1∧z.1≤M)∧(-M≤z.2∧z.2≤M)
instance (M:Int) (z:Int×Int):Decidable (inM M z):=by unfold inM;exact inferInstance
theorem Rr{α β ε:Type}(P:α→Prop)[DecidablePred P](g:α→β)(e:ε)(fin:List β→ε):∀(l:List α) (b:List β),walk (fun b z=>if P z then (.inl (b++[g z]):List β ⊕ ε) else .inr e) fin b l=if ∀ z∈l,P z then fin (b++l.map g) else e
 | [],b=>by simp[walk]
 | z::l,b=>by
  simp only[walk]
  by_cases h:P z
  ·rw[if_pos h]
   simp only
   rw[Rr P g e fin l]
   by_cases h2:∀ z∈l,P z
   ·rw[if_pos h2,if_pos (by intro y hy;rcases List.mem_cons.1 hy with rfl|hy;exact h;exact h2 y hy)]
    simp
   ·rw[if_neg h2,if_neg (fun h3=>h2 fun y hy=>h3 y (List.mem_cons_of_mem _ hy))]
  ·rw[if_neg h,if_neg (fun h3=>h (h3 z List.mem_cons_self))]
theorem Nr(w:List (Int×Int)){M:Int}(hM:0≤M∧M≤10000)(lw:w.length≤1000):jB w M=some (if ∀ z∈w,inM M z then (w.map eW,true) else ([],false)):=by
 have key:=Eo (step:=eD w M) (fun k (b:List (Nat×Nat))=>(b,(k:Int))) (fun b z=>if inM M z then (.inl (b++[eW z]):List (Nat×Nat) ⊕ (Unit ⊕ List (Nat×Nat))) else .inr (.inl ())) (fun b=>.inr b) (fun k b=>b.length=k) w
  (fun k z b hz hb=>by
   have hk:=(List.getElem?_eq_some_iff.1 hz).1
   constructor
   ·unfold eD
    try simp only
    rw[if_pos (by rw[decide_eq_true_eq];omega),aE,hz,Option.bind_some]
    try simp only
    rw[w64 (x:=0-M) (by omega),qH,Option.bind_some,show (0:Int)-M = -M by omega]
    by_cases h1:-M≤z.1∧z.1≤M
    ·rw[if_pos (decide_eq_true h1),qH,Option.bind_some]
     by_cases h2:-M≤z.2∧z.2≤M
     ·rw[if_pos (decide_eq_true h2),if_pos (show inM M z from ⟨h1,h2⟩),Sr (by omega) (by omega),Option.bind_some]
      unfold jD
      rw[wsucc (n:=1024) (by omega) (by decide)]
      dsimp only
      rw[if_pos (by simp;omega),Option.bind_some]
     ·rw[if_neg (by simpa using h2),if_neg (show ¬ inM M z from fun h=>h2 h.2)]
    ·rw[if_neg (by simpa using h1),if_neg (show ¬ inM M z from fun h=>h1 h.1)]
   ·intro b' hb'
    split at hb'
    ·obtain rfl:=Sum.inl.inj hb'
     simp[hb]
    ·cases hb')
  (fun b hb=>by
   unfold eD
   try simp only
   rw[if_neg (by rw[decide_eq_true_eq];omega)]) (b0:=[]) rfl
 rw[Rr] at key
 simp only[Int.natCast_zero,List.nil_append] at key
 unfold jB
 rw[key,Option.bind_some]
 by_cases h:∀ z∈w,inM M z
 ·rw[if_pos h,if_pos h]
 ·rw[if_neg h,if_neg h]
structure Whole(L:Int)(t:List Int)(s:Int)(n:Nat)(ts:List Nat)(q:Nat):Prop where
 eL:L=n
 et:t=ints ts
 es:s=q
 lt:(ints ts).length≤8
 reg:Reg n ts
 chk:chk n (ints ts)=0
 pos:0<q
 les:q<2^n
 le5:n≤5
 max:Maxi n ts
theorem Xw(L:Int)(t:List Int)(s:Int):gF L t s=some false∨(gF L t s=some true∧∃ n ts q,Whole L t s n ts q):=by
 unfold gF
 by_cases h0:(t.length:Int)≤8
 rotate_left
 ·rw[if_neg (by simpa using h0)];exact .inl rfl
 rw[if_pos (decide_eq_true h0)]
 have ht:t.length≤12:=by omega
 by_cases hc:chk L t=0
 rotate_left
 ·have e : dZ L t s = some (chk L t) := by
    unfold dZ
    rw[Qu _ _ ht,Option.bind_some,if_pos (by simpa using hc)]
  rw[e,Option.bind_some,if_neg (by simpa using hc)]
  exact .inl rfl
 obtain⟨n,ts,rfl,rfl,hr⟩:=aBv ht hc
 have hL:=hr.most
 have hp:=pow8 hL
 rw[uF s ht hc hL,Option.bind_some]
 by_cases hs:1≤s∧s≤((2^n-1:Nat):Int)
 rotate_left
 ·rw[if_neg hs,if_neg (by decide)];exact .inl rfl
 rw[if_pos hs,if_pos (by decide)]
 by_cases h5:(n:Int)≤5
 rotate_left
 ·rw[if_neg (by simpa using h5)];exact .inl rfl
 rw[if_pos (decide_eq_true h5)]
 obtain⟨m,hp2,hm⟩:=Pl hr (s:=1) (by omega) (qU hr)
 rw[aAr hr hp2 hm,Option.bind_some]
 by_cases h:m=2^n-1
 ·subst h
  rw[decide_eq_true rfl]
  refine .inr ⟨rfl,n,ts,s.toNat,⟨rfl,rfl,by omega,by omega,hr,hc,by omega,by omega,by omega,hp2⟩⟩
 ·rw[decide_eq_false h];exact .inl rfl
theorem pow5{n:Nat}(h:n≤5):2^n≤32:=Nat.pow_le_pow_right (by omega) h
theorem Ky{a b:List (Int×Int)}(hl:a.length=b.length)(h:∀ k,k<a.length→at0 a k=at0 b k):a=b:=by
 apply List.ext_getElem?
 intro k
 by_cases hk:k<a.length
 ·rw[cS hk,cS (by omega),h k hk]
 ·rw[List.getElem?_eq_none (by omega),List.getElem?_eq_none (by omega)]
theorem Yo(w:List (Int×Int))(N:Nat):∀ t k:Nat,t≤N→k<N→at0 (fo w N t) k=if k<t then at0 w k else (0,0)
 | 0,k,_,hk=>by
  rw[if_neg (by omega)]
  unfold fo at0
  rw[List.getD_eq_getElem?_getD,List.getElem?_replicate,if_pos hk]
  rfl
 | t+1,k,ht,hk=>by
  simp only[fo]
  rw[Nat.mod_eq_of_lt (by omega),Hj,qB]
  by_cases q:t=k
  ·subst q
   rw[if_pos ⟨rfl,hk⟩,if_pos (by omega),Yo w N t t (by omega) hk,if_neg (by omega)]
   unfold zadd;simp
  ·rw[if_neg (fun h=>q h.1),Yo w N t k (by omega) hk]
   by_cases c:k<t
   ·rw[if_pos c,if_pos (by omega)]
   ·rw[if_neg c,if_neg (by omega)]
theorem pP(w:List (Int×Int))(N:Nat):(oT w N).length=N:=by unfold oT;simp
theorem Nv{w:List (Int×Int)}{N:Nat}(h:w.length≤N):fold w N=oT w N:=by
 unfold fold
 refine Ky (by rw[qB,pP]) (fun k hk=>?_)
 rw[qB] at hk
 rw[Yo w N w.length k h hk,yN,if_pos hk]
 by_cases c:k<w.length
 ·rw[if_pos c]
 ·rw[if_neg c,vL (by omega)]
theorem Qp(w:List (Int×Int))(N:Nat):oT (oT w N) N=oT w N:=by
 refine Ky (by rw[pP,pP]) (fun k hk=>?_)
 rw[pP] at hk
 rw[yN,if_pos hk]
theorem Gz{w:List (Int×Int)}{N:Nat}(h:w.length≤N):(oT w N).take w.length=w:=by
 apply List.ext_getElem?
 intro k
 rw[List.getElem?_take]
 by_cases hk:k<w.length
 ·rw[if_pos hk,cS (by rw[pP];omega),yN,if_pos (by omega),cS hk]
 ·rw[if_neg hk,List.getElem?_eq_none (by omega)]
theorem wN{w:List (Int×Int)}{A:Int}(hA:0≤A)(h:∀ k,zle A (at0 w k))(N k:Nat):zle A (at0 (oT w N) k):=by
 rw[yN]
 split
 ·exact h k
 ·unfold zle;simp;omega
theorem rV{w:List (Int×Int)}(h:∀ z∈w,small z):rec w=(w.map eW,0):=by
 unfold rec
 rw[if_pos h]
section
variable {w:List (Int×Int)} {A:Int} (hA:0≤A∧A≤10000) (hw:∀ k,zle A (at0 w k)) (lw:0<w.length∧w.length≤31)
include hA hw lw
theorem Px{n:Nat}{c:List (Nat×Nat)}(hn:0<n∧n≤40)(C:ChirpOf n c) :
 ∃ y,fG (w.map eW) c=some (y,0)∧∃ a,gE y c=some (a,0)∧w.length≤a.length∧a.take w.length=w.map eW:=by
 obtain⟨c1,c2,c3⟩:=Pa (by omega) C
 have hl:=C.len
 have sw:=rB (w:=w) (fun k=>rA (by omega) (hw k))
 have e1:lE (w.map eW)=0:=By (by omega) sw
 have scv:∀ z∈cv w (nums c),small z:=by
  refine rB (fun k=>?_)
  by_cases hk:k<w.length+(nums c).length-1
  ·rw[aAs w (nums c) hk]
   have h:=aBg hA.1 hw c3 w.length k
   refine rA ?_ h
   have:(w.length:Int)*A≤31*10000:=Int.mul_le_mul (by omega) hA.2 hA.1 (by decide)
   omega
  ·rw[vL (by rw[Nu];omega)]
   unfold zle;simp
 have l1:=Nu w (nums c)
 have eS:fG (w.map eW) c=some ((cv w (nums c)).map eW,0):=by
  rw[Nz _ _ (by simp;omega) (by omega)]
  unfold swV
  rw[if_neg (by rw[e1];decide),if_neg (by rw[c1];decide),if_neg (by simp;omega),yC sw,rV scv]
 refine⟨_,eS,?_⟩
 have hk:w.length≤w.length+(nums c).length-1:=by omega
 have sp:∀ z∈oT w (w.length+(nums c).length-1),small z:=rB (fun k=>rA (by omega) (wN hA.1 hw _ k))
 refine⟨(oT w (w.length+(nums c).length-1)).map eW,?_,by rw[List.length_map,pP];exact hk,by rw[← List.map_take,Gz hk]⟩
 rw[Jm]
 unfold dvV
 rw[if_neg (by rw[By (by omega) scv];decide),if_neg (by rw[c1];decide),if_pos (c3 0 (by omega)),yC scv,List.length_map,l1,aAo w (nums c) (by omega) (c3 0 (by omega)) (Nat.le_refl _),rV sp]
theorem Fk{n:Nat}{ts:List Nat}{q:Nat}{L:Int}{t:List Int}{s:Int}(R:Whole L t s n ts q)(hN:w.length≤2^n-1) :
 ∃ z,eX (w.map eW) n (ints ts) q=some (z,0)∧∃ b,gJ z n (ints ts) q=some (b,0)∧w.length≤b.length∧b.take w.length=w.map eW:=by
 have sw:=rB (w:=w) (fun k=>rA (by omega) (hw k))
 have e1:lE (w.map eW)=0:=By (by omega) sw
 have hr:=R.reg
 have lt:=R.lt
 have h1:=qU hr
 have h32:2^n≤32:=pow5 R.le5
 have sp:∀ z∈oT w (2^n-1),small z:=rB (fun k=>rA (by omega) (wN hA.1 hw _ k))
 have hS:=tP n ts q (2^n-1)
 have ln:=mP n ts q (2^n-1)
 have sE:∀ z∈wgh (oT w (2^n-1)) (sgl n ts q (2^n-1)),small z:=by
  refine rB (fun k=>?_)
  by_cases hk:k<2^n-1
  ·rw[Ph (by rw[ln];exact hk),ln]
   have b:=xQ (f:=wgT (oT w (2^n-1)) (sgl n ts q (2^n-1)) k) (B:=A) (n:=2^n-1) (fun j _=>uY (wN hA.1 hw _ j) (hS _ (Nat.mod_lt _ (by omega))))
   refine rA ?_ b
   have:((2^n-1:Nat):Int)*A≤31*10000:=Int.mul_le_mul (by omega) hA.2 hA.1 (by decide)
   omega
  ·rw[vL (by rw[sG];omega)]
   unfold zle;simp
 have eE:eX (w.map eW) n (ints ts) q=some ((wgh (oT w (2^n-1)) (sgl n ts q (2^n-1))).map eW,0):=by
  rw[(Pq (s:=q) (by omega) e1 R.chk hr R.pos R.les).1]
  unfold exG
  rw[yC sw,ln,Nv hN,rV sp,if_neg (by simp),rV sE]
 refine⟨_,eE,?_⟩
 have lE':lE ((wgh (oT w (2^n-1)) (sgl n ts q (2^n-1))).map eW)=0:=By (by rw[sG,ln];omega) sE
 refine⟨(oT w (2^n-1)).map eW,?_,by rw[List.length_map,pP];exact hN,by rw[← List.map_take,Gz hN]⟩
 rw[(aBN (s:=q) (by omega) lE' R.chk hr R.pos R.les R.max (Nat.le_refl _)).1]
 unfold unG
 rw[if_pos rfl,if_pos (by rw[List.length_map,sG,ln]),yC sE,Yr hr R.max R.pos R.les,Qp,rV sp]
end
theorem Ml(l:List (Nat×Nat))(h:l.length≤1024):iP l=some l:=by
 unfold iP
 rw[aAm l h,Option.bind_some]
theorem Ff(v1:List (Int×Int))(L:Int)(t:List Int)(s n b:Int):fM v1 L t s n b=some true:=by
 unfold fM
 by_cases h0:(v1.length:Int)=0
 ·rw[if_pos (decide_eq_true h0)]
 rw[if_neg (by simpa using h0)]
 by_cases h1:(v1.length:Int)>31
 ·rw[if_pos (decide_eq_true h1)]
 rw[if_neg (by simpa using h1)]
 rcases Xw L t s with hw|⟨hw,m,ts,q,R⟩
 ·rw[hw,Option.bind_some,if_neg (by decide)]
 rw[hw,Option.bind_some,if_pos (show true=true from rfl)]
 have lt:=R.lt
 have hr:=R.reg
 have hm8:=hr.most
 have h32:2^m≤32:=pow5 R.le5
 obtain rfl:=R.eL
 obtain rfl:=R.et
 obtain rfl:=R.es
 rw[vF hm8,Option.bind_some]
 by_cases h2:(v1.length:Int)>((2^m-1:Nat):Int)
 ·rw[if_pos (decide_eq_true h2)]
 rw[if_neg (by simpa using h2),qH,Option.bind_some]
 by_cases hn:1≤n∧n≤40
 rotate_left
 ·rw[if_neg (by simpa using hn)]
 rw[if_pos (decide_eq_true hn),qH,Option.bind_some]
 by_cases hb:1≤b∧b≤1000
 rotate_left
 ·rw[if_neg (by simpa using hb)]
 rw[if_pos (decide_eq_true hb),Nr v1 (M:=1000) (by omega) (by omega),Option.bind_some]
 by_cases hk:∀ z∈v1,inM 1000 z
 rotate_left
 ·rw[if_neg hk];rfl
 rw[if_pos hk]
 dsimp only
 rw[if_pos (show true=true from rfl)]
 have hz:∀ k,zle 1000 (at0 v1 k):=by
  intro k
  by_cases h:k<v1.length
  ·have g:=cS h
   exact hk _ (List.mem_iff_getElem?.2 ⟨k,g⟩)
  ·rw[vL (by omega)];unfold zle;simp
 have lw:0<v1.length∧v1.length≤31:=by omega
 obtain⟨c,hc,C⟩:=Wg (n:=n) (b:=b) (by omega) hb
 have hcl:=C.len
 obtain⟨y,y1,a,a1,a2,a3⟩:=Px (A:=1000) (by omega) hz lw (n:=n.toNat) (by omega) C
 obtain⟨z,z1,d,d1,d2,d3⟩:=Fk (A:=1000) (by omega) hz lw R (by omega)
 have ln:(v1.map eW).length=v1.length:=List.length_map _
 have same:aQ (v1.map eW) (v1.map eW)=some true:=by
  refine Sg _ (by omega) (fun p hp=>?_)
  obtain⟨x,hx,rfl⟩:=List.mem_map.1 hp
  have sx:=hk x hx
  exact⟨x,Jc (by unfold inM at sx;unfold small;omega)⟩
 have cut:∀ l:List (Nat×Nat),v1.length≤l.length→Mn l (v1.length:Int)=some v1.length:=fun l hl=>by
  unfold Mn
  rw[if_pos (by omega),Int.toNat_natCast]
 rw[hc,Option.bind_some]
 dsimp only
 rw[Ml _ (by omega),Option.bind_some,Ml c (by omega),Option.bind_some,y1,Option.bind_some]
 dsimp only
 rw[a1,Option.bind_some]
 dsimp only
 rw[Option.bind_some,Yg _ _ (by omega),Option.bind_some]
 dsimp only
 rw[z1,Option.bind_some]
 dsimp only
 rw[Option.bind_some]
 dsimp only
 rw[d1,Option.bind_some]
 dsimp only
 rw[if_neg (by simp),if_neg (by simp),if_neg (by simp),if_neg (by simp),if_neg (by simp),ln,if_neg (by rw[decide_eq_true_eq];omega),if_neg (by rw[decide_eq_true_eq];omega),cut a a2,Option.bind_some,a3,same,Option.bind_some,if_pos (show true=true from rfl),cut d d2,Option.bind_some,d3,same,Option.bind_some]
end Go.Rex
namespace Go.Rex
open Go Go.ChangeShapes Go.WideShapes Go.ChangeAt Go.RowKit Go.Joins Go.Proofs
structure Arg(W:World)(v':Value)(p:TV)(bs:List Blk)(is:List Info)(av:Nat→Value):Prop where
 vr:∀(D:Nat→Prop) (m:NMap) n,(∀ j,j<bs.length→D (n+j))→(∀(j:Nat) i,is[j]?=some i→m (n+j)=i)→VR D m (av n) v'
 vl:∀(Fz:Nat→Prop) (h:List Blk) n,(∀ j,j<bs.length→Fz (n+j))→(∀(j:Nat) b,bs[j]?=some b→h[n+j]?=some b)→VL Fz h noL p (av n)
 ok:∀(D:Nat→Prop) (m:NMap) n,(∀ j,j<bs.length→D (n+j))→(∀(j:Nat) i,is[j]?=some i→m (n+j)=i)→∀(j:Nat) b,bs[j]?=some b→BlkOk D m W (n+j) b
 lt:∀(j:Nat) b i,bs[j]?=some b→is[j]?=some i→b ≠ .dead→i.block<W.heap.size
 len:is.length=bs.length
structure Args(W:World)(vs':List Value)(ps:List TV)(bs:List Blk)(is:List Info)(av:Nat→List Value):Prop where
 vr:∀(D:Nat→Prop) (m:NMap) n,(∀ j,j<bs.length→D (n+j))→(∀(j:Nat) i,is[j]?=some i→m (n+j)=i)→VRs D m (av n) vs'
 vl:∀(Fz:Nat→Prop) (h:List Blk) n,(∀ j,j<bs.length→Fz (n+j))→(∀(j:Nat) b,bs[j]?=some b→h[n+j]?=some b)→VLs Fz h noL ps (av n)
 ok:∀(D:Nat→Prop) (m:NMap) n,(∀ j,j<bs.length→D (n+j))→(∀(j:Nat) i,is[j]?=some i→m (n+j)=i)→∀(j:Nat) b,bs[j]?=some b→BlkOk D m W (n+j) b
 lt:∀(j:Nat) b i,bs[j]?=some b→is[j]?=some i→b ≠ .dead→i.block<W.heap.size
 len:is.length=bs.length
def nm(is:List Info):NMap:=fun n=>is.getD n ⟨0,0,0,0⟩
section
variable {W:World} {vs':List Value} {ps:List TV} {bs:List Blk} {is:List Info} {av:Nat→List Value}
end
theorem len1{α:Type}{l:List α}(h:l.length=1):∃ x0,l=[x0]:=by
 match l,h with
 | [x0],_=>exact⟨_,rfl⟩
theorem len2{α:Type}{l:List α}(h:l.length=2):∃ x0 x1,l=[x0,x1]:=by
 match l,h with
 | [x0,x1],_=>exact⟨_,_,rfl⟩
theorem len3{α:Type}{l:List α}(h:l.length=3):∃ x0 x1 x2,l=[x0,x1,x2]:=by
 match l,h with
 | [x0,x1,x2],_=>exact⟨_,_,_,rfl⟩
def Nj(c:Value):Prop:=qX c=true∧∀ D m,VR D m c c
theorem rT(k:IntKind)(n:Int):Nj (.int k n):=⟨rfl,fun _ _=>.int _ _⟩
theorem Arg.atom{W:World}{v:Value}(h:Nj v):Arg W v (.v v) [] [] (fun _=>v):=
 ⟨fun _ _ _ _ _=>h.2 _ _,fun _ _ _ _ _=>.v _ _ h.1,fun _ _ _ _ _ j b h=>by simp at h,fun j b i h=>by simp at h,rfl⟩
theorem Arg.agg{W:World}{l:List Value}(h:∀ c∈l,Nj c):Arg W (.agg ⟨l⟩) (.agg (l.map .v)) [] [] (fun _=>.agg ⟨l⟩):=by
 refine⟨fun _ _ _ _ _=>.agg _ _ rfl fun i v v' hv hv'=>?_,fun _ _ _ _ _=>.agg _ _ _ (by simp) fun i p x hp hx=>?_,fun _ _ _ _ _ j b h=>by simp at h,fun j b i h=>by simp at h,rfl⟩
 ·obtain rfl:v=v':=Option.some.inj (hv.symm.trans hv')
  exact (h v (List.mem_of_getElem? hv)).2 _ _
 ·rw[List.getElem?_map,hx] at hp
  obtain rfl:=Option.some.inj hp
  exact .v _ _ (h x (List.mem_of_getElem? hx)).1
theorem Ej{α β:Type}{g:α→List β}{es:Nat}(hg:∀ x,(g x).length=es)(he:0<es):∀(xs:List α) i,(xs.flatMap g)[i]?=(xs[i/es]?).bind fun x=>(g x)[i%es]?
 | [],i=>by simp
 | x::t,i=>by
  rw[List.flatMap_cons]
  rcases Nat.lt_or_ge i es with h|h
  ·rw[List.getElem?_append_left (by rw[hg];exact h),Nat.div_eq_of_lt h,Nat.mod_eq_of_lt h]
   rfl
  ·rw[List.getElem?_append_right (by rw[hg];exact h),hg,Ej hg he t (i-es)]
   have e1:i/es=(i-es)/es+1:=by rw[Nat.div_eq_sub_div he h]
   have e2:i%es=(i-es)%es:=Nat.mod_eq_sub_mod h
   rw[e1,e2]
   rfl
theorem Av{α β:Type}{g:α→List β}{es:Nat}(hg:∀ x,(g x).length=es):∀(xs:List α),(xs.flatMap g).length=xs.length*es
 | []=>by simp
 | x::t=>by rw[List.flatMap_cons,List.length_append,hg,Av hg t,List.length_cons,Nat.add_mul];omega
theorem Ar{α:Type}{f:α→List TV}{g:α→List Value}(hf:∀ x,f x=(g x).map .v):∀(xs:List α),(xs.map f).flatten=(xs.flatMap g).map .v
 | []=>rfl
 | x::t=>by rw[List.map_cons,List.flatten_cons,Ar hf t,List.flatMap_cons,List.map_append,hf]
theorem Ay{α:Type}{Q:Nat→α→Prop}:∀ n,(∀ i,i<n→∃ x,Q i x)→∃ xs:List α,xs.length=n∧∀(i:Nat) x,xs[i]?=some x→Q i x
 | 0,_=>⟨[],rfl,fun i x h=>by simp at h⟩
 | n+1,h=>by
  obtain⟨xs,hl,hq⟩:=Ay n (fun i hi=>h i (by omega))
  obtain⟨x,hx⟩:=h n (by omega)
  refine⟨xs++[x],by simp[hl],fun i y hy=>?_⟩
  rcases Nat.lt_or_ge i n with hi|hi
  ·rw[List.getElem?_append_left (by omega)] at hy
   exact hq i y hy
  ·rw[List.getElem?_append_right (by omega),hl] at hy
   have:i=n:=by
    rcases Nat.lt_or_ge 0 (i-n) with g|g
    ·rw[List.getElem?_eq_none (by simp;omega)] at hy;cases hy
    ·omega
   subst this
   simp at hy
   subst hy
   exact hx
section
variable {H:Type} {enc:TypeId×Value→H} {W:World} {base:Nat} {spare:Nat→Bool} {held:Bool}
theorem Ed{α:Type}{f:α→List TV}{g:α→List Value}{es:Nat}(he:0<es)(hf:∀ x,f x=(g x).map .v)(hg:∀ x,(g x).length=es)(hat:∀ x,∀ c∈g x,Nj c)
 {P:Program} {t te:TypeId} (ht:P.underlying t=some (.slice te)) (hC:P.cellsOf te=es) {r:Reach} {b0:Nat} {v':Value} (hval:Cell.okWide P W r b0 t v')
 (elem:∀ n cs y,DataW.trod enc P W base spare held n te cs=some y→cs.length=es→∃ x:α,cs=g x)
 {fuel:Nat} {x:DataW H×List MemPlace} (h:DataW.trod enc P W base spare held fuel t [v']=some x):∃(xs:List α) (bs:List Blk) (is:List Info) (av:Nat→Value),Arg W v' (.list es (xs.map f)) bs is av:=by
 rcases DataW.trod_slice ht h with⟨hv,_⟩|⟨a,len,cap,elems,rest,n,_,hv,_,hb,hlc,hcm,hel,hel2,_,_⟩
 ·obtain rfl:v' = .slice none 0 0:=by simpa using hv
  exact⟨[],[],[],fun _=>.slice none 0 0,fun _ _ _ _ _=>.nilSlice 0 0,fun _ _ _ _ _=>.nillist _ _,fun _ _ _ _ _ j b h=>by simp at h,fun j b i h=>by simp at h,rfl⟩
 ·obtain rfl:v' = .slice (some a) len cap:=by simpa using hv
  have hok:len≤cap∧(cap:Int)≤IntKind.i64.max∧W.has P r b0 a te cap:=by
   unfold Cell.okWide at hval
   simp only[ht] at hval
   unfold Cell.ok at hval
   simpa only[ht] using hval
  obtain⟨gb,o,s⟩:=a
  obtain⟨_,_,_,hs,row,cells,hsh,_⟩:=hok
  simp only at hs hsh
  subst hs
  have hgb:gb<W.heap.size:=by
   unfold World.shape? at hsh
   rcases Nat.lt_or_ge gb W.heap.size with hg|hg
   ·exact hg
   ·rw[Array.getElem?_eq_none hg] at hsh
    simp at hsh
  have key:∀ i,i<len→∃ x:α,∀ j,j<es→W.cell? ⟨gb,o+i*es+j,none⟩=(g x)[j]?:=fun i hi=>by
   have h1:=hel2 i hi
   rw[List.getElem?_eq_getElem (by omega),Option.bind_eq_some_iff] at h1
   obtain⟨cs,hcs,htr⟩:=h1
   rw[hC] at hcs
   unfold World.cells? at hcs
   split at hcs
   ·have hlen:=mapM_some_length hcs
    simp at hlen
    obtain⟨x,rfl⟩:=elem n cs _ htr hlen
    refine⟨x,fun j hj=>?_⟩
    have:=mapM_some_get hcs j j (by simp[hj])
    have e:((⟨gb,o,none⟩:Addr).add (i*es)).add j=⟨gb,o+i*es+j,none⟩:=by
     unfold Addr.add
     split<;>split<;>simp_all
    rw[← e]
    exact this
   ·cases hcs
  obtain⟨xs,hl,hq⟩:=Ay len key
  subst hl
  have hlen:=Av hg xs
  have hfl:=Ar hf xs
  refine⟨xs,[.cells es (xs.flatMap g)],[⟨gb,o,cap*es,es⟩],fun n=>.slice (some ⟨n,0,none⟩) xs.length xs.length,fun D m n hD hm=>?_,fun Fz h n hF hh=>?_,fun D m n hD hm j b hb=>?_,fun j b i hb hi hd=>?_,rfl⟩
  ·have e:=hm 0 _ rfl
   rw[Nat.add_zero] at e
   have:=VR.slice (D:=D) (m:=m) n 0 xs.length xs.length cap (hD 0 (by simp)) (Nat.le_refl _) hlc (.inr (by rw[e];simp))
   rw[e] at this
   exact this
  ·have hw:∀ r∈xs.map f,r.length=es:=fun r hr=>by obtain⟨x,_,rfl⟩:=List.mem_map.1 hr;rw[hf,List.length_map,hg]
   have:=VL.list (Fz:=Fz) (h:=h) noL es (xs.map f) n 0 xs.length (xs.flatMap g) es (hF 0 (by simp)) (hh 0 _ rfl) (.inl rfl) hw (by simp) (by rw[List.length_map,hlen];omega) (fun j p x hp hx=>by
    rw[hfl,List.getElem?_map,Option.map_eq_some_iff] at hp
    rw[Nat.zero_add] at hx
    obtain⟨y,h1,rfl⟩:=hp
    obtain rfl:y=x:=Option.some.inj (h1.symm.trans hx)
    obtain⟨z,_,hz⟩:=List.mem_flatMap.1 (List.mem_of_getElem? hx)
    exact .v _ _ (hat z y hz).1)
   rw[List.length_map] at this
   exact this
  ·match j,hb with
   | 0,hb =>
    obtain rfl:=Option.some.inj hb
    have e:=hm 0 _ rfl
    rw[Nat.add_zero] at e ⊢
    refine⟨by rw[e],fun i v hv=>⟨v,?_,?_⟩⟩
    ·rw[Ej hg he,Option.bind_eq_some_iff] at hv
     obtain⟨x,hx,hv⟩:=hv
     rw[e]
     have:=hq _ x hx (i%es) (Nat.mod_lt _ he)
     rw[Nat.add_assoc,Nat.mul_comm,Nat.div_add_mod] at this
     rw[this]
     exact hv
    ·obtain⟨z,_,hz⟩:=List.mem_flatMap.1 (List.mem_of_getElem? hv)
     exact (hat z v hz).2 _ _
   | j+1,hb=>simp at hb
  ·match j,hb,hi with
   | 0, hb, hi => obtain rfl := Option.some.inj hi
                  exact hgb
   | j+1,hb,hi=>simp at hb
theorem Tj{α:Type}{f:α→List TV}{g:α→List Value}{es:Nat}(he:0<es)(hf:∀ x,f x=(g x).map .v)(hg:∀ x,(g x).length=es)(hat:∀ x,∀ c∈g x,Nj c)
 {P:Program} {t te:TypeId} (ht:P.underlying t=some (.slice te)) (hC:P.cellsOf te=es) {r:Reach} {b0:Nat} {v':Value} (hval:Value.okWide P W r b0 t v')
 (elem:∀ n cs y,DataW.trod enc P W base spare held n te cs=some y→cs.length=es→∃ x:α,cs=g x)
 {fuel:Nat} {x:DataW H×List MemPlace} (h:DataW.trod enc P W base spare held fuel t [v']=some x):∃(xs:List α) (bs:List Blk) (is:List Info) (av:Nat→Value),Arg W v' (.list es (xs.map f)) bs is av:=by
 refine Ed he hf hg hat ht hC (r:=r) (b0:=b0) ?_ elem h
 unfold Value.okWide at hval
 simpa only[ht] using hval
def AI(cs:List Value):Prop:=∀ c∈cs,∃ n:Int,c = .int .i64 n
theorem AI.list{cs:List Value}(h:AI cs):∃ l:List Int,cs=l.map (.int .i64):=by
 induction cs with
 | nil=>exact⟨[],rfl⟩
 | cons c t ih =>
  obtain⟨n,rfl⟩:=h c (by simp)
  obtain⟨l,rfl⟩:=ih fun c hc=>h c (by simp[hc])
  exact⟨n::l,rfl⟩
variable {P:Program}
theorem Vd{te:TypeId}(ht:P.underlying te=some (.int .i64)){fuel:Nat}{cs:List Value}{x:DataW H×List MemPlace}(h:DataW.trod enc P W base spare held fuel te cs=some x):AI cs:=by
 obtain⟨n,rfl,_⟩:=DataW.trod_int ht h
 exact fun c hc=>⟨n,by simpa using hc⟩
theorem aAC{t e:TypeId}{m k:Nat}(ht:P.underlying t=some (.array m e))(hk:P.cellsOf e=k)(hk0:0<k)(hc:P.cellsOf t=m*k)(he:∀ n cs y,DataW.trod enc P W base spare held n e cs=some y→AI cs)
 {fuel:Nat} {cs:List Value} {x:DataW H×List MemPlace} (h:DataW.trod enc P W base spare held fuel t cs=some x):AI cs:=by
 obtain⟨xs,n,_,_,hl,hx,hi⟩:=DataW.trod_array ht h
 intro c hcm
 obtain⟨j,hj,rfl⟩:=List.mem_iff_getElem.1 hcm
 rw[hl,hc] at hj
 have hd:j/k<m:=(Nat.div_lt_iff_lt_mul hk0).2 hj
 have h1:=hi _ hd
 rw[List.getElem?_eq_getElem (by omega),hk] at h1
 refine he _ _ _ h1 _ ?_
 refine List.mem_of_getElem? (i:=j%k) ?_
 rw[List.getElem?_take,if_pos (Nat.mod_lt _ hk0),List.getElem?_drop,Nat.mul_comm,Nat.div_add_mod,List.getElem?_eq_getElem]
theorem Kq{t:TypeId}(ht:P.underlying t=some (.int .i64)){r:Reach}{b:Nat}{v:Value}(w:Cell.okWide P W r b t v):∃ n:Int,v = .int .i64 n:=by
 unfold Cell.okWide at w
 simp only[ht] at w
 unfold Cell.ok at w
 simp only[ht] at w
 cases v<;>first|exact⟨_,by rw[w.1]⟩|exact absurd w (by simp)
theorem Uk{t ti e:TypeId}{k n:Nat}(ht:P.underlying t=some (.array k e))(hti:P.underlying ti=some (.int .i64))(hct:P.cellTypes P.depth t=some (List.replicate n ti))(hn:P.cellsOf t=n)
 {r:Reach} {b:Nat} {v:Value} (w:Value.okWide P W r b t v):∃ l:List Int,l.length=n∧v = .agg ⟨l.map (.int .i64)⟩:=by
 unfold Value.okWide at w
 simp only[ht] at w
 obtain⟨cs,rfl,hs,ts,hts,_,hc⟩:=w
 rw[hct] at hts
 obtain rfl:=Option.some.inj hts
 obtain⟨l⟩:=cs
 have:AI l:=by
  intro c hcm
  obtain⟨j,hj,rfl⟩:=List.mem_iff_getElem.1 hcm
  obtain⟨u,hu,hok⟩:=hc j l[j] (by simp)
  have:=List.eq_of_mem_replicate (List.mem_of_getElem? hu)
  subst this
  exact Kq hti hok
 obtain⟨l',rfl⟩:=this.list
 refine⟨l',?_,rfl⟩
 simpa [hn] using hs
theorem Um(l:List Int):Arg W (.agg ⟨l.map (.int .i64)⟩) (.agg (l.map fun x=>.v (.int .i64 x))) [] [] (fun _=>.agg ⟨l.map (.int .i64)⟩):=by
 have:=Arg.agg (W:=W) (l:=l.map (.int .i64)) fun c hc=>by obtain⟨x,_,rfl⟩:=List.mem_map.1 hc;exact rT _ _
 rwa [List.map_map] at this
theorem Qj{t:TypeId}{fs:Array Field}{ts:List TypeId}(ht:P.underlying t=some (.struct fs))(hct:P.cellTypes P.depth t=some ts)(hn:P.cellsOf t=ts.length){r:Reach}{b:Nat}{v:Value}(w:Value.okWide P W r b t v) :
 ∃ cs:List Value,v = .agg ⟨cs⟩∧cs.length=ts.length∧∀(j:Nat) c u,cs[j]?=some c→ts[j]?=some u→Cell.okWide P W r b u c:=by
 unfold Value.okWide at w
 simp only[ht] at w
 obtain⟨cs,rfl,hs,ts',hts,_,hc⟩:=w
 rw[hct] at hts
 obtain rfl:=Option.some.inj hts
 obtain⟨l⟩:=cs
 have hl:l.length=ts.length:=by simpa [hn] using hs
 refine⟨l,rfl,hl,fun j c u hj hu=>?_⟩
 obtain⟨u',hu',hok⟩:=hc j c (by simpa using hj)
 rw[Nat.mod_eq_of_lt (by have:=(List.getElem?_eq_some_iff.1 hj).1;omega)] at hu'
 obtain rfl:=Option.some.inj (hu.symm.trans hu')
 exact hok
theorem My{t:TypeId}{fs:Array Field}{i:Nat}{f:Field}(ht:P.underlying t=some (.struct fs))(hf:fs[i]?=some f){fuel:Nat}{cs:List Value}{x:DataW H×List MemPlace}(h:DataW.trod enc P W base spare held fuel t cs=some x) :
 ∃ n y,DataW.trod enc P W base spare held n f.type ((cs.drop f.offset).take (P.cellsOf f.type))=some y:=by
 obtain⟨xs,n,_,_,hl,hx,hi⟩:=DataW.trod_struct ht h
 have:=hi i f hf
 have hil:i<fs.size:=(Array.getElem?_eq_some_iff.1 hf).1
 rw[List.getElem?_eq_getElem (by omega)] at this
 exact⟨n,_,this⟩
end
end Go.Rex
namespace Go.Rex
open Go Go.ChangeShapes Go.WideShapes Go.ChangeAt Go.RowKit Go.Joins Go.Proofs
structure NArg(W:World)(v':Value)(p:TV)(bs:Nat→List Blk)(is:List Info)(av:Nat→Value):Prop where
 vr:∀(D:Nat→Prop) (m:NMap) n,(∀ j,j<is.length→D (n+j))→(∀(j:Nat) i,is[j]?=some i→m (n+j)=i)→VR D m (av n) v'
 vl:∀(Fz:Nat→Prop) (h:List Blk) n,(∀ j,j<is.length→Fz (n+j))→(∀(j:Nat) b,(bs n)[j]?=some b→h[n+j]?=some b)→VL Fz h noL p (av n)
 ok:∀(D:Nat→Prop) (m:NMap) n,(∀ j,j<is.length→D (n+j))→(∀(j:Nat) i,is[j]?=some i→m (n+j)=i)→∀(j:Nat) b,(bs n)[j]?=some b→BlkOk D m W (n+j) b
 lt:∀ n (j:Nat) b i,(bs n)[j]?=some b→is[j]?=some i→b ≠ .dead→i.block<W.heap.size
 len:∀ n,(bs n).length=is.length
structure NArgs(W:World)(vs':List Value)(ps:List TV)(bs:Nat→List Blk)(is:List Info)(av:Nat→List Value):Prop where
 vr:∀(D:Nat→Prop) (m:NMap) n,(∀ j,j<is.length→D (n+j))→(∀(j:Nat) i,is[j]?=some i→m (n+j)=i)→VRs D m (av n) vs'
 vl:∀(Fz:Nat→Prop) (h:List Blk) n,(∀ j,j<is.length→Fz (n+j))→(∀(j:Nat) b,(bs n)[j]?=some b→h[n+j]?=some b)→VLs Fz h noL ps (av n)
 ok:∀(D:Nat→Prop) (m:NMap) n,(∀ j,j<is.length→D (n+j))→(∀(j:Nat) i,is[j]?=some i→m (n+j)=i)→∀(j:Nat) b,(bs n)[j]?=some b→BlkOk D m W (n+j) b
 lt:∀ n (j:Nat) b i,(bs n)[j]?=some b→is[j]?=some i→b ≠ .dead→i.block<W.heap.size
 len:∀ n,(bs n).length=is.length
theorem Arg.n{W:World}{v':Value}{p:TV}{bs:List Blk}{is:List Info}{av:Nat→Value}(a:Arg W v' p bs is av):NArg W v' p (fun _=>bs) is av:=
 ⟨fun D m n hD hm=>a.vr D m n (by rw[← a.len];exact hD) hm,fun Fz h n hF hh=>a.vl Fz h n (by rw[← a.len];exact hF) hh,fun D m n hD hm=>a.ok D m n (by rw[← a.len];exact hD) hm,fun _=>a.lt,fun _=>a.len.symm⟩
theorem NArgs.nil(W:World):NArgs W [] [] (fun _=>[]) [] (fun _=>[]):=
 ⟨fun _ _ _ _ _=>⟨rfl,fun i a a' h=>by simp at h⟩,fun _ _ _ _ _=>.nil,fun _ _ _ _ _ j b h=>by simp at h,fun _ j b i h=>by simp at h,fun _=>rfl⟩
theorem NArgs.cons{W:World}{v':Value}{p:TV}{bs bs2:Nat→List Blk}{is is2:List Info}{av:Nat→Value}{vs':List Value}{ps:List TV}{avs:Nat→List Value}
 (a:NArg W v' p bs is av) (az:NArgs W vs' ps bs2 is2 avs):NArgs W (v'::vs') (p::ps) (fun n=>bs n++bs2 (n+is.length)) (is++is2) (fun n=>av n::avs (n+is.length)):=by
 have cD:∀(D:Nat→Prop) n,(∀ j,j<(is++is2).length→D (n+j))→(∀ j,j<is.length→D (n+j))∧(∀ j,j<is2.length→D (n+is.length+j)):=by
  intro D n h
  refine⟨fun j hj=>h j (by simp;omega),fun j hj=>?_⟩
  have:=h (is.length+j) (by simp;omega)
  rwa [← Nat.add_assoc] at this
 have cI:∀(m:NMap) n,(∀(j:Nat) i,(is++is2)[j]?=some i→m (n+j)=i)→(∀(j:Nat) i,is[j]?=some i→m (n+j)=i)∧(∀(j:Nat) i,is2[j]?=some i→m (n+is.length+j)=i):=by
  intro m n h
  refine⟨fun j i hj=>h j i (by rw[List.getElem?_append_left (List.getElem?_eq_some_iff.1 hj).1];exact hj),fun j i hj=>?_⟩
  have:=h (is.length+j) i (by rw[List.getElem?_append_right (by omega),Nat.add_sub_cancel_left];exact hj)
  rwa [← Nat.add_assoc] at this
 refine⟨fun D m n hD hm=>?_,fun Fz h n hF hh=>?_,fun D m n hD hm j b hb=>?_,fun n j b i hb hi hd=>?_,fun n=>by simp[a.len,az.len]⟩
 ·have h1:=a.vr D m n (cD D n hD).1 (cI m n hm).1
  have h2:=az.vr D m (n+is.length) (cD D n hD).2 (cI m n hm).2
  refine⟨by simp[h2.len],fun i x x' hx hx'=>?_⟩
  cases i with
  | zero=>simp at hx hx';subst hx hx';exact h1
  | succ i=>simp at hx hx';exact h2.at' i x x' hx hx'
 ·refine .cons (a.vl Fz h n (cD Fz n hF).1 fun j b hb=>hh j b (by rw[List.getElem?_append_left (List.getElem?_eq_some_iff.1 hb).1];exact hb)) (az.vl Fz h (n+is.length) (cD Fz n hF).2 fun j b hb=>?_)
  have:=hh (is.length+j) b (by rw[List.getElem?_append_right (by rw[a.len];omega),a.len,Nat.add_sub_cancel_left];exact hb)
  rwa [← Nat.add_assoc] at this
 ·rcases Nat.lt_or_ge j is.length with hj|hj
  ·rw[List.getElem?_append_left (by rw[a.len];exact hj)] at hb
   exact a.ok D m n (cD D n hD).1 (cI m n hm).1 j b hb
  ·rw[List.getElem?_append_right (by rw[a.len];exact hj),a.len] at hb
   have:=az.ok D m (n+is.length) (cD D n hD).2 (cI m n hm).2 _ b hb
   rwa [show n+is.length+(j-is.length)=n+j by omega] at this
 ·rcases Nat.lt_or_ge j is.length with hj|hj
  ·rw[List.getElem?_append_left (by rw[a.len];exact hj)] at hb
   rw[List.getElem?_append_left hj] at hi
   exact a.lt n j b i hb hi hd
  ·rw[List.getElem?_append_right (by rw[a.len];exact hj),a.len] at hb
   rw[List.getElem?_append_right hj] at hi
   exact az.lt _ _ b i hb hi hd
section
variable {W:World} {vs':List Value} {ps:List TV} {bs:Nat→List Blk} {is:List Info} {av:Nat→List Value}
def gnm(is:List Info):NMap:=fun k=>if k<NG then gm k else is.getD (k-NG) ⟨0,0,0,0⟩
theorem Ns{is:List Info}{j:Nat}{i:Info}(h:is[j]?=some i):gnm is (NG+j)=i:=by
 unfold gnm
 rw[if_neg (by omega),Nat.add_sub_cancel_left,List.getD_eq_getElem?_getD,h]
 rfl
theorem zQ:GH.length=NG:=rfl
theorem NArgs.rel(a:NArgs W vs' ps bs is av)(hw:GW W)(hs:NG≤W.heap.size):Rel W.heap.size (GH++bs NG).length (fun k=>k<(GH++bs NG).length) (gnm is) (GH++bs NG) W:=by
 have hl:=a.len NG
 have hn:(GH++bs NG).length=NG+is.length:=by rw[List.length_append,zQ,hl]
 have old:∀ k,k<NG→gnm is k=gm k:=fun k hk=>if_pos hk
 have parts:∀ n b,n<(GH++bs NG).length→(GH++bs NG)[n]?=some b→(n<NG∧GH[n]?=some b)∨∃ j,n=NG+j∧(bs NG)[j]?=some b:=by
  intro n b hn' hb
  rcases Nat.lt_or_ge n NG with h|h
  ·rw[List.getElem?_append_left h] at hb;exact .inl ⟨h,hb⟩
  ·rw[List.getElem?_append_right h,zQ] at hb;exact .inr ⟨n-NG,by omega,hb⟩
 have st:=Rel.start W hw hs
 have lt:∀ n b,n<(GH++bs NG).length→(GH++bs NG)[n]?=some b→b ≠ .dead→(gnm is n).block<W.heap.size:=by
  intro n b hn' hb hd
  rcases parts n b hn' hb with⟨h1,h2⟩|⟨j,rfl,h2⟩
  ·rw[old n h1];exact st.lt n b h1 h2 hd
  ·have hj:j<is.length:=by omega
   rw[Ns (List.getElem?_eq_getElem hj)]
   exact a.lt NG j b _ h2 (List.getElem?_eq_getElem hj) hd
 refine⟨Nat.le_refl _,fun _ h=>h,fun n b hn' hb=>?_,lt,fun n b hD hl=>absurd hD (by omega),fun n b hn' _ hb hd=>lt n b hn' hb hd,fun n b hD hl=>absurd hD (by omega),fun n n' b b' hD _ hl=>absurd hD (by omega),⟨fun g hg=>⟨?_,?_⟩,hs,hw⟩⟩
 ·rcases parts n b hn' hb with⟨h1,h2⟩|⟨j,rfl,h2⟩
  ·exact (st.ok n b h1 h2).mono (fun k hk=>by have hk':k<NG:=hk;show k<(GH++bs NG).length;omega) (fun k hk=>old k hk) (old n h1)
  ·exact a.ok (fun k=>k<(GH++bs NG).length) (gnm is) NG (fun j hj=>by omega) (fun j i hi=>Ns hi) j b h2
 ·show g<(GH++bs NG).length;omega
 ·rw[old g hg];exact Gc g
theorem NArgs.vls(a:NArgs W vs' ps bs is av):VLs (fun k=>k<(GH++bs NG).length) (GH++bs NG) noL ps (av NG):=by
 have hn:(GH++bs NG).length=NG+is.length:=by rw[List.length_append,zQ,a.len NG]
 exact a.vl _ _ NG (fun j hj=>by omega) (fun j b hb=>by rw[List.getElem?_append_right (by rw[zQ];omega),zQ,Nat.add_sub_cancel_left];exact hb)
theorem NArgs.fz(_a:NArgs W vs' ps bs is av):FZ (fun k=>k<(GH++bs NG).length) (GH++bs NG):=
 ⟨fun _ h=>h,fun g hg=>by
  have h1:g<GH.length:=hg
  exact⟨by rw[List.length_append];omega,List.getElem?_append_left h1⟩⟩
theorem NArgs.vrs(a:NArgs W vs' ps bs is av):VRs (fun k=>k<(GH++bs NG).length) (gnm is) (av NG) vs':=by
 have hn:(GH++bs NG).length=NG+is.length:=by rw[List.length_append,zQ,a.len NG]
 exact a.vr _ _ NG (fun j hj=>by omega) (fun j i hi=>Ns hi)
theorem NArg.ofArgs(a:NArgs W vs' ps bs is av):NArg W (.agg ⟨vs'⟩) (.agg ps) bs is (fun n=>.agg ⟨av n⟩):=
 ⟨fun D m n hD hm=>.agg' (a.vr D m n hD hm),fun Fz h n hF hh=>.agg' (a.vl Fz h n hF hh),a.ok,a.lt,a.len⟩
end
section
variable {H:Type} {enc:TypeId×Value→H} {W:World} {base:Nat} {spare:Nat→Bool} {held:Bool}
end
section
variable {H:Type} {enc:TypeId×Value→H} {W:World} {base:Nat} {spare:Nat→Bool} {held:Bool}
end
section
variable {H:Type} {enc:TypeId×Value→H} {W:World} {base:Nat} {spare:Nat→Bool} {held:Bool} {P:Program} {k0:FloatKind}
end
end Go.Rex
